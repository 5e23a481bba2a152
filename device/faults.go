package device

import (
	"slices"

	"pagemend/api"
)

// validFaults reports whether d may have as many faults, and each is valid.
func validFaults(d api.Device) bool {
	if len(d.Faults) > api.MaxFaults {
		return false
	}
	for _, f := range d.Faults {
		if !validFault(d, f) {
			return false
		}
	}
	return true
}

// validFault reports whether f may still come to d. The ranges hold for all fields of all kinds, because 0 is a page and a byte of every device.
func validFault(d api.Device, f api.Fault) bool {
	return f.At > d.Writes && f.At <= api.MaxLSN &&
		hasPage(d, f.Page) && hasPage(d, f.Target) &&
		f.Byte >= 0 && f.Byte < api.PageSize &&
		validKind(f)
}

// validKind reports whether the kind of f exists, and the fields that it does not use are 0.
func validKind(f api.Fault) bool {
	used := api.Fault{Kind: f.Kind, At: f.At}
	switch f.Kind {
	case api.FaultLost, api.FaultDead:
	case api.FaultMisdirect:
		used.Target = f.Target
	case api.FaultTear:
		used.Byte = f.Byte
	case api.FaultRot:
		used.Page, used.Byte, used.Mask = f.Page, f.Byte, f.Mask
		if f.Mask == 0 { // nothing would rot
			return false
		}
	case api.FaultUnreadable:
		used.Page = f.Page
	default:
		return false
	}
	return f == used
}

// takeDue takes the faults of the present write from the list, and returns them in their order.
func takeDue(d *api.Device) []api.Fault {
	now := d.Writes
	due := slices.DeleteFunc(slices.Clone(d.Faults), func(f api.Fault) bool { return f.At != now })
	d.Faults = slices.DeleteFunc(d.Faults, func(f api.Fault) bool { return f.At == now })
	return due
}

// What becomes of a write: it is done, or one of its faults keeps it from that.
type (
	done        struct{}
	lost        struct{}
	misdirected struct{ target int }
	torn        struct{ count int }
)

// becomes returns what becomes of a write with these faults, of which only the first one that concerns the write itself counts.
func becomes(due []api.Fault) any {
	for _, f := range due {
		switch f.Kind {
		case api.FaultLost:
			return lost{}
		case api.FaultMisdirect:
			return misdirected{f.Target}
		case api.FaultTear:
			return torn{f.Byte}
		}
	}
	return done{}
}

// carryOut does what becomes of the write of s to a page.
func carryOut(d *api.Device, what any, page int, s string) {
	switch w := what.(type) {
	case lost:
	case misdirected:
		overwrite(d, w.target, s, api.PageSize)
	case torn:
		overwrite(d, page, s, w.count)
	case done:
		overwrite(d, page, s, api.PageSize)
	}
}

// harm lets a fault happen behind a write; those that concern the write itself do nothing here.
func harm(d *api.Device, f api.Fault) {
	switch f.Kind {
	case api.FaultRot:
		rot(d, f)
	case api.FaultUnreadable:
		hide(d, f.Page)
	case api.FaultDead:
		d.Dead = true
	}
}

// rot changes one byte of a page.
func rot(d *api.Device, f api.Fault) {
	b := []byte(d.Pages[f.Page])
	b[f.Byte] ^= f.Mask
	d.Pages[f.Page] = string(b)
}

// hide makes a page unreadable; the list stays ascending.
func hide(d *api.Device, page int) {
	at, found := slices.BinarySearch(d.Unreadable, page)
	if !found {
		d.Unreadable = slices.Insert(d.Unreadable, at, page)
	}
}
