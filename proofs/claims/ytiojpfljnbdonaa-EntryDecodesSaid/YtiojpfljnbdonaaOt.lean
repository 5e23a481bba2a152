/- The sanity check of layer 5; EntrySizes. -/
import Derived.Test.YtiojpfljnbdonaaOq
import Derived.Test.YtiojpfljnbdonaaCy
namespace Go.Proofs.Ytiojpfljnbdonaa.ot
open Go.ChangeShapes Go.WideShapes Go.ChangeAt Go.RowKit Go.Proofs.Ytiojpfljnbdonaa.cx Go.Proofs.Ytiojpfljnbdonaa.ra Go.Proofs.Ytiojpfljnbdonaa.rb Go.Proofs.Ytiojpfljnbdonaa.rc Go.Proofs.Ytiojpfljnbdonaa.da Go.Proofs.Ytiojpfljnbdonaa.ea Go.Proofs.Ytiojpfljnbdonaa.eb Go.Proofs.Ytiojpfljnbdonaa.ed Go.Proofs.Ytiojpfljnbdonaa.fb Go.Proofs.Ytiojpfljnbdonaa.ka Go.Proofs.Ytiojpfljnbdonaa.kb Go.Proofs.Ytiojpfljnbdonaa.kg Go.Proofs.Ytiojpfljnbdonaa.kj Go.Proofs.Ytiojpfljnbdonaa.oa Go.Proofs.Ytiojpfljnbdonaa.os Go.Proofs.Ytiojpfljnbdonaa.ob Go.Proofs.Ytiojpfljnbdonaa.oc Go.Proofs.Ytiojpfljnbdonaa.od Go.Proofs.Ytiojpfljnbdonaa.og Go.Proofs.Ytiojpfljnbdonaa.oh Go.Proofs.Ytiojpfljnbdonaa.oj Go.Proofs.Ytiojpfljnbdonaa.ok Go.Proofs.Ytiojpfljnbdonaa.ol Go.Proofs.Ytiojpfljnbdonaa.on Go.Proofs.Ytiojpfljnbdonaa.op Go.Proofs.Ytiojpfljnbdonaa.oq

def xA : Ent := ⟨9, 3, 2, 8, 0, 0, chg0, ⟨#[]⟩⟩
theorem valid_A : validE xA = true := by decide +kernel
theorem fits_A : FitsE xA := ⟨⟨by decide, by decide⟩, by decide⟩
/-- What Encode does with a valid entry, what Decode with its bytes. -/
theorem enc_ok {x : Ent} (h : validE x = true) (hf : FitsE x) (w : World) : Calls Try.prog 12 #[.agg x.arr] w fun e' w' => e' = .returned (.tuple #[.string (bytesE x), .int .i64 0]) ∧ Below w.heap.size w w' := by
  have := encode_any x w hf
  unfold encS encE at this
  rwa [if_pos h, if_pos h] at this
theorem dec_ok {x : Ent} (h : validE x = true) (hs : (bytesE x).size ≤ 900000) (w : World) : Calls Try.prog 20 #[.string (bytesE x)] w fun e' w' => e' = .returned (.tuple #[.agg x.arr, .int .i64 0]) ∧ Below w.heap.size w w' := by
  have := decode_any (bytesE x) hs w
  rwa [decR_forth h] at this
theorem small_bytes {x : Ent} (h : validE x = true) : (bytesE x).size ≤ 9000 := by
  have h1 := bytes_size h
  have h2 := valid_fits h
  obtain ⟨a, b, c⟩ := h2
  omega
set_option maxRecDepth 4000 in
theorem awake_any (w : World) : Calls Try.prog 8 #[] w fun e w' => e = .returned (.bool true) ∧ Below w.heap.size w w' := by
  have H1 := Lib.hid (enc_ok valid_A fits_A)
  have H2 := Lib.hid (dec_ok valid_A (by have := small_bytes valid_A; omega))
  have hsz : (bytesE xA).size = 48 := bytes_size valid_A
  generalize bytesE xA = bA at H1 H2 hsz
  have HU : Hid True := Lib.hid trivial
  go_enter Try.func8, Try.ntmps8
  go_wp2_with (first
    | (go_at_call 12; refine (H1.out _).mono ?_; rintro e1 w1 ⟨rfl, hb⟩; have HB1 := Lib.hid hb; clear hb)
    | (go_at_call 20; (with_reducible refine (H2.out _).mono ?_); rintro e2 w2 ⟨rfl, hb⟩; have HB2 := Lib.hid (HB1.out.trans (hb.mono HB1.out.size)); clear hb HB1)
    | (have hle := HB2.out.size; clear HU; refine wp_newEntW rfl rfl ?_; intro w3 hE hb3 z3; have E3 := Lib.hid hE; have HB3 := Lib.hid (HB2.out.trans (hb3.mono HB2.out.size)); clear hE hb3 HB2)
    | (refine wp_storeEntW xA E3.out (evals_length _) rfl rfl rfl rfl ?_; intro w4 hE hS; have a0 := RowAt.cells hE 0 _ rfl; have a2 := RowAt.cells hE 2 _ rfl; have HB4 := Lib.hid (StoredAt.below hS HB3.out (by omega)); clear hE hS E3 HB3))
  go_ret
  exact ⟨rfl, HB4.out⟩
set_option maxRecDepth 4000 in
set_option maxHeartbeats 1000000 in
theorem sizes_walk (so : Option Addr) (len cap : Nat) (w : World) (hin : BytesIn so len w) (hl : len ≤ 9223372036854775807) (hc : len ≤ cap) :
    Calls Try.prog 6 #[.slice so len cap] w fun e w' => e = .returned (.bool true) ∧ Below w.heap.size w w' := by
  have HU : Hid True := Lib.hid trivial
  go_enter Try.func6, Try.ntmps6
  go_wp2_with (first
    | (go_at_call 8; refine (awake_any _).mono ?_; rintro e1 w1 ⟨rfl, hb⟩; have le1 := hb.size; have HI := Lib.hid (bytesIn_below hin hb); have HB1 := Lib.hid hb; clear hb)
    | (go_at_call 9; refine (new_is so len cap 100 100 rfl _ HI.out hl hc (by decide)).mono ?_; rintro e2 w2 ⟨rfl, hC, hb, hz⟩; have C2 := Lib.hid hC; have HB2 := Lib.hid (HB1.out.trans (hb.mono HB1.out.size)); clear hC hb hz HB1 HI)
    | (go_at_call 10; refine (entry_any _ _ C2.out).mono ?_; rintro e3 w3 ⟨x, rfl, hd, hC, hg⟩; have HB3 := Lib.hid (below_row HB2.out hg le1); have HV := Lib.hid (drawn_valid hd); have HF := Lib.hid (drawn_fitsE hd); have hsz := bytes_size HV.out; obtain ⟨f1, f2, f3⟩ := valid_fits HV.out; have hq : (((bytesE x).size : Int) == 48 + (x.change.before.data.size : Int) + (x.change.after.data.size : Int) + (x.blob.size : Int)) = true := (by rw [beq_iff_eq]; omega); clear hC hg hd HB2 C2 hsz)
    | (have hle := HB3.out.size; clear HU; refine wp_newEntW rfl rfl ?_; intro w4 hE hb z4; have E4 := Lib.hid hE; have HB4 := Lib.hid (HB3.out.trans (hb.mono HB3.out.size)); clear hE hb HB3)
    | (refine wp_storeEntW x E4.out (evals_length _) rfl rfl rfl rfl ?_; intro w5 hE hS; have E5 := Lib.hid hE; have HB5 := Lib.hid (StoredAt.below hS HB4.out (by omega)); clear hE hS E4 HB4)
    | (refine wp_loadEnt x E5.out rfl rfl rfl ?_)
    | (go_at_call 12; (with_reducible refine (enc_ok HV.out HF.out _).mono ?_); rintro e6 w6 ⟨rfl, hb⟩; obtain ⟨_, _, _, _, _, _, _, _, _, a9, _, a11, a12⟩ := EnAt.all (RowAt.keep E5.out hb); have HB6 := Lib.hid (HB5.out.trans (hb.mono HB5.out.size)); clear hb E5 HB5))
  go_ret
  exact ⟨rfl, HB6.out⟩
end Go.Proofs.Ytiojpfljnbdonaa.ot
