/- PageDamage: the walk. -/
import Derived.Test.YtlfcnjnfnfimmaaDoorFd
import Derived.Deep.RegionWith
namespace Go.Proofs.YtlfcnjnfnfimmaaDoor.fe
open Go.ChangeShapes Go.WideShapes Go.ChangeAt Go.RowKit Go.Proofs.YtlfcnjnfnfimmaaDoor.cm Go.Proofs.YtlfcnjnfnfimmaaDoor.cw Go.Proofs.YtlfcnjnfnfimmaaDoor.cp Go.Proofs.YtlfcnjnfnfimmaaDoor.cg Go.Proofs.YtlfcnjnfnfimmaaDoor.ch Go.Proofs.YtlfcnjnfnfimmaaDoor.cx Go.Proofs.YtlfcnjnfnfimmaaDoor.ra Go.Proofs.YtlfcnjnfnfimmaaDoor.rb Go.Proofs.YtlfcnjnfnfimmaaDoor.rc Go.Proofs.YtlfcnjnfnfimmaaDoor.da Go.Proofs.YtlfcnjnfnfimmaaDoor.db Go.Proofs.YtlfcnjnfnfimmaaDoor.dc Go.Proofs.YtlfcnjnfnfimmaaDoor.dd Go.Proofs.YtlfcnjnfnfimmaaDoor.de Go.Proofs.YtlfcnjnfnfimmaaDoor.df Go.Proofs.YtlfcnjnfnfimmaaDoor.dg Go.Proofs.YtlfcnjnfnfimmaaDoor.dh Go.Proofs.YtlfcnjnfnfimmaaDoor.di Go.Proofs.YtlfcnjnfnfimmaaDoor.dj Go.Proofs.YtlfcnjnfnfimmaaDoor.dk Go.Proofs.YtlfcnjnfnfimmaaDoor.dl Go.Proofs.YtlfcnjnfnfimmaaDoor.ea Go.Proofs.YtlfcnjnfnfimmaaDoor.eb Go.Proofs.YtlfcnjnfnfimmaaDoor.fa Go.Proofs.YtlfcnjnfnfimmaaDoor.fb Go.Proofs.YtlfcnjnfnfimmaaDoor.fd


/-- The store of a page into a variable of its own. -/
def stored (q : Pg) (b : Nat) (W : World) : World := W.setCells b 0 q.vals
theorem st_at {b : Nat} {p : Pg} {W : World} (h : PgAt b p W) (q : Pg) : Sem.run Tryd.prog (storeCells ⟨b, 0, none⟩ q.arr.toList) W = .ok () (stored q b W) := by
  have ht := RowAt.there h 0 34 (by rw [vals_length]; omega)
  have := run_storeCells_cells (P := Tryd.prog) b 0 q.vals 0 W (fun j hj => by rw [vals_length] at hj; simpa using (ht j hj).1) (fun j hj => by rw [vals_length] at hj; simpa using (ht j hj).2) (fun v hv => List.all_eq_true.1 (vals_one q) v hv)
  exact this
theorem st_new (q : Pg) (W : World) : Sem.run Tryd.prog (storeCells ⟨W.heap.size, 0, none⟩ q.arr.toList) (W.alloc (.cells #[Value.int .i64 0, .int .i64 0, Value.bool false, Value.string ⟨#[]⟩, Value.bool false, Value.string ⟨#[]⟩, Value.bool false, Value.string ⟨#[]⟩, Value.bool false, Value.string ⟨#[]⟩, Value.bool false, Value.string ⟨#[]⟩, Value.bool false, Value.string ⟨#[]⟩, Value.bool false, Value.string ⟨#[]⟩, Value.bool false, Value.string ⟨#[]⟩, Value.bool false, Value.string ⟨#[]⟩, Value.bool false, Value.string ⟨#[]⟩, Value.bool false, Value.string ⟨#[]⟩, Value.bool false, Value.string ⟨#[]⟩, Value.bool false, Value.string ⟨#[]⟩, Value.bool false, Value.string ⟨#[]⟩, Value.bool false, Value.string ⟨#[]⟩, Value.bool false, Value.string ⟨#[]⟩] 27)) = .ok () (stored q W.heap.size (W.alloc (.cells #[Value.int .i64 0, .int .i64 0, Value.bool false, Value.string ⟨#[]⟩, Value.bool false, Value.string ⟨#[]⟩, Value.bool false, Value.string ⟨#[]⟩, Value.bool false, Value.string ⟨#[]⟩, Value.bool false, Value.string ⟨#[]⟩, Value.bool false, Value.string ⟨#[]⟩, Value.bool false, Value.string ⟨#[]⟩, Value.bool false, Value.string ⟨#[]⟩, Value.bool false, Value.string ⟨#[]⟩, Value.bool false, Value.string ⟨#[]⟩, Value.bool false, Value.string ⟨#[]⟩, Value.bool false, Value.string ⟨#[]⟩, Value.bool false, Value.string ⟨#[]⟩, Value.bool false, Value.string ⟨#[]⟩, Value.bool false, Value.string ⟨#[]⟩, Value.bool false, Value.string ⟨#[]⟩] 27))) :=
  st_at (p := newPg 0) (PgAt.new (newPg 0) W _) q
theorem below_stored {B b : Nat} {a W : World} (q : Pg) (h : Below B a W) (hB : B ≤ b) : Below B a (stored q b W) := below_setCells b hB _ 0 _ h
theorem thru {B : Nat} {a W W' : World} (h : Below B a W) (hB : B ≤ W.heap.size) (hb : Below W.heap.size W W') : Below B a W' := h.trans (hb.mono hB)
theorem fin {bs B : Nat} {vs : List Value} {a W W' : World} (hr : RowAt bs vs W) (h : Below B a W) (hB : B ≤ W.heap.size) (hf : Below W.heap.size W W') : RowAt bs vs W' ∧ Below B a W' := ⟨hr.keep hf, thru h hB hf⟩
theorem bel1 {B : Nat} {a W : World} (h : Below B a W) (hB : B ≤ W.heap.size) (o : Obj) : Below B a (W.alloc o).drew := (h.alloc hB o).drew
theorem bel2 {B : Nat} {a W : World} (h : Below B a W) (hB : B ≤ W.heap.size) (o o' : Obj) : Below B a ((W.alloc o).alloc o').drew := ((h.alloc hB o).alloc (by simp; omega) o').drew
theorem row2 {W W' : World} {o : Obj} (q : Pg) (hb : Below ((W.alloc o).alloc (.cells #[Value.int .i64 0, .int .i64 0, Value.bool false, Value.string ⟨#[]⟩, Value.bool false, Value.string ⟨#[]⟩, Value.bool false, Value.string ⟨#[]⟩, Value.bool false, Value.string ⟨#[]⟩, Value.bool false, Value.string ⟨#[]⟩, Value.bool false, Value.string ⟨#[]⟩, Value.bool false, Value.string ⟨#[]⟩, Value.bool false, Value.string ⟨#[]⟩, Value.bool false, Value.string ⟨#[]⟩, Value.bool false, Value.string ⟨#[]⟩, Value.bool false, Value.string ⟨#[]⟩, Value.bool false, Value.string ⟨#[]⟩, Value.bool false, Value.string ⟨#[]⟩, Value.bool false, Value.string ⟨#[]⟩, Value.bool false, Value.string ⟨#[]⟩, Value.bool false, Value.string ⟨#[]⟩] 27)).drew.heap.size ((W.alloc o).alloc (.cells #[Value.int .i64 0, .int .i64 0, Value.bool false, Value.string ⟨#[]⟩, Value.bool false, Value.string ⟨#[]⟩, Value.bool false, Value.string ⟨#[]⟩, Value.bool false, Value.string ⟨#[]⟩, Value.bool false, Value.string ⟨#[]⟩, Value.bool false, Value.string ⟨#[]⟩, Value.bool false, Value.string ⟨#[]⟩, Value.bool false, Value.string ⟨#[]⟩, Value.bool false, Value.string ⟨#[]⟩, Value.bool false, Value.string ⟨#[]⟩, Value.bool false, Value.string ⟨#[]⟩, Value.bool false, Value.string ⟨#[]⟩, Value.bool false, Value.string ⟨#[]⟩, Value.bool false, Value.string ⟨#[]⟩, Value.bool false, Value.string ⟨#[]⟩, Value.bool false, Value.string ⟨#[]⟩] 27)).drew W') : Sem.run Tryd.prog (storeCells ⟨W.heap.size + 1, 0, none⟩ q.arr.toList) W' = .ok () (stored q (W.heap.size + 1) W') := by
  have h : RowAt (W.alloc o).heap.size (newPg 0).vals ((W.alloc o).alloc (.cells #[Value.int .i64 0, .int .i64 0, Value.bool false, Value.string ⟨#[]⟩, Value.bool false, Value.string ⟨#[]⟩, Value.bool false, Value.string ⟨#[]⟩, Value.bool false, Value.string ⟨#[]⟩, Value.bool false, Value.string ⟨#[]⟩, Value.bool false, Value.string ⟨#[]⟩, Value.bool false, Value.string ⟨#[]⟩, Value.bool false, Value.string ⟨#[]⟩, Value.bool false, Value.string ⟨#[]⟩, Value.bool false, Value.string ⟨#[]⟩, Value.bool false, Value.string ⟨#[]⟩, Value.bool false, Value.string ⟨#[]⟩, Value.bool false, Value.string ⟨#[]⟩, Value.bool false, Value.string ⟨#[]⟩, Value.bool false, Value.string ⟨#[]⟩, Value.bool false, Value.string ⟨#[]⟩] 27)) := PgAt.new (newPg 0) (W.alloc o) _
  rw [show (W.alloc o).heap.size = W.heap.size + 1 from by simp] at h
  exact st_at (p := newPg 0) (h.drew.keep hb) q
theorem row1 {W W' : World} {o : Obj} (q : Pg) (hb : Below ((W.alloc (.cells #[Value.int .i64 0, .int .i64 0, Value.bool false, Value.string ⟨#[]⟩, Value.bool false, Value.string ⟨#[]⟩, Value.bool false, Value.string ⟨#[]⟩, Value.bool false, Value.string ⟨#[]⟩, Value.bool false, Value.string ⟨#[]⟩, Value.bool false, Value.string ⟨#[]⟩, Value.bool false, Value.string ⟨#[]⟩, Value.bool false, Value.string ⟨#[]⟩, Value.bool false, Value.string ⟨#[]⟩, Value.bool false, Value.string ⟨#[]⟩, Value.bool false, Value.string ⟨#[]⟩, Value.bool false, Value.string ⟨#[]⟩, Value.bool false, Value.string ⟨#[]⟩, Value.bool false, Value.string ⟨#[]⟩, Value.bool false, Value.string ⟨#[]⟩, Value.bool false, Value.string ⟨#[]⟩] 27)).alloc o).drew.heap.size ((W.alloc (.cells #[Value.int .i64 0, .int .i64 0, Value.bool false, Value.string ⟨#[]⟩, Value.bool false, Value.string ⟨#[]⟩, Value.bool false, Value.string ⟨#[]⟩, Value.bool false, Value.string ⟨#[]⟩, Value.bool false, Value.string ⟨#[]⟩, Value.bool false, Value.string ⟨#[]⟩, Value.bool false, Value.string ⟨#[]⟩, Value.bool false, Value.string ⟨#[]⟩, Value.bool false, Value.string ⟨#[]⟩, Value.bool false, Value.string ⟨#[]⟩, Value.bool false, Value.string ⟨#[]⟩, Value.bool false, Value.string ⟨#[]⟩, Value.bool false, Value.string ⟨#[]⟩, Value.bool false, Value.string ⟨#[]⟩, Value.bool false, Value.string ⟨#[]⟩, Value.bool false, Value.string ⟨#[]⟩] 27)).alloc o).drew W') : Sem.run Tryd.prog (storeCells ⟨W.heap.size, 0, none⟩ q.arr.toList) W' = .ok () (stored q W.heap.size W') := by
  have h : RowAt W.heap.size (newPg 0).vals (W.alloc (.cells #[Value.int .i64 0, .int .i64 0, Value.bool false, Value.string ⟨#[]⟩, Value.bool false, Value.string ⟨#[]⟩, Value.bool false, Value.string ⟨#[]⟩, Value.bool false, Value.string ⟨#[]⟩, Value.bool false, Value.string ⟨#[]⟩, Value.bool false, Value.string ⟨#[]⟩, Value.bool false, Value.string ⟨#[]⟩, Value.bool false, Value.string ⟨#[]⟩, Value.bool false, Value.string ⟨#[]⟩, Value.bool false, Value.string ⟨#[]⟩, Value.bool false, Value.string ⟨#[]⟩, Value.bool false, Value.string ⟨#[]⟩, Value.bool false, Value.string ⟨#[]⟩, Value.bool false, Value.string ⟨#[]⟩, Value.bool false, Value.string ⟨#[]⟩, Value.bool false, Value.string ⟨#[]⟩] 27)) := PgAt.new (newPg 0) W _
  exact st_at (p := newPg 0) ((h.alloc o).drew.keep hb) q
theorem conv2 (W : World) (x : Int) (o : Obj) : (convert 22 9 (.slice (some ⟨W.heap.size, 0, none⟩) 1 1)).run Tryd.prog ((W.alloc (.cells #[.int .u8 x] 5)).alloc o).drew = .ok (.string (strOfNums [x])) ((W.alloc (.cells #[.int .u8 x] 5)).alloc o).drew := by
  have R : RowAt W.heap.size [.int .u8 x] ((W.alloc (.cells #[.int .u8 x] 5)).alloc o).drew := ((RowAt.newA #[.int .u8 x] W 5).alloc o).drew
  exact run_convert_bytes_arg (P := Tryd.prog) _ 22 5 Tryd.underlying22 Tryd.underlying5 W.heap.size 0 1 1 [x] rfl (fun i hi => by
    obtain rfl : i = 0 := by omega
    exact R.cells 0 _ rfl) 9 Tryd.underlying9
theorem conv3 (W : World) (x : Int) (o : Obj) : (convert 22 9 (.slice (some ⟨W.heap.size + 1, 0, none⟩) 1 1)).run Tryd.prog ((W.alloc o).alloc (.cells #[.int .u8 x] 5)).drew = .ok (.string (strOfNums [x])) ((W.alloc o).alloc (.cells #[.int .u8 x] 5)).drew := by
  have R : RowAt (W.alloc o).heap.size [.int .u8 x] ((W.alloc o).alloc (.cells #[.int .u8 x] 5)).drew := (RowAt.newA #[.int .u8 x] (W.alloc o) 5).drew
  rw [show (W.alloc o).heap.size = W.heap.size + 1 from by simp] at R
  exact run_convert_bytes_arg (P := Tryd.prog) _ 22 5 Tryd.underlying22 Tryd.underlying5 (W.heap.size + 1) 0 1 1 [x] rfl (fun i hi => by
    obtain rfl : i = 0 := by omega
    exact R.cells 0 _ rfl) 9 Tryd.underlying9

set_option maxRecDepth 4000 in
set_option maxHeartbeats 2000000 in
theorem damage_walk (so : Option Addr) (len cap : Nat) (a b : Int) (w : World) (hw : TabOk w) (ha0 : 0 ≤ a) (ha1 : a ≤ 255) (hb0 : 0 ≤ b) (hb1 : b ≤ 255) (hin : BytesIn so len w) (hl : len ≤ 9223372036854775807) (hc : len ≤ cap) :
    Calls Tryd.prog 7 #[.slice so len cap, .int .u8 a, .int .u8 b] w fun e w' => e = .returned (.bool true) ∧ Below w.heap.size w w' := by
  have hz := tab_size hw
  have HIN := Lib.hid hin
  clear hin
  by_cases hb : b = 0
  · subst hb
    go_enter Tryd.func7, Tryd.ntmps7
    go_wp2_with fail
    go_at_call 10
    refine (awake_any _ hw).mono ?_
    rintro e w1 ⟨rfl, hb1⟩
    go_wp2_with fail
    go_ret
    exact ⟨rfl, hb1⟩
  have hbb : (b == 0) = false := by simpa using hb
  go_enter Tryd.func7, Tryd.ntmps7
  go_wp2_with fail
  go_at_call 10
  refine (awake_any _ hw).mono ?_
  rintro e w1 ⟨rfl, hb1⟩
  have B1 := Lib.hid hb1
  have hle := hb1.size
  clear hb1
  go_wp2_with fail
  go_at_call 11
  refine (new_is so len cap 100 _ (by decide) _ (bytesIn_below HIN.out B1.out) hl hc (by decide)).mono ?_
  rintro e w2 ⟨rfl, hC2, hb2, hz2⟩
  have C2 := Lib.hid hC2
  have B2 := Lib.hid (B1.out.trans (hb2.mono B1.out.size))
  clear hC2 hb2 hz2
  go_wp2_with fail
  go_at_call 13
  refine (next_any w1.heap.size 64 _ C2.out (by decide)).mono ?_
  rintro e w3 ⟨r, rfl, hr0, hr1, _, hC3, hg3⟩
  have hr64 := hr1 (by decide)
  have C3 := Lib.hid hC3
  have B3 := Lib.hid (B2.out.grown hg3 B2.out.size (fun k e => by injection e with e; omega))
  clear hC3 hg3 hr1 C2
  go_wp2_with fail
  go_at_call 12
  refine (page_any w1.heap.size r _ C3.out).mono ?_
  rintro e w4 ⟨p, rfl, hp1, hp2, hp3, hp4, hC4, hg4⟩
  have HEP : Hid (encE p = 0) := Lib.hid (encE_drawn (by omega) (by omega) hp2 hp3 hp4)
  have B4 := Lib.hid (B3.out.grown hg4 B3.out.size (fun k e => by injection e with e; omega))
  clear hC4 hg4 hp4 hp1 hp2 hp3 C3
  go_wp2_with fail
  go_at_call 15
  refine (encode_ok p HEP.out _ (tab_below hw B4.out hz)).mono ?_
  rintro e w5 ⟨rfl, hb5⟩
  have B5 := Lib.hid (B4.out.trans (hb5.mono B4.out.size))
  clear hb5
  go_wp2_with fail
  go_at_call 21
  refine (blank_any _).mono ?_
  rintro e w6 ⟨rfl, hb6⟩
  have B6 := Lib.hid (B5.out.trans (hb6.mono B5.out.size))
  clear hb6
  have OK1 := Lib.hid (fun k (hk : k < 256) => hurt_page HEP.out hk hb hb0 hb1)
  have OK2 := Lib.hid (fun k (hk : k < 256) => hurt_blank hk hb hb0 hb1)
  have Z1 := Lib.hid (encS_size (small_of_encE HEP.out))
  have Z2 := Lib.hid (zeroS_size 256)
  generalize encS p = x1 at OK1 Z1 ⊢
  generalize zeroS 256 = x2 at OK2 Z2 ⊢
  go_wp2_with fail
  have R0 : RowAt w6.heap.size [.string x1, .string x2] (w6.alloc (.cells #[.string x1, .string x2] 9)) := RowAt.newA #[.string x1, .string x2] w6 9
  have BB : Below w.heap.size w (w6.alloc (.cells #[.string x1, .string x2] 9)) := B6.out.alloc B6.out.size _
  generalize w6.alloc (.cells #[.string x1, .string x2] 9) = W0 at R0 BB ⊢
  generalize w6.heap.size = bs at R0 ⊢
  have HR0 := Lib.hid R0
  have HBB := Lib.hid BB
  clear R0 BB
  go_loopw [37] (fun i wr => ∃ j : Nat, j ≤ 2 ∧ i = .int .i64 j ∧ RowAt bs [.string x1, .string x2] wr ∧ Below w.heap.size w wr) (fun i _ => 2 - (intOf i).toNat)
  case atStart => exact ⟨0, by omega, rfl, HR0.out, HBB.out⟩
  case round =>
    obtain ⟨j, hj, rfl, h1, h2⟩ := hrel
    have HR1 := Lib.hid h1
    have HB1 := Lib.hid h2
    clear HR0 HBB h1 h2
    by_cases hj2 : j < 2
    · obtain ⟨x, hx, hok, hxz⟩ : ∃ x, [Value.string x1, .string x2][j]? = some (.string x) ∧ (∀ k, k < 256 → decE (hurt x k (bits .xor .u8 (byteN x k : Nat) b)) ≠ 0 ∧ decE (hurt x k (bits .xor .u8 (byteN x k : Nat) b)) ≠ 7) ∧ x.size = 256 := by
        have h01 : j = 0 ∨ j = 1 := by omega
        rcases h01 with rfl | rfl
        · exact ⟨x1, rfl, OK1.out, Z1.out⟩
        · exact ⟨x2, rfl, OK2.out, Z2.out⟩
      have hcell := HR1.out.cells j _ hx
      obtain ⟨k, rfl⟩ := Int.eq_ofNat_of_zero_le ha0
      have hk256 : k < 256 := by omega
      have HX : Hid (decE (hurt x k (bits .xor .u8 (byteN x k : Nat) b)) ≠ 0 ∧ decE (hurt x k (bits .xor .u8 (byteN x k : Nat) b)) ≠ 7) := Lib.hid (hok k hk256)
      have q0 : (0 : Int) ≤ (j : Int) := by omega
      have q1 : (j : Int) < 2 := by omega
      clear hok hx
      have s1 := slice_to x k k rfl (by omega)
      have s2 := slice_from x ((k : Int) + 1) (k + 1) 256 (by omega) (by omega) hxz
      have s3 := index_byte x k k rfl (by omega)
      have hc1 := cp.conv1
      have hc1d := ch.conv1d
      have a1 : ∀ (z : Int) (W : World), (Op.stringOp .add (x.extract 0 k) (strOfNums [z])).run Tryd.prog W = .ok (.string (x.extract 0 k ++ strOfNums [z])) W := fun z W =>
        run_string_add_sum W _ _ (by rw [ByteArray.size_extract, strOfNums_size]; simp; omega)
      have a2 : ∀ (z : Int) (W : World), (Op.stringOp .add (x.extract 0 k ++ strOfNums [z]) (x.extract (k + 1) 256)).run Tryd.prog W = .ok (.string (hurt x k z)) W := fun z W => by
        have := run_string_add_sum (P := Tryd.prog) W (x.extract 0 k ++ strOfNums [z]) (x.extract (k + 1) 256) (by rw [ByteArray.size_append, ByteArray.size_extract, ByteArray.size_extract, strOfNums_size]; simp; omega)
        rw [this]; unfold hurt; rw [hxz]
      have q4 : IntKind.i64.wrap ((k : Int) + 1) = (k : Int) + 1 := IntWalk.i64_in _ ⟨by omega, by omega⟩
      have q5 : IntKind.i64.wrap (k : Int) = (k : Int) := IntWalk.i64_in _ ⟨by omega, by omega⟩
      obtain ⟨n, hn⟩ : ∃ n, n = decE (hurt x k (bits .xor .u8 (byteN x k : Nat) b)) := ⟨_, rfl⟩
      have hd : decP (hurt x k (bits .xor .u8 (byteN x k : Nat) b)) = newPg 0 := if_neg HX.out.1
      have HD : Hid (∀ W, TabOk W → Calls Tryd.prog 25 #[.string (hurt x k (bits .xor .u8 (byteN x k : Nat) b))] W fun e w' => e = .returned (.tuple #[.agg (newPg 0).arr, .int .i64 n]) ∧ Below W.heap.size W w') := Lib.hid fun W hW => decode_b _ _ n hd hn.symm W hW
      have c0 : (n == 0) = false := by rw [hn]; simpa using HX.out.1
      have c7 : (n == 7) = false := by rw [hn]; simpa using HX.out.2
      clear hn hd
      have st0 := st_new (newPg 0)
      go_wp2_with fail
      skip
      have hcv2 := conv2 wr
      have hcv3 := conv3 wr
      have ls := HB1.out.size
      go_region_with (go_at_call 25; (first
        | ((with_reducible refine (HD.out _ (tab_below hw (bel1 HB1.out ls _) hz)).mono ?_); rintro e w20 ⟨rfl, hb20⟩; have R20 := Lib.hid (thru (bel1 (Below.refl wr.heap.size wr) (Nat.le_refl _) _) (by simp) hb20); clear hb20)
        | ((with_reducible refine (HD.out _ (tab_below hw (bel2 HB1.out ls _ _) hz)).mono ?_); rintro e w20 ⟨rfl, hb20⟩; have R20 := Lib.hid (thru (bel2 (Below.refl wr.heap.size wr) (Nat.le_refl _) _ _) (by simp; omega) hb20); (first | (with_reducible have st1 := row2 (newPg 0) hb20) | (with_reducible have st1 := row1 (newPg 0) hb20)); clear hb20)))
      all_goals
        have l20 := R20.out.size
        go_wp2_with fail
        go_roundw
        case rel =>
          refine ⟨j + 1, by omega, by go_num, fin HR1.out HB1.out ls ?_⟩
          first | exact below_stored _ R20.out (by omega) | exact below_stored _ (R20.out.alloc l20 _) l20
        case measure => simp [intOf]; omega
    · obtain rfl : j = 2 := by omega
      go_wp2_with fail
      go_ret
      exact ⟨rfl, HB1.out⟩
end Go.Proofs.YtlfcnjnfnfimmaaDoor.fe
