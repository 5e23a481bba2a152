/- Device variables of the statements; awake. -/
import Derived.Test.YtikpchhhenonaaaLw
import Derived.Deep.DeepCutAuto
namespace Go.Proofs.Ytikpchhhenonaaa.lx
open Go.ChangeShapes Go.WideShapes Go.ChangeAt Go.RowKit Go.Proofs.Ytikpchhhenonaaa.cx Go.Proofs.Ytikpchhhenonaaa.ra Go.Proofs.Ytikpchhhenonaaa.la Go.Proofs.Ytikpchhhenonaaa.lb Go.Proofs.Ytikpchhhenonaaa.lc Go.Proofs.Ytikpchhhenonaaa.ld Go.Proofs.Ytikpchhhenonaaa.le Go.Proofs.Ytikpchhhenonaaa.lf Go.Proofs.Ytikpchhhenonaaa.lg Go.Proofs.Ytikpchhhenonaaa.lh Go.Proofs.Ytikpchhhenonaaa.li Go.Proofs.Ytikpchhhenonaaa.lj Go.Proofs.Ytikpchhhenonaaa.lk Go.Proofs.Ytikpchhhenonaaa.ll Go.Proofs.Ytikpchhhenonaaa.lm Go.Proofs.Ytikpchhhenonaaa.ln Go.Proofs.Ytikpchhhenonaaa.lo Go.Proofs.Ytikpchhhenonaaa.lp Go.Proofs.Ytikpchhhenonaaa.lq Go.Proofs.Ytikpchhhenonaaa.lr Go.Proofs.Ytikpchhhenonaaa.ls Go.Proofs.Ytikpchhhenonaaa.lt Go.Proofs.Ytikpchhhenonaaa.lu Go.Proofs.Ytikpchhhenonaaa.lv Go.Proofs.Ytikpchhhenonaaa.lw

/-- No list of the device value lies in block x. -/
def Off (x : Nat) (vs : List Value) : Prop := ∀ v ∈ vs, v.ownBlock ≠ some x
theorem off_lo {b x : Nat} {vs : List Value} (h : Lo b vs) (hx : x < b) : Off x vs := fun v hv e => by have := h v hv x e; omega
theorem sl_lt {v : Value} {k n : Nat} {xs : List Value} {w : World} (h : Sl v k n xs w) : ∀ g, v.ownBlock = some g → g < w.heap.size := fun g e => by
  rcases h.2.2 with ⟨rfl, _⟩ | ⟨b, off, cap, rfl, _, h4, _⟩
  · cases e
  · have : b = g := Option.some.inj e
    omega
theorem off_new {vs : List Value} {d : Dev} {w : World} (h : DevV vs d w) {x : Nat} (hx : w.heap.size ≤ x) : Off x vs := by
  obtain ⟨vp, vu, vf, rfl, h1, h2, h3⟩ := h
  intro v hv e
  simp only [dvals, List.mem_cons, List.not_mem_nil, or_false] at hv
  rcases hv with rfl | rfl | rfl | rfl | rfl
  · have := sl_lt h1 x e; omega
  · cases e
  · have := sl_lt h2 x e; omega
  · cases e
  · have := sl_lt h3 x e; omega
theorem devV_grown {vs : List Value} {d : Dev} {w w' : World} {row : Option Nat} (h : DevV vs d w) (hg : w.grownBy w' row) (hb : ∀ k, row = some k → Off k vs) : DevV vs d w' := by
  obtain ⟨vp, vu, vf, rfl, h1, h2, h3⟩ := h
  have ne : ∀ v ∈ dvals vp d.writes vu d.dead vf, ∀ g, v.ownBlock = some g → row ≠ some g := fun v hv g e e2 => hb g e2 v hv e
  exact ⟨vp, vu, vf, rfl, sl_grown h1 hg (ne vp (by simp [dvals])), sl_grown h2 hg (ne vu (by simp [dvals])), sl_grown h3 hg (ne vf (by simp [dvals]))⟩
theorem stored_grown {x : Nat} {w w' : World} (hs : StoredAt x w w') : w.grownBy w' (some x) := grownBy_storedRow (grownBy_refl w _) hs
theorem devV_stored {vs : List Value} {d : Dev} {w w' : World} {x : Nat} (h : DevV vs d w) (hs : StoredAt x w w') (ho : Off x vs) : DevV vs d w' :=
  devV_grown h (stored_grown hs) fun k e => by injection e with e; rw [← e]; exact ho
/-- Block x is a variable that holds the device d; none of its lists lies in x, nor in one of the blocks Y. -/
structure VarAt (x : Nat) (Y : List Nat) (vs : List Value) (d : Dev) (w : World) : Prop where
  row : RowAt x vs w
  dev : DevV vs d w
  off : Off x vs
  offs : ∀ y ∈ Y, y ≠ x ∧ Off y vs
section
variable {x : Nat} {Y : List Nat} {vs : List Value} {d : Dev} {w w' : World}
theorem VarAt.keep (h : VarAt x Y vs d w) (hb : Below w.heap.size w w') : VarAt x Y vs d w' := ⟨h.row.keep hb, h.dev.keep hb, h.off, h.offs⟩
theorem VarAt.grown {row : Option Nat} (h : VarAt x Y vs d w) (hg : w.grownBy w' row) (hr : ∀ k, row = some k → k ∈ Y) : VarAt x Y vs d w' :=
  ⟨h.row.grown hg (fun e => (h.offs x (hr x e)).1 rfl), devV_grown h.dev hg (fun k e => (h.offs k (hr k e)).2), h.off, h.offs⟩
theorem VarAt.stored {y : Nat} (h : VarAt x Y vs d w) (hs : StoredAt y w w') (hy : y ∈ Y) : VarAt x Y vs d w' := h.grown (stored_grown hs) fun k e => by injection e with e; rw [← e]; exact hy
theorem VarAt.len (h : VarAt x Y vs d w) : vs.length = 5 := h.dev.length
/-- A new variable for a device value. -/
theorem var_new {w2 w3 : World} (h : DevV vs d w) (hb : Below w.heap.size w w2) (hr : RowAt w.heap.size vs w3) (hs : StoredAt w.heap.size w2 w3) (hY : ∀ y ∈ Y, y < w.heap.size ∧ Off y vs) : VarAt w.heap.size Y vs d w3 :=
  ⟨hr, h.keep (hs.below hb (Nat.le_refl _)), off_new h (Nat.le_refl _), fun y hy => ⟨by have := (hY y hy).1; omega, (hY y hy).2⟩⟩
/-- The variable gets a value that came of a call. -/
theorem var_set {us : List Value} {d' : Dev} {b : Nat} (h : VarAt x Y us d' w) (hv : DevV vs d w) (hl : Lo b vs) (hx : x < b) (hY : ∀ y ∈ Y, y < b) (hr : RowAt x vs w') (hs : StoredAt x w w') : VarAt x Y vs d w' :=
  ⟨hr, devV_stored hv hs (off_lo hl hx), off_lo hl hx, fun y hy => ⟨(h.offs y hy).1, off_lo hl (hY y hy)⟩⟩
end
section
variable {ops : Array Oper} {rest : List Oper} {o : Oper} {a : Act} {w : World} {Q : Exit → Act → World → Prop} {x y : Operand} {b : Nat}
theorem wp_loadV (vs : List Value) (hr : RowAt b vs w) (hl : vs.length = 5) (ho : o.op = .load 27 x)
    (hx : a.eval x = .pointer (some ⟨b, 0, none⟩)) (hgd : Region.wanted o (yielded ops a.tmps) = true) (hn : wpList Try.prog ops Q rest (a.put o.dst (.agg vs.toArray)) w) : wpList Try.prog ops Q (o :: rest) a w :=
  wp_load vs _ _ hr Try.underlying27 rfl (by rw [hl]; exact info_dev) (fun j v hv => by rw [Nat.zero_add]; exact hv) ho hx hgd hn
theorem wp_storeV {vs us : List Value} {d : Dev} {w2 : World} (h : DevV vs d w2) (hr : RowAt b us w) (hl : us.length = 5) (ho : o.op = .store 27 x y)
    (hx : a.eval x = .pointer (some ⟨b, 0, none⟩)) (hy : a.eval y = .agg vs.toArray) (hgd : Region.wanted o (yielded ops a.tmps) = true)
    (hn : ∀ W, RowAt b vs W → StoredAt b w W → wpList Try.prog ops Q rest (a.put o.dst undef) W) : wpList Try.prog ops Q (o :: rest) a w := by
  obtain ⟨sp, cp, su, cu, sf, cf, rfl, _⟩ := h.form
  exact wp_storeDevW _ _ _ _ _ (one_slice ..) (one_slice ..) (one_slice ..) hr hl ho hx hy hgd hn
theorem op_storeV {vs us : List Value} {d : Dev} {w2 : World} {K : Act → World → Prop} (h : DevV vs d w2) (hr : RowAt b us w) (hl : us.length = 5) (ho : o.op = .store 27 x y)
    (hx : a.eval x = .pointer (some ⟨b, 0, none⟩)) (hy : a.eval y = .agg vs.toArray) (hn : ∀ W, RowAt b vs W → StoredAt b w W → K (a.put o.dst undef) W) : o.wp Try.prog a w K Q := by
  obtain ⟨sp, cp, su, cu, sf, cf, rfl, _⟩ := h.form
  have hs := RowAt.setCells (dvals (.slice sp d.pages.length cp) d.writes (.slice su d.unr.length cu) d.dead (.slice sf d.faults.length cf)) 0 hr (by rw [dvals_length, hl]; exact Nat.le_refl _)
  rw [splice_all _ _ (by rw [dvals_length, hl])] at hs
  exact wp_store_mid _ x y ho b 0 _ hx hy (hr.there 0 5 (by rw [hl]; exact Nat.le_refl _)) info_dev (all_oneCell_toArray fun v hv => List.all_eq_true.1 (dvals_one _ _ (one_slice ..) (one_slice ..) (one_slice ..)) v hv) (hn _ hs ⟨_, _, rfl⟩)
end
/-- The texts of awake. -/
def zeroS (n : Nat) : ByteArray := strOfNums (List.replicate n 0)
theorem zeroS_size (n : Nat) : (zeroS n).size = n := by unfold zeroS; rw [strOfNums_size, List.length_replicate]
theorem zeroS_blank : zeroS 256 = lg.blank := by
  unfold zeroS strOfNums lg.blank
  rw [List.map_replicate]
  rfl
def endS (c : UInt8) : ByteArray := zeroS 255 ++ ⟨#[c]⟩
theorem endS_size (c : UInt8) : (endS c).size = 256 := by
  unfold endS
  rw [ByteArray.size_append, zeroS_size]
  rfl
theorem conv_at (W : World) (n : Nat) (b : Nat) (h : ∀ i, i < n → W.cell? ⟨b, i, none⟩ = some (.int .u8 0)) : (convert 22 9 (.slice (some ⟨b, 0, none⟩) n n)).run Try.prog W = .ok (.string (zeroS n)) W :=
  run_convert_bytes_arg (P := Try.prog) _ 22 5 Try.underlying22 Try.underlying5 b 0 n n (List.replicate n 0) (by simp) (fun i hi => by
    rw [Nat.zero_add, h i hi]
    simp [List.getD, hi]) 9 Try.underlying9
theorem cell_old {W : World} {b i : Nat} {v : Value} (h : W.cell? ⟨b, i, none⟩ = some v) (o : Obj) : (W.alloc o).cell? ⟨b, i, none⟩ = some v := Lib.cell?_alloc_some o h
def fLost : Flt := ⟨1, 2, 0, 0, 0, 0⟩
theorem pages_one {a : ByteArray} (ha : a.size = 256) : Pages 1 [a] := ⟨rfl, fun s hs => by (obtain rfl : s = a := (by simpa using hs)); exact ha⟩
theorem okLost {d : Dev} (h1 : d.writes < 2) (h2 : 1 ≤ d.pages.length) : okFault d fLost = true := by
  unfold okFault inR
  have e1 : decide (d.writes < fLost.at') = true := decide_eq_true h1
  have e2 : decide (0 ≤ fLost.page ∧ fLost.page < (d.pages.length : Int)) = true := decide_eq_true ⟨Int.le_refl 0, by show (0 : Int) < _; omega⟩
  have e3 : decide (0 ≤ fLost.target ∧ fLost.target < (d.pages.length : Int)) = true := decide_eq_true ⟨Int.le_refl 0, by show (0 : Int) < _; omega⟩
  rw [e1, e2, e3]
  rfl
theorem newD_of (n : Nat) (h : 1 ≤ n ∧ n ≤ 64) : newE (n : Int) = 0 ∧ newD (n : Int) = qDev (blanks n) 0 := by
  unfold newE newD
  rw [if_pos (by omega), if_pos (by omega), Int.toNat_natCast]
  exact ⟨rfl, rfl⟩
theorem aw_inject : injectE (qDev (blanks 1) 0) fLost = 0 ∧ injectD (qDev (blanks 1) 0) fLost = ⟨blanks 1, 0, [], false, [fLost]⟩ := by
  have h : injectE (qDev (blanks 1) 0) fLost = 0 := by
    unfold injectE
    rw [if_pos (q_valid (pages_blanks 1) (by decide) (by decide)), if_pos (okLost (by decide) (by decide))]
    rfl
  refine ⟨h, ?_⟩
  unfold injectD
  rw [if_pos h]
  rfl
theorem aw_valid {ps : List ByteArray} (h : Pages 1 ps) {n : Int} (h0 : 0 ≤ n) (h1 : n < 2) : validD ⟨ps, n, [], false, [fLost]⟩ = true :=
  is_valid ⟨by show 1 ≤ ps.length ∧ ps.length ≤ 64; rw [h.1]; decide, h.2⟩ ⟨h0, by show n ≤ _; omega⟩ ⟨asc_nil, fun _ hx => by cases hx⟩
    ⟨by show 1 ≤ 64; decide, fun f hf => by
      obtain rfl : f = fLost := by simpa using hf
      exact okLost h1 (by show 1 ≤ ps.length; rw [h.1]; exact Nat.le_refl _)⟩
theorem aw_write1 {a : ByteArray} (ha : a.size = 256) : writeE ⟨blanks 1, 0, [], false, [fLost]⟩ 0 a = 0 ∧ writeD ⟨blanks 1, 0, [], false, [fLost]⟩ 0 a = ⟨[a], 1, [], false, [fLost]⟩ := by
  refine ⟨writeE_of (aw_valid (pages_blanks 1) (by decide) (by decide)) rfl ⟨by decide, by show (0 : Int) < ((blanks 1).length : Int); decide⟩ ha (by decide), ?_⟩
  show owrD _ 0 a 256 = _
  unfold owrD
  simp only [mixS_full ha]
  rfl
theorem aw_write2 {a b : ByteArray} (ha : a.size = 256) (hb : b.size = 256) : writeE ⟨[a], 1, [], false, [fLost]⟩ 0 b = 0 ∧ writeD ⟨[a], 1, [], false, [fLost]⟩ 0 b = qDev [a] 2 := by
  have hp : Pages 1 [a] := ⟨rfl, fun s hs => by (obtain rfl : s = a := (by simpa using hs)); exact ha⟩
  exact ⟨writeE_of (aw_valid hp (by decide) (by decide)) rfl ⟨by decide, by show (0 : Int) < 1; decide⟩ hb (by show (1 : Int) < 1099511627776; decide), rfl⟩
theorem aw_read {a : ByteArray} (ha : a.size = 256) : readE (qDev [a] 2) 0 = 0 ∧ readS (qDev [a] 2) 0 = a := by
  have hp : Pages 1 [a] := ⟨rfl, fun s hs => by (obtain rfl : s = a := (by simpa using hs)); exact ha⟩
  exact q_read (k := 0) hp (by decide) (by decide) rfl
theorem build_lost (W : World) : (Instr.build 29 #[(0, .int .i64 1), (1, .int .i64 2)]).run Try.prog W = .ok (.agg fLost.arr) W := by kernel_rfl
theorem new_b (n : Int) (m : Int) (d : Dev) (hn : newE n = m) (hd : newD n = d) (w : World) :
    Calls Try.prog 13 #[.int .i64 n] w fun e w' => ∃ vs', e = .returned (.tuple #[.agg vs'.toArray, .int .i64 m]) ∧ DevV vs' d w' ∧ (∀ b, b ≤ w.heap.size → Lo b vs') ∧ Below w.heap.size w w' := by
  rw [← hn, ← hd]; exact new_any n w
theorem inject_b (vs : List Value) (d d' : Dev) (f : Flt) (m : Int) (hn : injectE d f = m) (hd : injectD d f = d') (w : World) (h : DevV vs d w) (hf : FitsD d) :
    Calls Try.prog 25 #[.agg vs.toArray, .agg f.arr] w fun e w' => ∃ vs', e = .returned (.tuple #[.agg vs'.toArray, .int .i64 m]) ∧ DevV vs' d' w' ∧ (∀ b, b ≤ w.heap.size → Lo b vs') ∧ Below w.heap.size w w' := by
  rw [← hn, ← hd]; exact inject_any vs d f w h hf
theorem write_b (vs : List Value) (d d' : Dev) (page : Int) (s : ByteArray) (hn : writeE d page s = 0) (hd : writeD d page s = d') (w : World) (h : DevV vs d w) (hf : FitsD d) :
    Calls Try.prog 20 #[.agg vs.toArray, .int .i64 page, .string s] w fun e w' => ∃ vs', e = .returned (.tuple #[.agg vs'.toArray, .int .i64 0]) ∧ DevV vs' d' w' ∧ (∀ b, b ≤ w.heap.size → Lo b vs') ∧ Below w.heap.size w w' := by
  have hr : writeR d page s = d' := by unfold writeR; rw [if_pos hn, hd]
  refine (write_any vs d page s w h hf).mono fun e w' ⟨vs', h1, h2, h3, h4⟩ => ⟨vs', by rw [h1, hn], by rw [← hr]; exact h2, fun b hb => h3 b hb (.inl hn), h4⟩
theorem read_b (vs : List Value) (d : Dev) (page : Int) (x : ByteArray) (n : Int) (hn : readE d page = n) (hd : readS d page = x) (w : World) (h : DevV vs d w) (hf : FitsD d) :
    Calls Try.prog 31 #[.agg vs.toArray, .int .i64 page] w fun e w' => e = .returned (.tuple #[.string x, .int .i64 n]) ∧ Below w.heap.size w w' := by
  rw [← hn, ← hd]; exact read_any vs d page w h hf
set_option maxHeartbeats 4000000 in
set_option maxRecDepth 4000 in
theorem awake_any (w : World) : Calls Try.prog 9 #[] w fun e w' => e = .returned (.bool true) ∧ Below w.heap.size w w' := by
  have bl := build_lost
  have F0 := Lib.hid (fits_pages (d := qDev (blanks 1) 0) (pages_blanks 1))
  have F5 : Hid (FitsD ⟨blanks 1, 0, [], false, [fLost]⟩) := Lib.hid (fits_pages (pages_blanks 1))
  have F7 : Hid (FitsD ⟨[endS 97], 1, [], false, [fLost]⟩) := Lib.hid (fits_pages (pages_one (endS_size 97)))
  have F9 : Hid (FitsD (qDev [endS 97] 2)) := Lib.hid (fits_pages (pages_one (endS_size 97)))
  go_enter Try.func9, Try.ntmps9
  go_wp2_with (first
    | (go_at_call 13; refine (new_b 1 0 (qDev (blanks 1) 0) (newD_of 1 (by decide)).1 (newD_of 1 (by decide)).2 _).mono ?_; rintro e w1 ⟨v1, rfl, hV, hl, hb⟩; have V1 := Lib.hid hV; have B1 := Lib.hid hb; clear hV hl hb)
    | (refine wp_newW dev0 _ zero_dev rfl rfl ?_; intro w2 hP hb _; have N2 := Lib.hid hP; have M2 := Lib.hid hb; clear hP hb)
    | (refine wp_storeV V1.out N2.out rfl rfl rfl rfl rfl ?_; intro w3 hP hS; have X3 : Hid (VarAt w1.heap.size [] v1 (qDev (blanks 1) 0) w3) := Lib.hid (var_new V1.out M2.out hP hS (fun _ h => by cases h)); have B3 := Lib.hid (hS.below (B1.out.trans (M2.out.mono B1.out.size)) B1.out.size); clear hP hS N2 M2 V1)
    | (refine wp_loadV v1 X3.out.row X3.out.len rfl rfl rfl ?_)
    | (go_at_call 25; refine (inject_b _ _ ⟨blanks 1, 0, [], false, [fLost]⟩ fLost 0 aw_inject.1 aw_inject.2 _ X3.out.dev F0.out).mono ?_; rintro e w4 ⟨v2, rfl, hV, hl, hb⟩; have V4 := Lib.hid hV; have L4 := Lib.hid (hl _ (Nat.le_refl _)); have X4 := Lib.hid (X3.out.keep hb); have B4 := Lib.hid (B3.out.trans (hb.mono B3.out.size)); have LT4 := Lib.hid X3.out.row.lt; clear hV hl hb X3 B3)
    | (refine wp_storeV V4.out X4.out.row X4.out.len rfl rfl rfl rfl ?_; intro w5 hP hS; have X5 := Lib.hid (var_set X4.out V4.out L4.out LT4.out (fun _ h => by cases h) hP hS); have B5 := Lib.hid (hS.below B4.out B1.out.size); clear hP hS X4 V4 B4))
  go_cut [4, 5] from 20 to 25 (fun s4 s5 wx => s4 = .string (endS 97) ∧ s5 = .string (endS 98) ∧ Below w5.heap.size w5 wx)
  case first =>
    have hz := zeroS_size 255
    have mk : ∀ W : World, (Instr.makeSlice 22 (.int .i64 255) (.int .i64 255)).run Try.prog W = .ok (.slice (some ⟨W.heap.size, 0, none⟩) 255 255) (W.alloc (zeroObj 255)) := make_zero 255 (by decide) 255 rfl
    have c1 : ∀ W : World, (convert 22 9 (.slice (some ⟨W.heap.size, 0, none⟩) 255 255)).run Try.prog (W.alloc (zeroObj 255)).drew = .ok (.string (zeroS 255)) (W.alloc (zeroObj 255)).drew := fun W => conv_at _ 255 _ (fun i hi => lv.zero_cells W 255 i hi)
    have c2 : ∀ W : World, (convert 22 9 (.slice (some ⟨W.heap.size, 0, none⟩) 255 255)).run Try.prog ((W.alloc (zeroObj 255)).alloc (zeroObj 255)).drew = .ok (.string (zeroS 255)) ((W.alloc (zeroObj 255)).alloc (zeroObj 255)).drew := fun W => conv_at _ 255 _ (fun i hi => cell_old (lv.zero_cells W 255 i hi) _)
    have c3 : ∀ W : World, (convert 22 9 (.slice (some ⟨W.heap.size + 1, 0, none⟩) 255 255)).run Try.prog ((W.alloc (zeroObj 255)).alloc (zeroObj 255)).drew = .ok (.string (zeroS 255)) ((W.alloc (zeroObj 255)).alloc (zeroObj 255)).drew := fun W => by
      have := conv_at ((W.alloc (zeroObj 255)).alloc (zeroObj 255)).drew 255 (W.alloc (zeroObj 255)).heap.size (fun i hi => lv.zero_cells (W.alloc (zeroObj 255)) 255 i hi)
      rwa [show (W.alloc (zeroObj 255)).heap.size = W.heap.size + 1 by simp] at this
    go_region
    all_goals (go_wp2_with fail; go_meet)
    all_goals exact ⟨rfl, rfl, (((Below.refl _ _).alloc (Nat.le_refl _) _).alloc (by simp) _).drew⟩
  case rest =>
  obtain ⟨rfl, rfl, hb⟩ := hcut
  have XC := Lib.hid (X5.out.keep hb)
  have BC := Lib.hid (B5.out.trans (hb.mono B5.out.size))
  clear hb X5 B5 LT4 L4
  go_wp2_with (first
    | (refine wp_loadV _ XC.out.row XC.out.len rfl rfl rfl ?_)
    | (go_at_call 20; refine (write_b _ _ ⟨[endS 97], 1, [], false, [fLost]⟩ 0 (endS 97) (aw_write1 (endS_size 97)).1 (aw_write1 (endS_size 97)).2 _ XC.out.dev F5.out).mono ?_; rintro e w6 ⟨v6, rfl, hV, hl, hb⟩; have V6 := Lib.hid hV; have L6 := Lib.hid (hl _ (Nat.le_refl _)); have X6 := Lib.hid (XC.out.keep hb); have B6 := Lib.hid (BC.out.trans (hb.mono BC.out.size)); have LT6 := Lib.hid XC.out.row.lt; clear hV hl hb XC BC F5)
    | (refine wp_storeV V6.out X6.out.row X6.out.len rfl rfl rfl rfl ?_; intro w7 hP hS; have X7 := Lib.hid (var_set X6.out V6.out L6.out LT6.out (fun _ h => by cases h) hP hS); have B7 := Lib.hid (hS.below B6.out B1.out.size); clear hP hS X6 V6 B6)
    | (refine wp_loadV _ X7.out.row X7.out.len rfl rfl rfl ?_)
    | (go_at_call 20; refine (write_b _ _ (qDev [endS 97] 2) 0 (endS 98) (aw_write2 (endS_size 97) (endS_size 98)).1 (aw_write2 (endS_size 97) (endS_size 98)).2 _ X7.out.dev F7.out).mono ?_; rintro e w8 ⟨v8, rfl, hV, hl, hb⟩; have V8 := Lib.hid hV; have L8 := Lib.hid (hl _ (Nat.le_refl _)); have X8 := Lib.hid (X7.out.keep hb); have B8 := Lib.hid (B7.out.trans (hb.mono B7.out.size)); have LT8 := Lib.hid X7.out.row.lt; clear hV hl hb X7 B7 F7)
    | (refine wp_storeV V8.out X8.out.row X8.out.len rfl rfl rfl rfl ?_; intro w9 hP hS; have X9 := Lib.hid (var_set X8.out V8.out L8.out LT8.out (fun _ h => by cases h) hP hS); have B9 := Lib.hid (hS.below B8.out B1.out.size); clear hP hS X8 V8 B8)
    | (refine wp_loadV _ X9.out.row X9.out.len rfl rfl rfl ?_)
    | (go_at_call 31; refine (read_b _ _ 0 (endS 97) 0 (aw_read (endS_size 97)).1 (aw_read (endS_size 97)).2 _ X9.out.dev F9.out).mono ?_; rintro e w10 ⟨rfl, hb⟩; have B10 := Lib.hid (B9.out.trans (hb.mono B9.out.size)); clear hb X9 B9 F9))
  go_ret
  exact ⟨rfl, B10.out⟩
end Go.Proofs.Ytikpchhhenonaaa.lx
