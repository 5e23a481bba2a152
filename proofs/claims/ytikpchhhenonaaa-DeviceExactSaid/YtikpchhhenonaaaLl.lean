/- A device variable whose three lists the call owns; overwrite. -/
import Derived.Test.YtikpchhhenonaaaLk
namespace Go.Proofs.Ytikpchhhenonaaa.ll
open Go.ChangeShapes Go.WideShapes Go.ChangeAt Go.RowKit Go.Proofs.Ytikpchhhenonaaa.cx Go.Proofs.Ytikpchhhenonaaa.ra Go.Proofs.Ytikpchhhenonaaa.la Go.Proofs.Ytikpchhhenonaaa.lb Go.Proofs.Ytikpchhhenonaaa.lc Go.Proofs.Ytikpchhhenonaaa.ld Go.Proofs.Ytikpchhhenonaaa.le Go.Proofs.Ytikpchhhenonaaa.lf Go.Proofs.Ytikpchhhenonaaa.lg Go.Proofs.Ytikpchhhenonaaa.lh Go.Proofs.Ytikpchhhenonaaa.li Go.Proofs.Ytikpchhhenonaaa.lj Go.Proofs.Ytikpchhhenonaaa.lk

/-- Two values that lie in different blocks. -/
def Apart (u v : Value) : Prop := ∀ g, u.ownBlock = some g → v.ownBlock ≠ some g
theorem Apart.symm {u v : Value} (h : Apart u v) : Apart v u := fun g h1 h2 => h g h2 h1
/-- Block B is a device variable; its lists are owned, lie apart, and in none of the blocks X. -/
structure Dv (B : Nat) (X : List Nat) (vp vu vf : Value) (d : Dev) (w : World) : Prop where
  row : RowAt B (dvals vp d.writes vu d.dead vf) w
  pages : w.ownsRow B 9 1 vp d.pages.length (strL d.pages)
  unr : w.ownsRow B 3 1 vu d.unr.length (intL d.unr)
  faults : w.ownsRow B 29 6 vf d.faults.length (fltL d.faults)
  pB : vp.ownBlock ≠ some B
  uB : vu.ownBlock ≠ some B
  fB : vf.ownBlock ≠ some B
  pu : Apart vp vu
  pf : Apart vp vf
  uf : Apart vu vf
  outs : ∀ k ∈ X, k < w.heap.size ∧ k ≠ B ∧ vp.ownBlock ≠ some k ∧ vu.ownBlock ≠ some k ∧ vf.ownBlock ≠ some k
/-- Nothing ahead of B has turned, nor any of the blocks X. -/
def Kp (B : Nat) (X : List Nat) (w w' : World) : Prop := Below B w w' ∧ ∀ k ∈ X, w'.heap[k]? = w.heap[k]?
theorem Kp.refl (B : Nat) (X : List Nat) (w : World) : Kp B X w w := ⟨Below.refl _ _, fun _ _ => rfl⟩
theorem Kp.trans {B : Nat} {X : List Nat} {a b c : World} (h : Kp B X a b) (k : Kp B X b c) : Kp B X a c := ⟨h.1.trans k.1, fun i hi => (k.2 i hi).trans (h.2 i hi)⟩
theorem one_own {w : World} {base n size : Nat} {e : TypeId} {v : Value} {xs : List Value} (h : w.ownsRow base e size v n xs) : One v := by
  rcases h.2 with ⟨rfl, _⟩ | ⟨g, cap, cur, rfl, _⟩ <;> exact one_slice ..
theorem cells_own {w : World} {base n size : Nat} {e : TypeId} {v : Value} {xs : List Value} (h : w.ownsRow base e size v n xs) : v.cells = #[v] := by
  rcases h.2 with ⟨rfl, _⟩ | ⟨g, cap, cur, rfl, _⟩ <;> rfl
section
variable {B : Nat} {X : List Nat} {vp vu vf : Value} {d : Dev} {w w' : World}
theorem Dv.keep (h : Dv B X vp vu vf d w) (hb : Below w.heap.size w w') : Dv B X vp vu vf d w' :=
  ⟨h.row.keep hb, own_keep h.pages hb, own_keep h.unr hb, own_keep h.faults hb, h.pB, h.uB, h.fB, h.pu, h.pf, h.uf, fun k hk => ⟨Nat.lt_of_lt_of_le (h.outs k hk).1 hb.size, (h.outs k hk).2⟩⟩
theorem Dv.kp (h : Dv B X vp vu vf d w) (hb : Below w.heap.size w w') : Kp B X w w' := ⟨hb.mono (Nat.le_of_lt h.row.lt), fun k hk => hb.block k (h.outs k hk).1⟩
theorem Dv.vals (h : Dv B X vp vu vf d w) : DevV (dvals vp d.writes vu d.dead vf) d w := ⟨vp, vu, vf, rfl, Sl.of_own h.pages, Sl.of_own h.unr, Sl.of_own h.faults⟩
/-- A store to the variable itself. -/
theorem Dv.setRow {n : Int} {b : Bool} {d' : Dev} (h : Dv B X vp vu vf d w) (hs : StoredAt B w w') (hr : RowAt B (dvals vp n vu b vf) w') (hd : d' = { d with writes := n, dead := b }) : Dv B X vp vu vf d' w' := by
  subst hd
  exact ⟨hr, own_storedNe h.pages hs (fun g e e' => h.pB (by rw [e, e'])), own_storedNe h.unr hs (fun g e e' => h.uB (by rw [e, e'])), own_storedNe h.faults hs (fun g e e' => h.fB (by rw [e, e'])), h.pB, h.uB, h.fB, h.pu, h.pf, h.uf,
    fun k hk => ⟨by rw [hs.size]; exact (h.outs k hk).1, (h.outs k hk).2⟩⟩
theorem Kp.stored (hX : ∀ k ∈ X, k ≠ B) (hs : StoredAt B w w') : Kp B X w w' := ⟨hs.below (Below.refl _ _) (Nat.le_refl _), fun k hk => hs.heap k (Ne.symm (hX k hk))⟩
theorem Dv.setPage {gp cp : Nat} (h : Dv B X (.slice (some ⟨gp, 0, none⟩) d.pages.length cp) vu vf d w) (k : Nat) (x : ByteArray) : Dv B X (.slice (some ⟨gp, 0, none⟩) d.pages.length cp) vu vf { d with pages := d.pages.set k x } (w.setCell ⟨gp, k, none⟩ (.string x)) ∧
    Kp B X w (w.setCell ⟨gp, k, none⟩ (.string x)) := by
  have hO := h.pages.stored k (.string x)
  have hgB : gp ≠ B := fun e => h.pB (by rw [e]; rfl)
  have hlt := (h.pages.lt gp rfl)
  rw [strL_set] at hO
  refine ⟨⟨h.row.setOther (by exact hgB) _, by simpa using hO.1, own_grown h.unr hO.2 (fun g hg e => h.pu gp rfl (by injection e with e; rw [hg, e])), own_grown h.faults hO.2 (fun g hg e => h.pf gp rfl (by injection e with e; rw [hg, e])), h.pB, h.uB, h.fB, h.pu, h.pf, h.uf,
    fun k hk => ⟨Nat.lt_of_lt_of_le (h.outs k hk).1 hO.2.size, (h.outs k hk).2⟩⟩, (Below.refl _ _).setCell (by exact hlt.1) _, fun j hj => hO.2.block j (h.outs j hj).1 (fun e => (h.outs j hj).2.2.1 (by rw [e]; rfl))⟩
/-- The list of pages that cannot be read is another one; the variable still names the old one. -/
theorem Dv.unrStep {vu' : Value} {l : List Int} {row : Option Nat} (h : Dv B X vp vu vf d w) (hg : w.grownBy w' row) (hr : row = vu.ownBlock ∨ row = none) (hO : w'.ownsRow B 3 1 vu' l.length (intL l)) (hb : ∀ g, vu'.ownBlock = some g → vu.ownBlock = some g ∨ w.heap.size ≤ g) :
    RowAt B (dvals vp d.writes vu d.dead vf) w' ∧ ∀ w4, StoredAt B w' w4 → RowAt B (dvals vp d.writes vu' d.dead vf) w4 → Dv B X vp vu' vf { d with unr := l } w4 ∧ Kp B X w w4 := by
  have hrow : ∀ g, vu.ownBlock ≠ some g → row ≠ some g := fun g hne e => by
    rcases hr with hr | hr
    · exact hne (by rw [← hr, e])
    · rw [hr] at e; cases e
  have hrB : ∀ g, row = some g → B ≤ g := fun g e => by
    rcases hr with hr | hr
    · exact (h.unr.lt g (by rw [← hr, e])).1
    · rw [hr] at e; cases e
  have hb2 : ∀ g, g < w.heap.size → vu.ownBlock ≠ some g → vu'.ownBlock ≠ some g := fun g h1 h2 e => by
    rcases hb g e with h3 | h3
    · exact h2 h3
    · omega
  have hBl := h.row.lt
  refine ⟨RowAt.grown h.row hg (hrow B h.uB), fun w4 hs hr4 => ?_⟩
  have huB : vu'.ownBlock ≠ some B := hb2 B hBl h.uB
  refine ⟨⟨hr4, own_storedNe (own_grown h.pages hg (fun g e => hrow g (fun e2 => h.pu g e e2))) hs (fun g e e' => h.pB (by rw [e, e'])), own_storedNe hO hs (fun g e e' => huB (by rw [e, e'])),
    own_storedNe (own_grown h.faults hg (fun g e => hrow g (fun e2 => h.uf g e2 e))) hs (fun g e e' => h.fB (by rw [e, e'])), h.pB, huB, h.fB, fun g e => hb2 g (h.pages.lt g e).2 (h.pu g e), h.pf, fun g e e2 => ?_, fun k hk => ?_⟩, ?_, fun k hk => ?_⟩
  · exact hb2 g (h.faults.lt g e2).2 (fun e3 => h.uf g e3 e2) e
  · have := h.outs k hk
    exact ⟨by rw [hs.size]; exact Nat.lt_of_lt_of_le this.1 hg.size, this.2.1, this.2.2.1, hb2 k this.1 this.2.2.2.1, this.2.2.2.2⟩
  · exact hs.below ((Below.refl B w).grown hg (Nat.le_of_lt hBl) hrB) (Nat.le_refl _)
  · have := h.outs k hk
    rw [hs.heap k (Ne.symm this.2.1)]
    exact hg.block k this.1 (fun e => hrow k this.2.2.2.1 e.symm)
/-- The list of faults is another one; the variable still names the old one. -/
theorem Dv.fltStep {vf' : Value} {l : List Flt} {row : Option Nat} (h : Dv B X vp vu vf d w) (hg : w.grownBy w' row) (hr : row = vf.ownBlock ∨ row = none) (hO : w'.ownsRow B 29 6 vf' l.length (fltL l)) (hb : ∀ g, vf'.ownBlock = some g → vf.ownBlock = some g ∨ w.heap.size ≤ g) :
    RowAt B (dvals vp d.writes vu d.dead vf) w' ∧ ∀ w4, StoredAt B w' w4 → RowAt B (dvals vp d.writes vu d.dead vf') w4 → Dv B X vp vu vf' { d with faults := l } w4 ∧ Kp B X w w4 := by
  have hrow : ∀ g, vf.ownBlock ≠ some g → row ≠ some g := fun g hne e => by
    rcases hr with hr | hr
    · exact hne (by rw [← hr, e])
    · rw [hr] at e; cases e
  have hrB : ∀ g, row = some g → B ≤ g := fun g e => by
    rcases hr with hr | hr
    · exact (h.faults.lt g (by rw [← hr, e])).1
    · rw [hr] at e; cases e
  have hb2 : ∀ g, g < w.heap.size → vf.ownBlock ≠ some g → vf'.ownBlock ≠ some g := fun g h1 h2 e => by
    rcases hb g e with h3 | h3
    · exact h2 h3
    · omega
  have hBl := h.row.lt
  refine ⟨RowAt.grown h.row hg (hrow B h.fB), fun w4 hs hr4 => ?_⟩
  have hfB : vf'.ownBlock ≠ some B := hb2 B hBl h.fB
  refine ⟨⟨hr4, own_storedNe (own_grown h.pages hg (fun g e => hrow g (fun e2 => h.pf g e e2))) hs (fun g e e' => h.pB (by rw [e, e'])), own_storedNe (own_grown h.unr hg (fun g e => hrow g (fun e2 => h.uf g e e2))) hs (fun g e e' => h.uB (by rw [e, e'])),
    own_storedNe hO hs (fun g e e' => hfB (by rw [e, e'])), h.pB, h.uB, hfB, h.pu, fun g e => hb2 g (h.pages.lt g e).2 (h.pf g e), fun g e => hb2 g (h.unr.lt g e).2 (h.uf g e), fun k hk => ?_⟩, ?_, fun k hk => ?_⟩
  · have := h.outs k hk
    exact ⟨by rw [hs.size]; exact Nat.lt_of_lt_of_le this.1 hg.size, this.2.1, this.2.2.1, this.2.2.2.1, hb2 k this.1 this.2.2.2.2⟩
  · exact hs.below ((Below.refl B w).grown hg (Nat.le_of_lt hBl) hrB) (Nat.le_refl _)
  · have := h.outs k hk
    rw [hs.heap k (Ne.symm this.2.1)]
    exact hg.block k this.1 (fun e => hrow k this.2.2.2.2 e.symm)
/-- More blocks that nothing of the variable lies in. -/
theorem Dv.out (h : Dv B X vp vu vf d w) {Y : List Nat} (hY : ∀ k ∈ Y, k ∈ X ∨ (k < w.heap.size ∧ k ≠ B ∧ vp.ownBlock ≠ some k ∧ vu.ownBlock ≠ some k ∧ vf.ownBlock ≠ some k)) : Dv B Y vp vu vf d w :=
  ⟨h.row, h.pages, h.unr, h.faults, h.pB, h.uB, h.fB, h.pu, h.pf, h.uf, fun k hk => (hY k hk).elim (h.outs k) id⟩
end
set_option maxHeartbeats 2000000 in
set_option maxRecDepth 4000 in
theorem own_any (vs : List Value) (d : Dev) (w : World) (h : DevV vs d w) (hn1 : d.pages.length ≤ 1000) (hn2 : d.unr.length ≤ 1000) (hn3 : d.faults.length ≤ 1000) :
    Calls Try.prog 40 #[.agg vs.toArray] w fun e w' => ∃ vp vu vf, e = .returned (.agg (dvals vp d.writes vu d.dead vf).toArray) ∧ w'.ownsRow w.heap.size 9 1 vp d.pages.length (strL d.pages) ∧
      w'.ownsRow w.heap.size 3 1 vu d.unr.length (intL d.unr) ∧ w'.ownsRow w.heap.size 29 6 vf d.faults.length (fltL d.faults) ∧ Apart vp vu ∧ Apart vp vf ∧ Apart vu vf ∧ Below w.heap.size w w' := by
  obtain ⟨sp, cp, su, cu, sf, cf, rfl, P, U, F⟩ := h.form
  have L1 := Lib.hid (show d.pages.length ≤ 100000 by omega)
  have L2 := Lib.hid (show d.unr.length ≤ 100000 by omega)
  have L3 := Lib.hid (show d.faults.length ≤ 100000 by omega)
  clear h hn1 hn2 hn3
  go_enter Try.func40, Try.ntmps40
  go_wp2_with (first
    | (refine wp_boxW (dvals (.slice sp d.pages.length cp) d.writes (.slice su d.unr.length cu) d.dead (.slice sf d.faults.length cf)) _ rfl rfl rfl ?_; intro w0 hP hb0 hz0; have HB0 := Lib.hid hb0; have HD0 := Lib.hid hP; clear hP hb0)
    | (refine wp_newW dev0 _ zero_dev rfl rfl ?_; intro w1 hP hb1 hz1; have HB1 := Lib.hid (HB0.out.trans (hb1.mono HB0.out.size)); have HD1 := Lib.hid (HD0.out.keep hb1); have HR1 := Lib.hid hP; have P1 := Lib.hid (P.out.keep HB1.out); obtain ⟨a0, a1, a2, a3, a4⟩ := HD1.out.all5; clear hP hb1 HD0)
    | (go_at_call 62; refine (clone_str _ _ _ _ P1.out (strL_one _) L1.out).mono ?_; rintro e w2 ⟨v1, rfl, hO, hb⟩; have hz2 := hb.size; clear a0 a1 a2 a3 a4; have HB2 := Lib.hid (HB1.out.trans (hb.mono HB1.out.size)); have HD2 := Lib.hid (HD1.out.keep hb); have HR2 := Lib.hid (HR1.out.keep hb); have O12 := Lib.hid hO; clear hO hb HB1 HD1 HR1 P1)
    | (refine wp_storeFieldW 23 v1 (cells_own O12.out) (one_own O12.out) info_strings1 HD2.out (show 0 < 5 by decide) rfl rfl rfl rfl ?_; intro w3 hP hS; have hz3 := Nat.le_of_eq hS.size.symm; have HD3 : Hid (RowAt w.heap.size (dvals v1 d.writes (.slice su d.unr.length cu) d.dead (.slice sf d.faults.length cf)) w3) := Lib.hid hP; have HR3 := Lib.hid (hS.row HR2.out (Nat.ne_of_lt hz0)); have O13 := Lib.hid (own_storedNe O12.out hS (fun g hg => by have := (O12.out.lt g hg).1; omega)); have HB3 := Lib.hid (hS.below HB2.out (Nat.le_refl _)); have U3 := Lib.hid (U.out.keep HB3.out); have Z1 := Lib.hid (fun g hg => (O12.out.lt g hg)); obtain ⟨a0, a1, a2, a3, a4⟩ := HD3.out.all5; clear hP hS HD2 HR2 O12 HB2)
    | (go_at_call 63; refine (clone_int _ _ _ _ U3.out (intL_one _) L2.out).mono ?_; rintro e w4 ⟨v2, rfl, hO, hb⟩; have hz4 := hb.size; clear a0 a1 a2 a3 a4; have HB4 := Lib.hid (HB3.out.trans (hb.mono HB3.out.size)); have HD4 := Lib.hid (HD3.out.keep hb); have HR4 := Lib.hid (HR3.out.keep hb); have O14 := Lib.hid (own_keep O13.out hb); have O24 := Lib.hid hO; clear hO hb HB3 HD3 HR3 U3 O13)
    | (refine wp_storeFieldW 24 v2 (cells_own O24.out) (one_own O24.out) info_ints1 HD4.out (show 2 < 5 by decide) rfl rfl rfl rfl ?_; intro w5 hP hS; have hz5 := Nat.le_of_eq hS.size.symm; have HD5 : Hid (RowAt w.heap.size (dvals v1 d.writes v2 d.dead (.slice sf d.faults.length cf)) w5) := Lib.hid hP; have HR5 := Lib.hid (hS.row HR4.out (Nat.ne_of_lt hz0)); have O15 := Lib.hid (own_storedNe O14.out hS (fun g hg => by have := (O14.out.lt g hg).1; omega)); have O25 := Lib.hid (own_storedNe O24.out hS (fun g hg => by have h1 := (O24.out.lt g hg).1; omega)); have HB5 := Lib.hid (hS.below HB4.out (Nat.le_refl _)); have F5 := Lib.hid (F.out.keep HB5.out); have Z2 := Lib.hid (fun g hg => (O24.out.lt g hg)); obtain ⟨a0, a1, a2, a3, a4⟩ := HD5.out.all5; clear hP hS HD4 HR4 O14 O24 HB4)
    | (go_at_call 56; refine (clone_flt _ _ _ _ F5.out (fltL_one _) L3.out).mono ?_; rintro e w6 ⟨v3, rfl, hO, hb⟩; have hz6 := hb.size; clear a0 a1 a2 a3 a4; have HB6 := Lib.hid (HB5.out.trans (hb.mono HB5.out.size)); have HD6 := Lib.hid (HD5.out.keep hb); have HR6 := Lib.hid (HR5.out.keep hb); have O16 := Lib.hid (own_keep O15.out hb); have O26 := Lib.hid (own_keep O25.out hb); have O36 := Lib.hid hO; clear hO hb HB5 HD5 HR5 F5 O15 O25)
    | (refine wp_storeFieldW 25 v3 (cells_own O36.out) (one_own O36.out) info_flts1 HD6.out (show 4 < 5 by decide) rfl rfl rfl rfl ?_; intro w7 hP hS; have hz7 := Nat.le_of_eq hS.size.symm; have HD7 : Hid (RowAt w.heap.size (dvals v1 d.writes v2 d.dead v3) w7) := Lib.hid hP; have HR7 := Lib.hid (hS.row HR6.out (Nat.ne_of_lt hz0)); have O17 := Lib.hid (own_storedNe O16.out hS (fun g hg => by have := (O16.out.lt g hg).1; omega)); have O27 := Lib.hid (own_storedNe O26.out hS (fun g hg => by have h1 := (O26.out.lt g hg).1; omega)); have O37 := Lib.hid (own_storedNe O36.out hS (fun g hg => by have h1 := (O36.out.lt g hg).1; omega)); have HB7 := Lib.hid (hS.below HB6.out (Nat.le_refl _)); have Z3' := Lib.hid (fun g hg => (O36.out.lt g hg)); clear hP hS HD6 HR6 O16 O26 O36 HB6)
    | (refine wp_loadDev _ _ _ _ _ HD7.out rfl rfl rfl ?_)
    | (refine wp_storeDevW v1 d.writes v2 d.dead v3 (one_own O17.out) (one_own O27.out) (one_own O37.out) HR7.out rfl rfl rfl rfl rfl ?_; intro w8 hP hS; have HR8 := Lib.hid hP; have O18 := Lib.hid (own_storedNe O17.out hS (fun g hg => by have := (O17.out.lt g hg).1; omega)); have O28 := Lib.hid (own_storedNe O27.out hS (fun g hg => by have h1 := (O27.out.lt g hg).1; omega)); have O38 := Lib.hid (own_storedNe O37.out hS (fun g hg => by have h1 := (O37.out.lt g hg).1; omega)); have HB8 := Lib.hid (hS.below HB7.out (by omega)); clear hP hS))
  refine bodyPost_ret (v := .agg (dvals v1 d.writes v2 d.dead v3).toArray) (res_dev rfl rfl HR8.out rfl) rfl ⟨v1, v2, v3, rfl, own_base O18.out (by omega), own_base O28.out (by omega), own_base O38.out (by omega), ?_, ?_, ?_, HB8.out⟩
  · intro g h1 h2
    have := (Z1.out g h1).2
    have := (Z2.out g h2).1
    omega
  · intro g h1 h2
    have := (Z1.out g h1).2
    have := (Z3'.out g h2).1
    omega
  · intro g h1 h2
    have := (Z2.out g h1).2
    have := (Z3'.out g h2).1
    omega
end Go.Proofs.Ytikpchhhenonaaa.ll
