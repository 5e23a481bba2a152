/- hide, harm. -/
import Derived.Test.YtikpchhhenonaaaLq
namespace Go.Proofs.Ytikpchhhenonaaa.lr
open Go.ChangeShapes Go.WideShapes Go.ChangeAt Go.RowKit Go.Proofs.Ytikpchhhenonaaa.cx Go.Proofs.Ytikpchhhenonaaa.ra Go.Proofs.Ytikpchhhenonaaa.la Go.Proofs.Ytikpchhhenonaaa.lb Go.Proofs.Ytikpchhhenonaaa.lc Go.Proofs.Ytikpchhhenonaaa.ld Go.Proofs.Ytikpchhhenonaaa.le Go.Proofs.Ytikpchhhenonaaa.lf Go.Proofs.Ytikpchhhenonaaa.lg Go.Proofs.Ytikpchhhenonaaa.lh Go.Proofs.Ytikpchhhenonaaa.li Go.Proofs.Ytikpchhhenonaaa.lj Go.Proofs.Ytikpchhhenonaaa.lk Go.Proofs.Ytikpchhhenonaaa.ll Go.Proofs.Ytikpchhhenonaaa.lm Go.Proofs.Ytikpchhhenonaaa.ln Go.Proofs.Ytikpchhhenonaaa.lo Go.Proofs.Ytikpchhhenonaaa.lp Go.Proofs.Ytikpchhhenonaaa.lq

/-- Strictly ascending. -/
def Asc (l : List Int) : Prop := l.Pairwise (· < ·)
def rank (l : List Int) (x : Int) : Nat := l.countP (· < x)
theorem rank_le (l : List Int) (x : Int) : rank l x ≤ l.length := List.countP_le_length
/-- A list with a page that cannot be read. -/
def hideL (l : List Int) (x : Int) : List Int := if l.contains x then l else insL l (rank l x) x
theorem bsearch_own (v : Value) (l : List Int) (x : Int) (base : Nat) (w : World) (h : w.ownsRow base 3 1 v l.length (intL l)) (hs : Asc l) (hn : l.length ≤ 1000) :
    Calls Try.prog 82 #[v, .int .i64 x] w fun e w' => e = .returned (.tuple #[.int .i64 (rank l x : Nat), .bool (l.contains x)]) ∧ Below w.heap.size w w' := by
  rcases own_open h with ⟨rfl, h0⟩ | ⟨g, cap, cur, rfl, hbg, hg, hnc, hcm, hcs, htake⟩
  · obtain rfl : l = [] := List.eq_nil_of_length_eq_zero h0
    refine Calls.mono (sr.slices_BinarySearch_int_empty none 0 x w) fun e w' ⟨he, hw⟩ => ⟨he, ?_⟩
    rw [hw]; exact Below.refl _ _
  · have hc : ∀ j, j < l.length → w.cell? ⟨g, 0 + j, none⟩ = some (.int .i64 (l.getD j 0)) := fun j hj => by
      rw [Nat.zero_add, h.cellAt j (by omega), intL_at (List.getElem?_eq_getElem hj)]
      simp [List.getD, List.getElem?_eq_getElem hj]
    have hp : (l.take l.length).Pairwise (· ≤ ·) := by
      rw [List.take_length]
      exact List.Pairwise.imp (fun h => Int.le_of_lt h) hs
    have := sr.slices_BinarySearch_int g 0 l.length cap l x w (Nat.le_refl _) (by omega) hc hp
    rw [List.take_length] at this
    refine this.mono fun e w' ⟨he, q, hw⟩ => ⟨he, ?_⟩
    rw [hw]
    exact la.below_drewN (Below.refl _ _) q
theorem build_int1 (x : Int) (W : World) : (Instr.buildSlice 24 1 #[(0, .int .i64 x)]).run Try.prog W = .ok (.slice (some ⟨W.heap.size, 0, none⟩) 1 1) (W.alloc (.cells #[.int .i64 x] 3)) := by
  kernel_rfl
theorem wp_build1W {ops : Array Oper} {rest : List Oper} {o : Oper} {a : Act} {w : World} {Q : Exit → Act → World → Prop} {x : Operand} (n : Int) (ho : o.op = .buildSlice 24 1 #[(0, x)]) (hx : a.eval x = .int .i64 n)
    (hgd : Region.wanted o (yielded ops a.tmps) = true) (h : ∀ W, W.heap[w.heap.size]? = some (.cells #[.int .i64 n] 3 (0, 0)) → Below w.heap.size w W → w.heap.size < W.heap.size → wpList Try.prog ops Q rest (a.put o.dst (.slice (some ⟨w.heap.size, 0, none⟩) 1 1)) W) : wpList Try.prog ops Q (o :: rest) a w :=
  wpList_step fun _ hK => by
    rw [if_pos hgd]
    have hn := h _ (heap_alloc_new w (.cells #[.int .i64 n] 3)) ((Below.refl _ _).alloc (Nat.le_refl _) _) (by simp)
    have hb := build_int1 n w
    unfold Oper.wp execOp
    simp only [ho]
    simp only [List.map_toArray, List.map_cons, List.map_nil, hx, hb, Sem.run_bind, Result.andThen_ok, Sem.run_pure]
    exact hK _ _ hn
set_option maxHeartbeats 4000000 in
set_option maxRecDepth 4000 in
theorem hide_any (B : Nat) (X : List Nat) (vp vu vf : Value) (d : Dev) (x : Int) (w : World) (h : Dv B X vp vu vf d w) (hs : Asc d.unr) (hn : d.unr.length ≤ 1000) :
    Calls Try.prog 68 #[.pointer (some ⟨B, 0, none⟩), .int .i64 x] w fun e w' => e = .returned (.tuple #[]) ∧ ∃ vu', Dv B X vp vu' vf { d with unr := hideL d.unr x } w' ∧ Kp B X w w' := by
  have hBw := h.row.lt
  have HH := Lib.hid h
  obtain ⟨a0, a1, a2, a3, a4⟩ := h.row.all5
  have BS := Lib.hid (bsearch_own vu d.unr x B w h.unr hs hn)
  clear h
  cases hc : d.unr.contains x
  · have HL : Hid (hideL d.unr x = insL d.unr (rank d.unr x) x) := Lib.hid (by unfold hideL; rw [hc]; rfl)
    rw [hc] at BS
    clear hc
    go_enter Try.func68, Try.ntmps68
    go_wp2_with (first
      | (go_at_call 82; (with_reducible refine (BS.out).mono ?_); rintro e w1 ⟨rfl, hb⟩; have H1 := Lib.hid (HH.out.keep hb); have K1 := Lib.hid (HH.out.kp hb); clear a0 a1 a2 a3 a4 hb HH; obtain ⟨a0, a1, a2, a3, a4⟩ := H1.out.row.all5)
      | (refine wp_build1W x rfl rfl rfl ?_; intro w2 hV hb hz; have H2 := Lib.hid (H1.out.keep hb); have K2 := Lib.hid (K1.out.trans (H1.out.kp hb)); have V2 := Lib.hid hV; have NV := Lib.hid (own_less H1.out.unr); clear hV hb a0 a1 a2 a3 a4)
      | (go_at_call 83; refine (insert_own vu d.unr (rank d.unr x) x _ B _ H2.out.unr (rank_le _ _) hn V2.out (fun e => NV.out _ e rfl) (Nat.le_of_lt H2.out.row.lt)).mono ?_; rintro e w3 ⟨vu', rfl, hO, hg, hb⟩; have ST := Lib.hid (H2.out.unrStep hg (.inl rfl) hO hb); have O3 := Lib.hid hO; have HD3 := Lib.hid ST.out.1; clear hO hg hb)
      | (refine wp_storeFieldW 24 vu' (cells_own O3.out) (one_own O3.out) info_ints1 HD3.out (show 2 < 5 by decide) rfl rfl rfl rfl ?_; intro w4 hP hS; have R4 := Lib.hid (ST.out.2 w4 hS hP); clear hP hS))
    go_end0
    have FIN : ∃ vu', Dv B X vp vu' vf { d with unr := hideL d.unr x } w4 ∧ Kp B X w w4 := ⟨vu', by rw [HL.out]; exact R4.out.1, K2.out.trans R4.out.2⟩
    first
      | exact ⟨rfl, FIN⟩
      | exact ⟨rfl, ⟨FIN.choose, FIN.choose_spec.1⟩, FIN.choose_spec.2⟩
  · have HL : Hid (hideL d.unr x = d.unr) := Lib.hid (by unfold hideL; rw [hc]; rfl)
    rw [hc] at BS
    clear hc
    go_enter Try.func68, Try.ntmps68
    go_wp2_with (first
      | (go_at_call 82; (with_reducible refine (BS.out).mono ?_); rintro e w1 ⟨rfl, hb⟩; have H1 := Lib.hid (HH.out.keep hb); have K1 := Lib.hid (HH.out.kp hb); clear a0 a1 a2 a3 a4 hb HH))
    go_end0
    exact ⟨rfl, vu, by rw [HL.out]; exact H1.out, K1.out⟩
/-- What a fault does behind a write. -/
def harmD (d : Dev) (f : Flt) : Dev := if f.kind = 4 then rotD d f else if f.kind = 5 then { d with unr := hideL d.unr f.page } else if f.kind = 6 then { d with dead := true } else d
set_option maxHeartbeats 4000000 in
set_option maxRecDepth 4000 in
theorem harm_any (B : Nat) (X : List Nat) (vp vu vf : Value) (d : Dev) (f : Flt) (w : World) (h : Dv B X vp vu vf d w) (hp : ∀ x ∈ d.pages, x.size = 256) (hfp : 0 ≤ f.page ∧ f.page < (d.pages.length : Int)) (hfb : 0 ≤ f.byte ∧ f.byte < 256) (hs : Asc d.unr) (hn : d.unr.length ≤ 1000) :
    Calls Try.prog 44 #[.pointer (some ⟨B, 0, none⟩), .agg f.arr] w fun e w' => e = .returned (.tuple #[]) ∧ ∃ vu', Dv B X vp vu' vf (harmD d f) w' ∧ Kp B X w w' := by
  have hBw := h.row.lt
  have HH := Lib.hid h
  clear h
  by_cases k4 : f.kind = 4
  · have HL : Hid (harmD d f = rotD d f) := Lib.hid (by unfold harmD; rw [if_pos k4])
    have e4 : (f.kind == 4) = true := by simp [k4]
    obtain ⟨k, hk⟩ : ∃ k : Nat, f.page = (k : Int) := ⟨f.page.toNat, by omega⟩
    obtain ⟨b, hb⟩ : ∃ b : Nat, f.byte = (b : Int) := ⟨f.byte.toNat, by omega⟩
    have hkl : k < d.pages.length := by omega
    have HA : Hid (∃ old, d.pages[k]? = some old ∧ old.size = 256) := ⟨_, List.getElem?_eq_getElem hkl, hp _ (List.getElem_mem hkl)⟩
    have HK := Lib.hid hk
    have HB := Lib.hid hb
    have HB2 := Lib.hid (show b < 256 by omega)
    clear k4 hk hb hp hfp hfb hkl
    go_enter Try.func44, Try.ntmps44
    go_wp2_with (first
      | (refine wp_boxW f.vals _ rfl rfl rfl ?_; intro w1 hP hb1 hz1; have HF1 := Lib.hid hP; have H1 := Lib.hid (HH.out.keep hb1); have K1 := Lib.hid (HH.out.kp hb1); obtain ⟨b0, b1, b2, b3, b4, b5⟩ := hP.all6; clear hP hb1 HH)
      | (refine wp_loadFlt f HF1.out rfl rfl rfl ?_)
      | (go_at_call 67; obtain ⟨old, o1, o2⟩ := HA.out; refine (rot_any B X vp vu vf d f k b old _ H1.out o1 o2 HK.out HB.out HB2.out).mono ?_; rintro e w2 ⟨rfl, hD, hK⟩; have D2 := Lib.hid hD; have K2 := Lib.hid (K1.out.trans hK); clear hD hK o1 o2))
    go_end0
    exact ⟨rfl, vu, by rw [HL.out]; exact D2.out, K2.out⟩
  by_cases k5 : f.kind = 5
  · have HL : Hid (harmD d f = { d with unr := hideL d.unr f.page }) := Lib.hid (by unfold harmD; rw [if_neg k4, if_pos k5])
    have e4 : (f.kind == 4) = false := by simp [k4]
    have e5 : (f.kind == 5) = true := by simp [k5]
    have HS := Lib.hid hs
    clear k4 k5 hp hfp hfb hs
    go_enter Try.func44, Try.ntmps44
    go_wp2_with (first
      | (refine wp_boxW f.vals _ rfl rfl rfl ?_; intro w1 hP hb1 hz1; have HF1 := Lib.hid hP; have H1 := Lib.hid (HH.out.keep hb1); have K1 := Lib.hid (HH.out.kp hb1); obtain ⟨b0, b1, b2, b3, b4, b5⟩ := hP.all6; clear hP hb1 HH)
      | (go_at_call 68; refine (hide_any B X vp vu vf d f.page _ H1.out HS.out hn).mono ?_; rintro e w2 ⟨rfl, vu', hD, hK⟩; have D2 := Lib.hid hD; have K2 := Lib.hid (K1.out.trans hK); clear hD hK))
    go_end0
    exact ⟨rfl, vu', by rw [HL.out]; exact D2.out, K2.out⟩
  by_cases k6 : f.kind = 6
  · have HL : Hid (harmD d f = { d with dead := true }) := Lib.hid (by unfold harmD; rw [if_neg k4, if_neg k5, if_pos k6])
    have e4 : (f.kind == 4) = false := by simp [k4]
    have e5 : (f.kind == 5) = false := by simp [k5]
    have e6 : (f.kind == 6) = true := by simp [k6]
    clear k4 k5 k6 hp hfp hfb hs
    go_enter Try.func44, Try.ntmps44
    go_wp2_with (first
      | (refine wp_boxW f.vals _ rfl rfl rfl ?_; intro w1 hP hb1 hz1; have HF1 := Lib.hid hP; have H1 := Lib.hid (HH.out.keep hb1); have K1 := Lib.hid (HH.out.kp hb1); obtain ⟨b0, b1, b2, b3, b4, b5⟩ := hP.all6; clear hP hb1 HH)
      | (refine wp_storeFieldW 4 (.bool true) rfl rfl info_bool1 H1.out.row (show 3 < 5 by decide) rfl rfl rfl rfl ?_; intro w2 hP hS; have D2 := Lib.hid (H1.out.setRow (n := d.writes) (b := true) (d' := { d with dead := true }) hS hP rfl); have K2 := Lib.hid (K1.out.trans (Kp.stored (fun k hk => (H1.out.outs k hk).2.1) hS)); clear hP hS))
    go_end0
    exact ⟨rfl, vu, by rw [HL.out]; exact D2.out, K2.out⟩
  have HL : Hid (harmD d f = d) := Lib.hid (by unfold harmD; rw [if_neg k4, if_neg k5, if_neg k6])
  have e4 : (f.kind == 4) = false := by simp [k4]
  have e5 : (f.kind == 5) = false := by simp [k5]
  have e6 : (f.kind == 6) = false := by simp [k6]
  clear k4 k5 k6 hp hfp hfb hs
  go_enter Try.func44, Try.ntmps44
  go_wp2_with (first
    | (refine wp_boxW f.vals _ rfl rfl rfl ?_; intro w1 hP hb1 hz1; have HF1 := Lib.hid hP; have H1 := Lib.hid (HH.out.keep hb1); have K1 := Lib.hid (HH.out.kp hb1); obtain ⟨b0, b1, b2, b3, b4, b5⟩ := hP.all6; clear hP hb1 HH))
  go_end0
  exact ⟨rfl, vu, by rw [HL.out]; exact H1.out, K1.out⟩
end Go.Proofs.Ytikpchhhenonaaa.lr
