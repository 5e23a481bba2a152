/- The reference's lists: has, without, with. -/
import Derived.Test.YtikpchhhenonaaaNa
namespace Go.Proofs.Ytikpchhhenonaaa.nc
open Go.ChangeShapes Go.WideShapes Go.ChangeAt Go.RowKit Go.Proofs.Ytikpchhhenonaaa.cx Go.Proofs.Ytikpchhhenonaaa.ra Go.Proofs.Ytikpchhhenonaaa.la Go.Proofs.Ytikpchhhenonaaa.lb Go.Proofs.Ytikpchhhenonaaa.lc Go.Proofs.Ytikpchhhenonaaa.ld Go.Proofs.Ytikpchhhenonaaa.le Go.Proofs.Ytikpchhhenonaaa.lf Go.Proofs.Ytikpchhhenonaaa.lg Go.Proofs.Ytikpchhhenonaaa.lh Go.Proofs.Ytikpchhhenonaaa.li Go.Proofs.Ytikpchhhenonaaa.lj Go.Proofs.Ytikpchhhenonaaa.lk Go.Proofs.Ytikpchhhenonaaa.ll Go.Proofs.Ytikpchhhenonaaa.lm Go.Proofs.Ytikpchhhenonaaa.ln Go.Proofs.Ytikpchhhenonaaa.lo Go.Proofs.Ytikpchhhenonaaa.lp Go.Proofs.Ytikpchhhenonaaa.lq Go.Proofs.Ytikpchhhenonaaa.lr Go.Proofs.Ytikpchhhenonaaa.ls Go.Proofs.Ytikpchhhenonaaa.lt Go.Proofs.Ytikpchhhenonaaa.lu Go.Proofs.Ytikpchhhenonaaa.lv Go.Proofs.Ytikpchhhenonaaa.lw Go.Proofs.Ytikpchhhenonaaa.lx Go.Proofs.Ytikpchhhenonaaa.ly Go.Proofs.Ytikpchhhenonaaa.na
set_option linter.unusedSimpArgs false
theorem sl_block {so : Option Addr} {n cap k : Nat} {xs : List Value} {w : World} (h : Sl (.slice so n cap) k n xs w) (hn : 0 < n) :
    ∃ g off, so = some ⟨g, off, none⟩ ∧ g < w.heap.size ∧ ∀ i u, xs[i]? = some u → w.cell? ⟨g, off + i, none⟩ = some u := by
  rcases h.2.2 with ⟨_, h0⟩ | ⟨b, off, cap', e, _, hb, hcc⟩
  · omega
  · simp only [Value.slice.injEq, true_and] at e
    exact ⟨b, off, e.1, hb, hcc⟩
theorem contains_take (l : List Int) (x : Int) : l.contains x = true ↔ ∃ i : Nat, l[i]? = some x := by
  rw [List.contains_iff_mem]
  constructor
  · intro h
    obtain ⟨i, hi, rfl⟩ := List.mem_iff_getElem.1 h
    exact ⟨i, List.getElem?_eq_getElem hi⟩
  · rintro ⟨i, h⟩
    exact List.mem_of_getElem? h
set_option maxHeartbeats 4000000 in
set_option maxRecDepth 4000 in
theorem refHas_any (v : Value) (l : List Int) (x : Int) (b : Bool) (hb : l.contains x = b) (w : World) (h : Sl v 1 l.length (intL l) w) :
    Calls Try.prog 59 #[v, .int .i64 x] w fun e w' => e = .returned (.bool b) ∧ w = w' := by
  have HBB := Lib.hid hb
  clear hb
  obtain ⟨so, cap, rfl, hcap⟩ := h.form
  have H := Lib.hid h
  have hlen := Sl.len_le h
  clear h
  go_enter Try.func59, Try.ntmps59
  go_wp2_with fail
  go_loopw [5] (fun s5 wr => ∃ j : Nat, j ≤ l.length ∧ s5 = .int .i64 j ∧ Hid (∀ i y, i < j → l[i]? = some y → y ≠ x) ∧ w = wr) (fun s5 _ => l.length - (intOf s5).toNat)
  case atStart => exact ⟨0, by omega, rfl, Lib.hid (fun i y hi _ => absurd hi (Nat.not_lt_zero _)), rfl⟩
  case round =>
    obtain ⟨j, hj, rfl, HA, rfl⟩ := hrel
    by_cases hj2 : j < l.length
    · obtain ⟨y, hy⟩ : ∃ y, l[j]? = some y := ⟨_, List.getElem?_eq_getElem hj2⟩
      obtain ⟨g, off, rfl, hg, hcc⟩ := sl_block H.out (by omega)
      have hc : w.cell? ⟨g, off + j, none⟩ = some (.int .i64 y) := hcc j _ (intL_at hy)
      have q0 : (0 : Int) ≤ (j : Int) := by omega
      have q1 : (j : Int) < (l.length : Int) := by omega
      have HY := Lib.hid hy
      clear hcc hy
      by_cases e : y = x
      · subst e
        obtain rfl : b = true := by rw [← HBB.out]; exact (contains_take l y).2 ⟨j, HY.out⟩
        go_wp2_with fail
        go_ret
        exact ⟨rfl, rfl⟩
      · have hz : (y == x) = false := by simpa using e
        have NX : Hid (∀ i z, i < j + 1 → l[i]? = some z → z ≠ x) := Lib.hid (fun i z hi hz => by
          by_cases e2 : i = j
          · subst e2
            rw [HY.out] at hz
            injection hz with hz
            rw [← hz]; exact e
          · exact HA.out i z (by omega) hz)
        clear e
        go_wp2_with fail
        go_roundw
        case measure => simp [intOf]; omega
        case rel => exact ⟨j + 1, by omega, by go_num, NX, by first | rfl | trivial⟩
    · have hj3 : ¬ (j : Int) < (l.length : Int) := by omega
      obtain rfl : b = false := by
        cases b
        · rfl
        · obtain ⟨i, hi⟩ := (contains_take l x).1 HBB.out
          exact absurd rfl (HA.out i x (by have := (List.getElem?_eq_some_iff.1 hi).1; omega) hi)
      go_wp2_with fail
      go_ret
      exact ⟨rfl, rfl⟩
/-- One number more. -/
theorem info_int : ∃ i, Try.prog.info? 3 = some i ∧ i.zero = some (.int .i64 0) ∧ i.size = 1 ∧ i.bytes = 8 := by
  have h : (Try.prog.info? 3).map (fun i => (i.zero, i.size, i.bytes)) = some (some (.int .i64 0), 1, 8) := by kernel_rfl
  rcases hh : Try.prog.info? 3 with _ | i
  · rw [hh] at h; cases h
  · rw [hh] at h
    simp only [Option.map_some, Option.some.injEq, Prod.mk.injEq] at h
    exact ⟨i, rfl, h.1, h.2.1, h.2.2⟩
section
variable {ops : Array Oper} {rest : List Oper} {o : Oper} {a : Act} {w : World} {Q : Exit → Act → World → Prop} {s x : Operand}
theorem build_int1 (n : Int) (W : World) : (Instr.buildSlice 24 1 #[(0, .int .i64 n)]).run Try.prog W = .ok (.slice (some ⟨W.heap.size, 0, none⟩) 1 1) (W.alloc (.cells #[.int .i64 n] 3)) := by kernel_rfl
theorem wp_buildI1W (n : Int) (ho : o.op = .buildSlice 24 1 #[(0, x)]) (hx : a.eval x = .int .i64 n)
    (hgd : Region.wanted o (yielded ops a.tmps) = true) (h : ∀ W, RowAt w.heap.size [.int .i64 n] W → Below w.heap.size w W → w.heap.size < W.heap.size → wpList Try.prog ops Q rest (a.put o.dst (.slice (some ⟨w.heap.size, 0, none⟩) 1 1)) W) : wpList Try.prog ops Q (o :: rest) a w :=
  wpList_step fun _ hK => by
    rw [if_pos hgd]
    have hn := h _ (RowAt.new [.int .i64 n] w 3) ((Below.refl _ _).alloc (Nat.le_refl _) _) (by simp)
    have hb := build_int1 n w
    unfold Oper.wp execOp
    simp only [ho]
    simp only [List.map_toArray, List.map_cons, List.map_nil, hx, hb, Sem.run_bind, Result.andThen_ok, Sem.run_pure]
    exact hK _ _ hn
theorem wp_appendI (base : Nat) (v : Value) (l : List Int) (n : Int) (T : Nat)
    (ho : o.op = .call { callee := .builtin .append, args := #[s, x], argTypes := #[24, 24] }) (hs : a.eval s = v) (hx : a.eval x = .slice (some ⟨T, 0, none⟩) 1 1) (hgd : o.guard = none)
    (hown : w.ownsRow base 3 1 v l.length (intL l)) (hT : RowAt T [.int .i64 n] w) (hn : l.length ≤ 1000) (hbase : base ≤ w.heap.size)
    (h : ∀ v' w', w'.ownsRow base 3 1 v' (l ++ [n]).length (intL (l ++ [n])) → w.grownBy w' v.ownBlock → (∀ g, v'.ownBlock = some g → v.ownBlock = some g ∨ w.heap.size ≤ g) → wpList Try.prog ops Q rest (a.put o.dst v') w') : wpList Try.prog ops Q (o :: rest) a w := by
  obtain ⟨i, hi, h0, h1, h2⟩ := info_int
  refine wpList_plain hgd fun _ hK => ?_
  refine wp_append_lies w s x 24 ho base 3 i (.int .i64 0) 1 8 Try.underlying24 hi h0 h1 h2 rfl (by decide) v l.length (intL l) hs hown ⟨T, 0, none⟩ 1 1 [.int .i64 n] hx rfl
    (fun j u hu => by rw [Addr.add_lit, Nat.zero_add]; exact hT.cells j u hu) (fun u hu => by simp at hu; rw [hu]; rfl) (by decide) (by unfold maxLen; omega) (by omega) hbase w.heap.size rfl ?_
  intro g cap w' a1 a2 a3 _
  refine hK _ _ (h _ _ ?_ a2 fun g' e => ?_)
  · rw [List.length_append, show intL (l ++ [n]) = intL l ++ [.int .i64 n] by simp [intL]]
    exact a1
  · have e2 : g = g' := Option.some.inj e
    subst e2
    rcases a3 with a3 | a3
    · exact .inl a3
    · exact .inr (by omega)
end
theorem below_step {w0 w w' : World} {v : Value} (h : Below w0.heap.size w0 w) (hg : w.grownBy w' v.ownBlock) (hv : ∀ g, v.ownBlock = some g → w0.heap.size ≤ g) : Below w0.heap.size w0 w' :=
  ((st_nil h).grown hg (fun _ hx => by cases hx) (fun k e => hv k e)).2
set_option maxHeartbeats 4000000 in
set_option maxRecDepth 4000 in
theorem refWithout_any (v : Value) (l : List Int) (x : Int) (w : World) (h : Sl v 1 l.length (intL l) w) (hlen : l.length ≤ 1000) :
    Calls Try.prog 69 #[v, .int .i64 x] w fun e w' => ∃ v', e = .returned v' ∧ w'.ownsRow w.heap.size 3 1 v' (l.filter fun y => !(y == x)).length (intL (l.filter fun y => !(y == x))) ∧ Below w.heap.size w w' := by
  obtain ⟨so, cap, rfl, hcap⟩ := h.form
  have H := Lib.hid h
  clear h
  go_enter Try.func69, Try.ntmps69
  go_wp2_with fail
  go_loopw [5, 6] (fun s5 s6 wr => ∃ (j : Nat), j ≤ l.length ∧ s6 = .int .i64 j ∧ Hid (wr.ownsRow w.heap.size 3 1 s5 ((l.take j).filter fun y => !(y == x)).length (intL ((l.take j).filter fun y => !(y == x)))) ∧ Hid (Below w.heap.size w wr)) (fun _ s6 _ => l.length - (intOf s6).toNat)
  case atStart => exact ⟨0, by omega, rfl, Lib.hid (World.ownsRow_nil _ _ _ _), Lib.hid (Below.refl _ _)⟩
  case round =>
    obtain ⟨j, hj, rfl, OW, B⟩ := hrel
    by_cases hj2 : j < l.length
    · obtain ⟨y, hy⟩ : ∃ y, l[j]? = some y := ⟨_, List.getElem?_eq_getElem hj2⟩
      obtain ⟨g, off, rfl, hg, hcc⟩ := sl_block H.out (by omega)
      have hc : wr.cell? ⟨g, off + j, none⟩ = some (.int .i64 y) := (B.out.cell (p := ⟨g, off + j, none⟩) hg).trans (hcc j _ (intL_at hy))
      have q0 : (0 : Int) ≤ (j : Int) := by omega
      have q1 : (j : Int) < (l.length : Int) := by omega
      have FS : Hid ((l.take (j + 1)).filter (fun y => !(y == x)) = (l.take j).filter (fun y => !(y == x)) ++ [y].filter (fun y => !(y == x))) := Lib.hid (by rw [List.take_add_one, hy, List.filter_append]; rfl)
      have FL : Hid (((l.take j).filter fun y => !(y == x)).length ≤ 1000) := Lib.hid (by have := List.length_filter_le (fun y => !(y == x)) (l.take j); rw [List.length_take] at this; omega)
      clear hcc hy
      cases hz : (y == x)
      · have hz2 : (y != x) = true := by rw [bne, hz]; rfl
        have FE : Hid ([y].filter (fun y => !(y == x)) = [y]) := Lib.hid (by simp [hz])
        go_wp2_with (first
          | (refine wp_buildI1W y rfl rfl rfl ?_; intro w2 hP hb hz4; have TT := Lib.hid hP; have O2 := Lib.hid (own_keep OW.out hb); have B2 := Lib.hid (B.out.trans (hb.mono B.out.size)); clear hP hb OW B hc)
          | (refine wp_appendI w.heap.size _ _ y _ rfl rfl rfl rfl O2.out TT.out FL.out B2.out.size ?_; intro v3 w3 hO hg3 hb3; have O3 := Lib.hid hO; have B3 := Lib.hid (below_step B2.out hg3 (fun g e => (O2.out.lt g e).1)); clear hO hg3 hb3))
        go_roundw
        case measure => simp [intOf]; omega
        case rel => exact ⟨j + 1, by omega, by go_num, Lib.hid (by rw [FS.out, FE.out]; exact O3.out), B3⟩
      · have hz2 : (y != x) = false := by rw [bne, hz]; rfl
        have FE : Hid ([y].filter (fun y => !(y == x)) = []) := Lib.hid (by simp [hz])
        go_wp2_with fail
        go_roundw
        case measure => simp [intOf]; omega
        case rel => exact ⟨j + 1, by omega, by go_num, Lib.hid (by rw [FS.out, FE.out, List.append_nil]; exact OW.out), B⟩
    · have hj3 : ¬ (j : Int) < (l.length : Int) := by omega
      have ET : Hid (l.take j = l) := Lib.hid (List.take_of_length_le (by omega))
      go_wp2_with fail
      go_ret
      exact ⟨_, rfl, by have := OW.out; rwa [ET.out] at this, B.out⟩
/-- hideL, element by element. -/
theorem rank_all {L : List Int} {x : Int} (h : ∀ y ∈ L, y < x) : rank L x = L.length := by
  unfold rank
  rw [List.countP_eq_length]
  exact fun y hy => by simpa using h y hy
theorem hide_end {L : List Int} {x : Int} (h : ∀ y ∈ L, y < x) : hideL L x = L ++ [x] := by
  unfold hideL
  rw [if_neg (by rw [List.contains_iff_mem]; exact fun m => by have := h x m; omega), rank_all h]
  unfold insL
  rw [List.take_length, List.drop_length]
theorem hide_same {L : List Int} {x : Int} : hideL (L ++ [x]) x = L ++ [x] := by
  unfold hideL
  rw [if_pos (by rw [List.contains_iff_mem]; simp)]
theorem hide_more {L : List Int} {x y : Int} (h : x < y) : hideL (L ++ [y]) x = hideL L x ++ [y] := by
  unfold hideL
  have hc : (L ++ [y]).contains x = L.contains x := by
    rw [Bool.eq_iff_iff, List.contains_iff_mem, List.contains_iff_mem, List.mem_append, List.mem_singleton]
    exact ⟨fun e => e.elim id (fun e => by omega), .inl⟩
  rw [hc]
  split
  · rfl
  · have hr : rank (L ++ [y]) x = rank L x := by
      unfold rank
      rw [List.countP_append]
      have : List.countP (fun z => decide (z < x)) [y] = 0 := by
        rw [List.countP_eq_zero]
        intro z hz
        obtain rfl : z = y := by simpa using hz
        simp only [decide_eq_true_eq]
        omega
      rw [this]; rfl
    have hle : rank L x ≤ L.length := List.countP_le_length
    unfold insL
    rw [hr, List.take_append_of_le_length hle, List.drop_append_of_le_length hle]
    simp
/-- What is gathered behind some elements. -/
def WithI (L : List Int) (x : Int) (dn : Bool) (out : List Int) : Prop := (dn = false → out = L ∧ ∀ y ∈ L, y < x) ∧ (dn = true → out = hideL L x ∧ ∃ y ∈ L, x ≤ y)
set_option maxHeartbeats 8000000 in
set_option maxRecDepth 4000 in
theorem refWith_any (v : Value) (l : List Int) (x : Int) (w : World) (h : Sl v 1 l.length (intL l) w) (hlen : l.length ≤ 900) (ha : Asc l) :
    Calls Try.prog 47 #[v, .int .i64 x] w fun e w' => ∃ v', e = .returned v' ∧ w'.ownsRow w.heap.size 3 1 v' (hideL l x).length (intL (hideL l x)) ∧ Below w.heap.size w w' := by
  obtain ⟨so, cap, rfl, hcap⟩ := h.form
  have H := Lib.hid h
  have HA := Lib.hid ha
  clear h ha
  go_enter Try.func47, Try.ntmps47
  go_wp2_with fail
  go_loopw [5, 6, 7] (fun s5 s6 s7 wr => ∃ (j : Nat) (dn : Bool) (out : List Int), j ≤ l.length ∧ s7 = .int .i64 j ∧ s6 = .bool dn ∧ Hid (WithI (l.take j) x dn out) ∧ Hid (out.length ≤ j + 1) ∧ Hid (wr.ownsRow w.heap.size 3 1 s5 out.length (intL out)) ∧ Hid (Below w.heap.size w wr)) (fun _ _ s7 _ => l.length - (intOf s7).toNat)
  case atStart => exact ⟨0, false, [], by omega, rfl, rfl, Lib.hid ⟨fun _ => ⟨rfl, fun _ h => by cases h⟩, fun h => by cases h⟩, Lib.hid (by simp), Lib.hid (World.ownsRow_nil _ _ _ _), Lib.hid (Below.refl _ _)⟩
  case round =>
    obtain ⟨j, dn, out, hj, rfl, rfl, WI, OL, OW, B⟩ := hrel
    by_cases hj2 : j < l.length
    · obtain ⟨y, hy⟩ : ∃ y, l[j]? = some y := ⟨_, List.getElem?_eq_getElem hj2⟩
      obtain ⟨g, off, rfl, hg, hcc⟩ := sl_block H.out (by omega)
      have HC : Hid (∀ w', Below w.heap.size w w' → w'.cell? ⟨g, off + j, none⟩ = some (.int .i64 y)) := Lib.hid (fun w' hb => (hb.cell (p := ⟨g, off + j, none⟩) hg).trans (hcc j _ (intL_at hy)))
      have hc := HC.out _ B.out
      have q0 : (0 : Int) ≤ (j : Int) := by omega
      have q1 : (j : Int) < (l.length : Int) := by omega
      have ET : Hid (l.take (j + 1) = l.take j ++ [y]) := Lib.hid (by rw [List.take_add_one, hy]; rfl)
      have GT : Hid (∀ z ∈ l.take j, z < y) := Lib.hid (fun z hz => by
        have hp := HA.out
        unfold Asc at hp
        rw [← List.take_append_drop (j + 1) l, ET.out, List.pairwise_append, List.pairwise_append] at hp
        exact hp.1.2.2 z hz y (by simp))
      have FL : Hid (out.length ≤ 999) := Lib.hid (by have := OL.out; omega)
      have OL2 := OL.out
      clear hcc hy
      cases dn
      · obtain ⟨i1, i2⟩ := WI.out.1 rfl
        have I1 := Lib.hid i1
        have I2 := Lib.hid i2
        clear i1 i2
        rcases Int.lt_trichotomy y x with e | e | e
        · have z1 : decide (x ≤ y) = false := decide_eq_false (by omega)
          have z2 : (y != x) = true := by simp; omega
          have NX : Hid (WithI (l.take (j + 1)) x false (out ++ [y])) := Lib.hid ⟨fun _ => ⟨by rw [ET.out, I1.out], fun z hz => by
            rw [ET.out, List.mem_append, List.mem_singleton] at hz
            rcases hz with hz | rfl
            · exact I2.out z hz
            · exact e⟩, fun h => by cases h⟩
          clear e
          go_wp2_with (first
            | (refine wp_buildI1W y rfl rfl rfl ?_; intro w2 hP hb hz4; have TT := Lib.hid hP; have O2 := Lib.hid (own_keep OW.out hb); have B2 := Lib.hid (B.out.trans (hb.mono B.out.size)); clear hP hb OW B hc)
            | (refine wp_appendI w.heap.size _ _ y _ rfl rfl rfl rfl O2.out TT.out (Nat.le_trans FL.out (by decide)) B2.out.size ?_; intro v3 w3 hO hg3 hb3; have O3 := Lib.hid hO; have B3 := Lib.hid (below_step B2.out hg3 (fun g e => (O2.out.lt g e).1)); clear hO hg3 hb3))
          go_roundw
          case measure => simp [intOf]; omega
          case rel => exact ⟨j + 1, false, out ++ [y], by omega, by go_num, rfl, NX, Lib.hid (by simp; omega), O3, B3⟩
        · subst e
          have z1 : decide (y ≤ y) = true := decide_eq_true (Int.le_refl _)
          have z2 : (y != y) = false := by simp
          have NX : Hid (WithI (l.take (j + 1)) y true (out ++ [y])) := Lib.hid ⟨fun h => absurd h (by decide), fun _ => ⟨by rw [ET.out, I1.out, hide_same], y, by rw [ET.out]; simp, Int.le_refl _⟩⟩
          go_wp2_with (first
            | (refine wp_buildI1W y rfl rfl rfl ?_; intro w2 hP hb hz4; have TT := Lib.hid hP; have O2 := Lib.hid (own_keep OW.out hb); have B2 := Lib.hid (B.out.trans (hb.mono B.out.size)); clear hP hb OW B hc)
            | (refine wp_appendI w.heap.size _ _ y _ rfl rfl rfl rfl O2.out TT.out (Nat.le_trans FL.out (by decide)) B2.out.size ?_; intro v3 w3 hO hg3 hb3; have O3 := Lib.hid hO; have B3 := Lib.hid (below_step B2.out hg3 (fun g e => (O2.out.lt g e).1)); have hc3 := HC.out _ B3.out; clear hO hg3 hb3))
          go_roundw
          case measure => simp [intOf]; omega
          case rel => exact ⟨j + 1, true, out ++ [y], by omega, by go_num, rfl, NX, Lib.hid (by simp; omega), O3, B3⟩
        · have z1 : decide (x ≤ y) = true := decide_eq_true (by omega)
          have z2 : (y != x) = true := by simp; omega
          have NX : Hid (WithI (l.take (j + 1)) x true (out ++ [x] ++ [y])) := Lib.hid ⟨fun h => absurd h (by decide), fun _ => ⟨by rw [ET.out, I1.out, hide_more e, hide_end I2.out], y, by rw [ET.out]; simp, by omega⟩⟩
          clear e
          go_wp2_with (first
            | (refine wp_buildI1W x rfl rfl rfl ?_; intro w2 hP hb hz4; have TT := Lib.hid hP; have O2 := Lib.hid (own_keep OW.out hb); have B2 := Lib.hid (B.out.trans (hb.mono B.out.size)); clear hP hb OW B hc)
            | (refine wp_appendI w.heap.size _ _ x _ rfl rfl rfl rfl O2.out TT.out (Nat.le_trans FL.out (by decide)) B2.out.size ?_; intro v3 w3 hO hg3 hb3; have O3 := Lib.hid hO; have B3 := Lib.hid (below_step B2.out hg3 (fun g e => (O2.out.lt g e).1)); have hc3 := HC.out _ B3.out; clear hO hg3 hb3 O2 B2 TT)
            | (refine wp_buildI1W y rfl rfl rfl ?_; intro w4 hP hb hz4; have TT4 := Lib.hid hP; have O4 := Lib.hid (own_keep O3.out hb); have B4 := Lib.hid (B3.out.trans (hb.mono B3.out.size)); clear hP hb O3 B3 hc3)
            | (refine wp_appendI w.heap.size _ _ y _ rfl rfl rfl rfl O4.out TT4.out (by have := FL.out; rw [List.length_append]; show _ + 1 ≤ 1000; omega) B4.out.size ?_; intro v5 w5 hO hg3 hb3; have O5 := Lib.hid hO; have B5 := Lib.hid (below_step B4.out hg3 (fun g e => (O4.out.lt g e).1)); clear hO hg3 hb3))
          go_roundw
          case measure => simp [intOf]; omega
          case rel => exact ⟨j + 1, true, out ++ [x] ++ [y], by omega, by go_num, rfl, NX, Lib.hid (by have := (WI.out.1 rfl).1; rw [this]; simp [List.length_take]; omega), O5, B5⟩
      · obtain ⟨i1, z, hz, hzx⟩ := WI.out.2 rfl
        have hxy : x < y := by have := GT.out z hz; omega
        have z2 : (y != x) = true := by simp; omega
        have NX : Hid (WithI (l.take (j + 1)) x true (out ++ [y])) := Lib.hid ⟨fun h => absurd h (by decide), fun _ => ⟨by rw [ET.out, i1, hide_more hxy], z, by rw [ET.out]; exact List.mem_append_left _ hz, hzx⟩⟩
        clear i1 hz hzx hxy
        go_wp2_with (first
          | (refine wp_buildI1W y rfl rfl rfl ?_; intro w2 hP hb hz4; have TT := Lib.hid hP; have O2 := Lib.hid (own_keep OW.out hb); have B2 := Lib.hid (B.out.trans (hb.mono B.out.size)); clear hP hb OW B hc)
          | (refine wp_appendI w.heap.size _ _ y _ rfl rfl rfl rfl O2.out TT.out (Nat.le_trans FL.out (by decide)) B2.out.size ?_; intro v3 w3 hO hg3 hb3; have O3 := Lib.hid hO; have B3 := Lib.hid (below_step B2.out hg3 (fun g e => (O2.out.lt g e).1)); clear hO hg3 hb3))
        go_roundw
        case measure => simp [intOf]; omega
        case rel => exact ⟨j + 1, true, out ++ [y], by omega, by go_num, rfl, NX, Lib.hid (by simp; omega), O3, B3⟩
    · have hj3 : ¬ (j : Int) < (l.length : Int) := by omega
      have ET : Hid (l.take j = l) := Lib.hid (List.take_of_length_le (by omega))
      have FL : Hid (out.length ≤ 999) := Lib.hid (by have := OL.out; omega)
      cases dn
      · obtain ⟨i1, i2⟩ := WI.out.1 rfl
        rw [ET.out] at i1 i2
        have E : Hid (hideL l x = out ++ [x]) := Lib.hid (by rw [hide_end i2, i1])
        clear i1 i2
        go_wp2_with (first
          | (refine wp_buildI1W x rfl rfl rfl ?_; intro w2 hP hb hz4; have TT := Lib.hid hP; have O2 := Lib.hid (own_keep OW.out hb); have B2 := Lib.hid (B.out.trans (hb.mono B.out.size)); clear hP hb OW B)
          | (refine wp_appendI w.heap.size _ _ x _ rfl rfl rfl rfl O2.out TT.out (Nat.le_trans FL.out (by decide)) B2.out.size ?_; intro v3 w3 hO hg3 hb3; have O3 := Lib.hid hO; have B3 := Lib.hid (below_step B2.out hg3 (fun g e => (O2.out.lt g e).1)); clear hO hg3 hb3))
        go_ret
        exact ⟨_, rfl, by rw [E.out]; exact O3.out, B3.out⟩
      · obtain ⟨i1, i2⟩ := WI.out.2 rfl
        rw [ET.out] at i1
        have E := Lib.hid i1
        clear i1 i2
        go_wp2_with fail
        go_ret
        exact ⟨_, rfl, by rw [← E.out]; exact OW.out, B.out⟩
end Go.Proofs.Ytikpchhhenonaaa.nc
