/- slices.Insert of one number into a list that the call owns; hide. -/
import Derived.Test.YtikpchhhenonaaaLp
namespace Go.Proofs.Ytikpchhhenonaaa.lq
open Go.ChangeShapes Go.WideShapes Go.ChangeAt Go.RowKit Go.Proofs.Ytikpchhhenonaaa.cx Go.Proofs.Ytikpchhhenonaaa.ra Go.Proofs.Ytikpchhhenonaaa.la Go.Proofs.Ytikpchhhenonaaa.lb Go.Proofs.Ytikpchhhenonaaa.lc Go.Proofs.Ytikpchhhenonaaa.ld Go.Proofs.Ytikpchhhenonaaa.le Go.Proofs.Ytikpchhhenonaaa.lf Go.Proofs.Ytikpchhhenonaaa.lg Go.Proofs.Ytikpchhhenonaaa.lh Go.Proofs.Ytikpchhhenonaaa.li Go.Proofs.Ytikpchhhenonaaa.lj Go.Proofs.Ytikpchhhenonaaa.lk Go.Proofs.Ytikpchhhenonaaa.ll Go.Proofs.Ytikpchhhenonaaa.lm Go.Proofs.Ytikpchhhenonaaa.ln Go.Proofs.Ytikpchhhenonaaa.lo Go.Proofs.Ytikpchhhenonaaa.lp

def insL (l : List Int) (i : Nat) (x : Int) : List Int := l.take i ++ x :: l.drop i
theorem insL_length (l : List Int) (i : Nat) (x : Int) (hi : i ≤ l.length) : (insL l i x).length = l.length + 1 := by
  unfold insL
  rw [List.length_append, List.length_cons, List.length_take, List.length_drop]
  omega
/-- A row of numbers, taken apart. -/
theorem own_open {w : World} {base n : Nat} {e : TypeId} {v : Value} {xs : List Value} (h : w.ownsRow base e 1 v n xs) : (v = .slice none 0 0 ∧ n = 0) ∨
    ∃ g cap cur, v = .slice (some ⟨g, 0, none⟩) n cap ∧ base ≤ g ∧ w.heap[g]? = some (.cells cur e (0, 0)) ∧ n ≤ cap ∧ cap ≤ maxLen ∧ cur.size = cap ∧ cur.toList.take n = xs := by
  rcases h.2 with h1 | ⟨g, cap, cur, h1, h2, h3, h4, h5, h6, h7⟩
  · exact .inl h1
  · exact .inr ⟨g, cap, cur, h1, h2, h3, h4, h5, by rw [h6, Nat.mul_one], by rw [← h7, Nat.mul_one]⟩
theorem shape_cells {w : World} {g : Nat} {cur : Array Value} {e : TypeId} {fz : Nat × Nat} (h : w.heap[g]? = some (.cells cur e fz)) : w.shape? g = some (e, cur.size) := by
  simp [World.shape?, h]
theorem frozen_cells {w : World} {g : Nat} {cur : Array Value} {e : TypeId} (h : w.heap[g]? = some (.cells cur e (0, 0))) (i : Nat) : w.frozen? ⟨g, i, none⟩ = false := by
  unfold World.frozen?
  simp [h]
/-- A row of which more is used. -/
theorem own_more {w : World} {base g n m cap : Nat} {e : TypeId} {cur : Array Value} {fill : List Value} (hb : base ≤ g) (hg : w.heap[g]? = some (.cells cur e (0, 0))) (hm : m ≤ cap) (hc : cap ≤ maxLen) (hs : cur.size = cap) (_hn : n ≤ m) (hf : cur.toList.take m = fill) : w.ownsRow base e 1 (.slice (some ⟨g, 0, none⟩) m cap) m fill := by
  refine ⟨?_, .inr ⟨g, cap, cur, rfl, hb, hg, hm, hc, by rw [hs, Nat.mul_one], by rw [Nat.mul_one]; exact hf⟩⟩
  rw [← hf, List.length_take, Array.length_toList, hs, Nat.mul_one]
  exact Nat.min_eq_left hm
/-- Cells stored into a block that is known whole. -/
theorem heap_setCells (g : Nat) (e : TypeId) : ∀ (us : List Value) (o : Nat) (w : World) (cur : Array Value), w.heap[g]? = some (.cells cur e (0, 0)) → (w.setCells g o us).heap[g]? = some (.cells (splice cur.toList o us).toArray e (0, 0))
  | [], _, _, cur, h => by simp [splice, World.setCells, h]
  | u :: r, o, w, cur, h => by
    have h1 := heap_setCell_same w g o cur e u h
    have h2 := heap_setCells g e r (o + 1) _ _ h1
    rw [World.setCells, splice, h2, Array.toList_setIfInBounds]
theorem splice_two (xs us : List Value) (o : Nat) (ho : o ≤ xs.length) (h : o + us.length ≤ xs.length) : splice xs o us = xs.take o ++ us ++ xs.drop (o + us.length) := by
  apply List.ext_getElem?
  intro j
  rcases Nat.lt_or_ge j o with h1 | h1
  · rw [splice_get_out _ _ _ _ (.inl h1), List.append_assoc, List.getElem?_append_left (by rw [List.length_take]; omega), List.getElem?_take, if_pos h1]
  · rcases Nat.lt_or_ge j (o + us.length) with h2 | h2
    · obtain ⟨t, rfl⟩ : ∃ t, j = o + t := ⟨j - o, by omega⟩
      rw [splice_get_in _ _ _ _ (by omega) h, List.append_assoc, List.getElem?_append_right (by rw [List.length_take]; omega), List.length_take, Nat.min_eq_left ho, Nat.add_sub_cancel_left, List.getElem?_append_left (by omega)]
    · rw [splice_get_out _ _ _ _ (.inr h2), List.getElem?_append_right (by rw [List.length_append, List.length_take]; omega), List.getElem?_drop, List.length_append, List.length_take, Nat.min_eq_left ho]
      congr 1
      omega
/-- A list with one more value at place i. -/
def insV (cs : List Value) (i : Nat) (x : Value) : List Value := cs.take i ++ x :: cs.drop i
theorem insV_length (cs : List Value) (i : Nat) (x : Value) (hi : i ≤ cs.length) : (insV cs i x).length = cs.length + 1 := by
  unfold insV
  rw [List.length_append, List.length_cons, List.length_take, List.length_drop]
  omega
theorem insV_lo {cs : List Value} {i j : Nat} (x : Value) (hi : i ≤ cs.length) (hj : j < i) : (insV cs i x)[j]? = cs[j]? := by
  unfold insV
  rw [List.getElem?_append_left (by rw [List.length_take]; omega), List.getElem?_take, if_pos hj]
theorem insV_at {cs : List Value} {i : Nat} (x : Value) (hi : i ≤ cs.length) : (insV cs i x)[i]? = some x := by
  unfold insV
  rw [List.getElem?_append_right (by rw [List.length_take]; omega), List.length_take, Nat.min_eq_left hi, Nat.sub_self]
  rfl
theorem insV_hi {cs : List Value} {i j : Nat} (x : Value) (hi : i ≤ cs.length) (hj : i ≤ j) : (insV cs i x)[j + 1]? = cs[j]? := by
  unfold insV
  rw [List.getElem?_append_right (by rw [List.length_take]; omega), List.length_take, Nat.min_eq_left hi, show j + 1 - i = (j - i) + 1 by omega, List.getElem?_cons_succ, List.getElem?_drop]
  congr 1
  omega
theorem take_is {L T : List Value} {m : Nat} (hT : T.length = m) (h : ∀ j, j < m → L[j]? = T[j]?) : L.take m = T := by
  apply List.ext_getElem?
  intro j
  rw [List.getElem?_take]
  split
  · exact h j (by assumption)
  · rw [List.getElem?_eq_none (by omega)]
theorem intL_ins (l : List Int) (i : Nat) (x : Int) : intL (insL l i x) = insV (intL l) i (.int .i64 x) := by
  unfold insL insV intL
  rw [List.map_append, List.map_cons, List.map_take, List.map_drop]
theorem grown_arr (cs : List Value) (z : Value) (m : Nat) : ((cs).toArray ++ Builtin.zeroCells #[z] m).toList = cs ++ (Builtin.zeroCells #[z] m).toList := by simp
theorem zc_len (z : Value) (m : Nat) : (Builtin.zeroCells #[z] m).size = m := by simp [Builtin.zeroCells]
set_option maxHeartbeats 1000000 in
theorem insert_own (v : Value) (l : List Int) (i : Nat) (x : Int) (vb base : Nat) (w : World) (h : w.ownsRow base 3 1 v l.length (intL l)) (hi : i ≤ l.length) (hn : l.length ≤ 1000) (hvb : w.heap[vb]? = some (.cells #[.int .i64 x] 3 (0, 0))) (hne : v.ownBlock ≠ some vb) (hbase : base ≤ w.heap.size) :
    Calls Try.prog 83 #[v, .int .i64 (i : Int), .slice (some ⟨vb, 0, none⟩) 1 1] w fun e w' => ∃ v', e = .returned v' ∧ w'.ownsRow base 3 1 v' (insL l i x).length (intL (insL l i x)) ∧ w.grownBy w' v.ownBlock ∧ (∀ g, v'.ownBlock = some g → v.ownBlock = some g ∨ w.heap.size ≤ g) := by
  have hvc : ∀ j u, [Value.int .i64 x][j]? = some u → w.cell? ⟨vb, 0 + j, none⟩ = some u := fun j u hj => by
    match j, hj with
    | 0, hj =>
      simp at hj
      unfold World.cell?
      simp [hvb, hj]
  have h1v : ∀ u ∈ [Value.int .i64 x], u.oneCell' = true := fun u hu => by simp at hu; subst hu; rfl
  have hcl := intL_length l
  rw [Nat.mul_one] at hcl
  rw [insL_length l i x hi, intL_ins]
  have hTl : (insV (intL l) i (.int .i64 x)).length = l.length + 1 := by rw [insV_length _ _ _ (by omega), hcl]
  have ends : i = l.length → insV (intL l) i (.int .i64 x) = intL l ++ [.int .i64 x] := fun e => by
    unfold insV
    rw [List.take_of_length_le (by omega), List.drop_eq_nil_of_le (by omega)]
  have newrow : ∀ (w2 : World) (g gc : Nat) (cs : List Value), cs.length = l.length + 1 → l.length + 1 ≤ gc → gc ≤ maxLen → base ≤ g → w2.heap[g]? = some (.cells (cs.toArray ++ Builtin.zeroCells #[.int .i64 0] (gc - (l.length + 1))) 3 (0, 0)) →
      w2.ownsRow base 3 1 (.slice (some ⟨g, 0, none⟩) (l.length + 1) gc) (l.length + 1) cs := fun w2 g gc cs h1 h2 h3 h4 h5 =>
    own_more (n := 0) h4 h5 h2 h3 (by rw [Array.size_append, List.size_toArray, zc_len]; omega) (Nat.zero_le _) (by rw [grown_arr, List.take_left' h1])
  have gcl : ∀ c, l.length + 1 ≤ grownCap w (l.length + 1) c 3 ∧ grownCap w (l.length + 1) c 3 ≤ maxLen := fun c => ⟨grownCap_ge _ _ _ _, grownCap_le_maxLen _ _ _ _ (by unfold maxLen; omega)⟩
  rcases own_open h with ⟨rfl, h0⟩ | ⟨g, cap, cur, rfl, hbg, hg, hnc, hcm, hcs, htake⟩
  · -- the nil list
    obtain rfl : l = [] := List.eq_nil_of_length_eq_zero h0
    obtain rfl : i = 0 := by simpa using hi
    have hk := Any2.slices_Insert_int_end_grow sr.laysNm221 none 0 0 vb 0 1 1 [] [.int .i64 x] w (by decide) (Nat.le_refl _) (by decide) (by decide) rfl rfl (fun _ => rfl) (fun a e => by cases e) hvc h1v
    refine Calls.mono (R := _) hk fun e w' ⟨he, hw⟩ => ?_
    have hw2 : w' = w.drew.alloc (.cells (([] ++ [Value.int .i64 x]).toArray ++ Builtin.zeroCells #[.int .i64 0] (grownCap w (0 + 1) 0 3 - (0 + 1))) 3) := hw
    have hB : Below w.heap.size w w' := by rw [hw2]; exact (Below.refl _ _).drew.alloc (Nat.le_refl _) _
    refine ⟨.slice (some ⟨w.heap.size, 0, none⟩) (0 + 1) (grownCap w (0 + 1) 0 3), he, ?_, below_grownBy hB _, fun g hg => .inr (by have e : w.heap.size = g := Option.some.inj hg; omega)⟩
    exact newrow w' w.heap.size _ [.int .i64 x] rfl (gcl 0).1 (gcl 0).2 hbase (by rw [hw2]; exact heap_alloc_new w.drew _)
  have hgl : g < w.heap.size := (Array.getElem?_eq_some_iff.1 hg).1
  have hcell : ∀ j u, (intL l)[j]? = some u → w.cell? ⟨g, 0 + j, none⟩ = some u := fun j u hj => by
    rw [Nat.zero_add, cell_of_row w g j cur _ (0, 0) hg]
    rw [← htake, List.getElem?_take] at hj
    split at hj
    · simpa using hj
    · cases hj
  have hsp : ∀ j, j < cap → (w.cell? ⟨g, 0 + j, none⟩).isSome = true := fun j hj => by
    rw [Nat.zero_add, cell_of_row w g j cur _ (0, 0) hg, Array.getElem?_eq_getElem (by omega)]; rfl
  have hgvb : vb ≠ g := fun e => hne (by rw [e]; rfl)
  have hcurt : ∀ j, j < l.length → cur.toList[j]? = (intL l)[j]? := fun j hj => by rw [← htake, List.getElem?_take, if_pos hj]
  have hcul : cur.toList.length = cap := by rw [Array.length_toList, hcs]
  rcases Nat.lt_or_ge l.length cap with hroom | hroom
  · rcases Nat.lt_or_ge i l.length with hin | hin
    · -- room, in the midst
      have hk := Any2.slices_Insert_int_shift sr.laysNm221 g 0 l.length cap i vb 0 1 1 (intL l) [.int .i64 x] w hin (by decide) hroom (by unfold maxLen at hcm; omega) hgvb hcl rfl hcell (fun j hj => hsp j (by omega)) (fun j _ => frozen_cells hg _) hvc (intL_one l) h1v _ _ _ _ (shape_cells hvb) (shape_cells hg) (by omega) (frozen_cells hvb _) (frozen_cells hvb _)
      refine Calls.mono (R := _) hk fun e w' ⟨he, hw⟩ => ?_
      have g1 := heap_setCells g 3 ((intL l).drop i) (0 + (i + 1)) w.drew cur hg
      have g2 := heap_setCells g 3 [.int .i64 x] (0 + i) _ _ g1
      rw [← hw] at g2
      have hG : w.grownBy w' (some g) := by
        rw [hw]
        have b0 := ra.below_setCells (B := 0) g (Nat.zero_le _) [.int .i64 x] (0 + i) _ (ra.below_setCells g (Nat.zero_le _) ((intL l).drop i) (0 + (i + 1)) _ (Below.refl 0 w).drew)
        exact ⟨b0.os, b0.tape, b0.output, b0.size, fun k _ hne => by
          rw [setCells_heap g k (fun e => hne (by rw [e])), setCells_heap g k (fun e => hne (by rw [e]))]; rfl⟩
      refine ⟨.slice (some ⟨g, 0, none⟩) (l.length + 1) cap, he, ?_, hG, fun g' hg' => .inl hg'⟩
      refine own_more (n := 0) hbg g2 hroom hcm (by rw [List.size_toArray, splice_length, splice_length]; exact hcul) (Nat.zero_le _) ?_
      refine take_is hTl fun j hj => ?_
      simp only [Nat.zero_add]
      rcases Nat.lt_trichotomy j i with h1 | rfl | h1
      · rw [insV_lo _ (by omega) h1, splice_get_out _ _ _ _ (.inl h1), splice_get_out _ _ _ _ (.inl (by omega)), hcurt j (by omega)]
      · rw [insV_at _ (by omega)]
        exact splice_get_in [Value.int .i64 x] _ j 0 (by simp) (by rw [splice_length, hcul]; simp only [List.length_singleton]; omega)
      · obtain ⟨t, rfl⟩ : ∃ t, j = t + 1 := ⟨j - 1, by omega⟩
        rw [insV_hi _ (by omega) (by omega), splice_get_out _ _ _ _ (.inr (by simp only [List.length_singleton]; omega)), show t + 1 = (i + 1) + (t - i) by omega, splice_get_in _ _ _ _ (by rw [List.length_drop]; omega) (by rw [List.length_drop]; omega), List.getElem?_drop]
        congr 1
        omega
    · -- room, at the end
      obtain rfl : i = l.length := by omega
      have hk := Any2.slices_Insert_int_end_room sr.laysNm221 g 0 l.length cap vb 0 1 1 [.int .i64 x] w (by decide) hroom (by unfold maxLen at hcm; omega) rfl (fun j hj => by rw [Nat.add_assoc]; exact hsp _ (by omega)) (fun j _ => frozen_cells hg _) hvc h1v
      refine Calls.mono (R := _) hk fun e w' ⟨he, hw⟩ => ?_
      have g2 := heap_setCells g 3 [.int .i64 x] (0 + l.length) w cur hg
      rw [← hw] at g2
      have hG : w.grownBy w' (some g) := by
        rw [hw]
        have b0 := ra.below_setCells (B := 0) g (Nat.zero_le _) [.int .i64 x] (0 + l.length) _ (Below.refl 0 w)
        exact ⟨b0.os, b0.tape, b0.output, b0.size, fun k _ hne => by
          rw [setCells_heap g k (fun e => hne (by rw [e]))]⟩
      refine ⟨.slice (some ⟨g, 0, none⟩) (l.length + 1) cap, he, ?_, hG, fun g' hg' => .inl hg'⟩
      refine own_more (n := 0) hbg g2 hroom hcm (by rw [List.size_toArray, splice_length]; exact hcul) (Nat.zero_le _) ?_
      refine take_is hTl fun j hj => ?_
      simp only [Nat.zero_add]
      rcases Nat.lt_or_ge j l.length with h1 | h1
      · rw [insV_lo _ (by omega) h1, splice_get_out _ _ _ _ (.inl h1), hcurt j h1]
      · obtain rfl : j = l.length := by omega
        rw [insV_at _ (by omega)]
        exact splice_get_in [Value.int .i64 x] _ l.length 0 (by simp) (by rw [hcul]; simp only [List.length_singleton]; omega)
  · obtain rfl : cap = l.length := by omega
    rcases Nat.lt_or_ge i l.length with hin | hin
    · -- no room, in the midst
      have hk := Any2.slices_Insert_int_grow sr.laysNm221 g 0 l.length l.length i vb 0 1 1 (intL l) [.int .i64 x] w hin (by decide) (Nat.le_refl _) (by omega) (by omega) hcl rfl hcell hvc (intL_one l) h1v
      refine Calls.mono (R := _) hk fun e w' ⟨he, hw⟩ => ?_
      have hlt := gcl l.length
      have he' : e = .returned (.slice (some ⟨w.heap.size, 0, none⟩) (l.length + 1) (grownCap w (l.length + 1) l.length 3)) := he
      have hw' : w' = (((w.alloc (.cells (((intL l).take i).toArray ++ Builtin.zeroCells #[.int .i64 0] (l.length + 1 - i) ++ Builtin.zeroCells #[.int .i64 0] (grownCap w (l.length + 1) l.length 3 - (l.length + 1))) 3)).drew.setCells w.heap.size i [.int .i64 x]).drew).setCells w.heap.size (i + 1) ((intL l).drop i) := hw
      generalize grownCap w (l.length + 1) l.length 3 = gc at hlt he' hw'
      obtain ⟨A, hA⟩ : ∃ A : Array Value, A = ((intL l).take i).toArray ++ Builtin.zeroCells #[.int .i64 0] (l.length + 1 - i) ++ Builtin.zeroCells #[.int .i64 0] (gc - (l.length + 1)) := ⟨_, rfl⟩
      have hAs : A.size = gc := by rw [hA, Array.size_append, Array.size_append, zc_len, zc_len, List.size_toArray, List.length_take]; omega
      have hAl : A.toList.length = gc := by rw [Array.length_toList]; exact hAs
      have hAt : ∀ j, j < i → A.toList[j]? = (intL l)[j]? := fun j hj => by
        rw [hA]
        simp only [Array.toList_append]
        rw [List.append_assoc, List.getElem?_append_left (by rw [List.length_take]; omega), List.getElem?_take, if_pos hj]
      rw [← hA] at hw'
      have g0 : (w.alloc (.cells A 3)).drew.heap[w.heap.size]? = some (.cells A 3 (0, 0)) := heap_alloc_new w _
      have g1 := heap_setCells w.heap.size 3 [.int .i64 x] i _ A g0
      have g2 := heap_setCells w.heap.size 3 ((intL l).drop i) (i + 1) (((w.alloc (.cells A 3)).drew.setCells w.heap.size i [.int .i64 x]).drew) _ g1
      rw [← hw'] at g2
      have hB : Below w.heap.size w w' := by
        rw [hw']
        exact ra.below_setCells _ (Nat.le_refl _) _ _ _ (ra.below_setCells _ (Nat.le_refl _) _ _ _ ((Below.refl _ _).alloc (Nat.le_refl _) _).drew).drew
      refine ⟨_, he', ?_, below_grownBy hB _, fun g' hg' => .inr (by have e : w.heap.size = g' := Option.some.inj hg'; omega)⟩
      refine own_more (n := 0) hbase g2 hlt.1 hlt.2 (by rw [List.size_toArray, splice_length, List.toList_toArray, splice_length]; exact hAl) (Nat.zero_le _) ?_
      refine take_is hTl fun j hj => ?_
      rcases Nat.lt_trichotomy j i with h1 | rfl | h1
      · rw [insV_lo _ (by omega) h1, splice_get_out _ _ _ _ (.inl (by omega)), splice_get_out _ _ _ _ (.inl h1), hAt j h1]
      · rw [insV_at _ (by omega), splice_get_out _ _ _ _ (.inl (by omega))]
        exact splice_get_in [Value.int .i64 x] _ j 0 (by simp) (by rw [hAl]; simp only [List.length_singleton]; omega)
      · obtain ⟨t, rfl⟩ : ∃ t, j = t + 1 := ⟨j - 1, by omega⟩
        rw [insV_hi _ (by omega) (by omega), show t + 1 = (i + 1) + (t - i) by omega, splice_get_in _ _ _ _ (by rw [List.length_drop]; omega) (by rw [splice_length, hAl, List.length_drop]; omega), List.getElem?_drop]
        congr 1
        omega
    · -- no room, at the end
      obtain rfl : i = l.length := by omega
      have hk := Any2.slices_Insert_int_end_grow sr.laysNm221 (some ⟨g, 0, none⟩) l.length l.length vb 0 1 1 (intL l) [.int .i64 x] w (by decide) (Nat.le_refl _) (by omega) (by omega) hcl rfl (fun e => by cases e) (fun a e j u hj => by injection e with e; rw [← e, Addr.add_lit]; exact hcell j u hj) hvc h1v
      refine Calls.mono (R := _) hk fun e w' ⟨he, hw⟩ => ?_
      have hw2 : w' = w.drew.alloc (.cells ((intL l ++ [Value.int .i64 x]).toArray ++ Builtin.zeroCells #[.int .i64 0] (grownCap w (l.length + 1) l.length 3 - (l.length + 1))) 3) := hw
      have hB : Below w.heap.size w w' := by rw [hw2]; exact (Below.refl _ _).drew.alloc (Nat.le_refl _) _
      refine ⟨.slice (some ⟨w.heap.size, 0, none⟩) (l.length + 1) (grownCap w (l.length + 1) l.length 3), he, ?_, below_grownBy hB _, fun g' hg' => .inr (by have e : w.heap.size = g' := Option.some.inj hg'; omega)⟩
      rw [ends rfl]
      exact newrow w' w.heap.size _ _ (by rw [List.length_append, hcl]; rfl) (gcl _).1 (gcl _).2 hbase (by rw [hw2]; exact heap_alloc_new w.drew _)
end Go.Proofs.Ytikpchhhenonaaa.lq
