/- Appending a slice to a row that the call owns; slices.Grow, Concat and Clone of entries. -/
import Derived.Test.YtmlclccfmlcabaaDoorJg
import Derived.Test.YtmlclccfmlcabaaDoorQd
import Derived.Lib.AppendZerosOnto
namespace Go.Proofs.YtmlclccfmlcabaaDoor.jd
open Go.ChangeShapes Go.WideShapes Go.ChangeAt Go.RowKit Go.Proofs.YtmlclccfmlcabaaDoor.cx Go.Proofs.YtmlclccfmlcabaaDoor.ra Go.Proofs.YtmlclccfmlcabaaDoor.rb Go.Proofs.YtmlclccfmlcabaaDoor.rc Go.Proofs.YtmlclccfmlcabaaDoor.da Go.Proofs.YtmlclccfmlcabaaDoor.ea Go.Proofs.YtmlclccfmlcabaaDoor.eb Go.Proofs.YtmlclccfmlcabaaDoor.ed Go.Proofs.YtmlclccfmlcabaaDoor.fb Go.Proofs.YtmlclccfmlcabaaDoor.ka Go.Proofs.YtmlclccfmlcabaaDoor.kb Go.Proofs.YtmlclccfmlcabaaDoor.kg Go.Proofs.YtmlclccfmlcabaaDoor.kj Go.Proofs.YtmlclccfmlcabaaDoor.oa Go.Proofs.YtmlclccfmlcabaaDoor.os Go.Proofs.YtmlclccfmlcabaaDoor.qd Go.Proofs.YtmlclccfmlcabaaDoor.jg
set_option linter.unusedSimpArgs false

theorem run_append_none {P : Program} {w : World} {base n size : Nat} {e : TypeId} {v : Value} {xs : List Value} (t ty : TypeId) (ht : P.underlying t = some (.slice e)) (i : TypeInfo) (hi : P.info? e = some i) (hown : w.ownsRow base e size v n xs) (so : Option Addr) (cap : Nat)
    (hf : (Builtin.firstCells i.size 0 (.slice so 0 cap)).run P w = .ok #[] w) : (Builtin.append_ #[t, t] ty #[v, .slice so 0 cap]).run P w = .ok v w := by
  rcases hown.2 with ⟨rfl, rfl⟩ | ⟨g, cp, cur, rfl, _, _, h1, _⟩
  · simp [Builtin.append_, run_underlying ht, sizeOf, typeInfo, hi, Builtin.lenOf, hf, storeCells]
  · simp [Builtin.append_, run_underlying ht, sizeOf, typeInfo, hi, Builtin.lenOf, hf, storeCells, h1]
theorem run_first_zero {P : Program} (w : World) (size : Nat) (so : Option Addr) (cap : Nat) : (Builtin.firstCells size 0 (.slice so 0 cap)).run P w = .ok #[] w := by
  cases so with
  | none => exact run_firstCells_none _ _ _ _ _
  | some b => exact run_firstCells_some w size 0 b 0 cap [] (by simp) (fun j v h => by cases h)
section
variable {ops : Array Oper} {rest : List Oper} {o : Oper} {a : Act} {w : World} {Q : Exit → Act → World → Prop} {K : Act → World → Prop} {s x : Operand}
/-- What an append of a slice to a row that the call owns gives. -/
def Grew (w : World) (base : Nat) (e : TypeId) (size : Nat) (v : Value) (n : Nat) (xs : List Value) (v' : Value) (w' : World) : Prop :=
  w'.ownsRow base e size v' n xs ∧ w.grownBy w' v.ownBlock ∧ (∀ g, v'.ownBlock = some g → v.ownBlock = some g ∨ w.heap.size ≤ g)
theorem op_appSl (t e : TypeId) (i : TypeInfo) (z : Value) (size bytes : Nat) (ho : o.op = .call { callee := .builtin .append, args := #[s, x], argTypes := #[t, t] })
    (ht : Tryd.prog.underlying t = some (.slice e)) (hi : Tryd.prog.info? e = some i) (hz : i.zero = some z) (hsize : i.size = size) (hby : i.bytes = bytes) (hzs : z.cells.size = size) (hsz : 0 < size)
    {base n m : Nat} {v : Value} {xs ys : List Value} {vx : Value} (hs : a.eval s = v) (hx : a.eval x = vx)
    (hown : w.ownsRow base e size v n xs) (H : Sl vx size m ys w) (h1 : ∀ u ∈ ys, u.oneCell' = true) (hn : n + m ≤ 100000) (hb : bytes ≤ 1000) (hbase : base ≤ w.heap.size)
    (h : ∀ v' w', Grew w base e size v (n + m) (xs ++ ys) v' w' → K (a.put o.dst v') w') : o.wp Tryd.prog a w K Q := by
  obtain ⟨hm0, hl, h3⟩ := H
  rcases Nat.eq_zero_or_pos m with rfl | hm
  · obtain rfl : ys = [] := List.eq_nil_of_length_eq_zero (by omega)
    obtain ⟨so, cap, rfl⟩ : ∃ so cap, vx = .slice so 0 cap := by
      rcases h3 with ⟨rfl, _⟩ | ⟨b, off, cap, rfl, _⟩
      · exact ⟨none, 0, rfl⟩
      · exact ⟨_, cap, rfl⟩
    have hr := run_append_none (P := Tryd.prog) t o.type ht i hi hown so cap (run_first_zero w _ so cap)
    have := h v w ⟨by simpa using hown, ⟨rfl, rfl, rfl, Nat.le_refl _, fun _ _ _ => rfl⟩, fun g hg => .inl hg⟩
    unfold Oper.wp execOp
    simp only [ho, resolve, invoke, builtin, Sem.run_bind, Sem.run_pure, Result.andThen_ok, List.map_toArray, List.map_cons, List.map_nil, hs, hx, hr]
    exact this
  · rcases h3 with ⟨_, h0⟩ | ⟨b, off, cap, rfl, hcap, hbl, hc⟩
    · omega
    · refine wp_append_lies w s x t ho base e i z size bytes ht hi hz hsize hby hzs hsz v n xs hs hown ⟨b, off, none⟩ m cap ys hx hl (fun j u hu => by rw [Addr.add_lit]; exact hc j u hu) h1 hm (by unfold maxLen; omega) (Nat.le_trans (Nat.mul_le_mul hn hb) (by decide)) hbase w.heap.size rfl ?_
      intro g cp w' a1 a2 a3 _
      refine h _ _ ⟨a1, a2, fun g' e => ?_⟩
      have e2 : g = g' := Option.some.inj e
      subst e2
      rcases a3 with a3 | a3
      · exact .inl a3
      · exact .inr (by omega)
theorem wp_appSl (t e : TypeId) (i : TypeInfo) (z : Value) (size bytes : Nat) (ho : o.op = .call { callee := .builtin .append, args := #[s, x], argTypes := #[t, t] })
    (ht : Tryd.prog.underlying t = some (.slice e)) (hi : Tryd.prog.info? e = some i) (hz : i.zero = some z) (hsize : i.size = size) (hby : i.bytes = bytes) (hzs : z.cells.size = size) (hsz : 0 < size)
    {base n m : Nat} {v : Value} {xs ys : List Value} {vx : Value} (hs : a.eval s = v) (hx : a.eval x = vx) (hgd : o.guard = none)
    (hown : w.ownsRow base e size v n xs) (H : Sl vx size m ys w) (h1 : ∀ u ∈ ys, u.oneCell' = true) (hn : n + m ≤ 100000) (hb : bytes ≤ 1000) (hbase : base ≤ w.heap.size)
    (h : ∀ v' w', Grew w base e size v (n + m) (xs ++ ys) v' w' → wpList Tryd.prog ops Q rest (a.put o.dst v') w') : wpList Tryd.prog ops Q (o :: rest) a w :=
  wpList_plain hgd fun _ hK => op_appSl t e i z size bytes ho ht hi hz hsize hby hzs hsz hs hx hown H h1 hn hb hbase fun v' w' hG => hK _ _ (h v' w' hG)
theorem wp_appRun {t tn : TypeId} {v1 v2 v' : Value} {w' : World} (hr : ∀ ty, (Builtin.append_ #[t, tn] ty #[v1, v2]).run Tryd.prog w = .ok v' w') (ho : o.op = .call { callee := .builtin .append, args := #[s, x], argTypes := #[t, tn] }) (hs : a.eval s = v1) (hx : a.eval x = v2) (hgd : o.guard = none)
    (h : wpList Tryd.prog ops Q rest (a.put o.dst v') w') : wpList Tryd.prog ops Q (o :: rest) a w :=
  wpList_plain hgd fun _ hK => by
    unfold Oper.wp execOp
    simp only [ho, resolve, invoke, builtin, Sem.run_bind, Sem.run_pure, Result.andThen_ok, List.map_toArray, List.map_cons, List.map_nil, hs, hx, hr]
    exact hK _ _ h
/-- The same of entries. -/
theorem wp_appEnts {base : Nat} {l m : List Ent} {v vx : Value} (ho : o.op = .call { callee := .builtin .append, args := #[s, x], argTypes := #[23, 23] }) (hs : a.eval s = v) (hx : a.eval x = vx) (hgd : o.guard = none)
    (hown : w.ownsRow base 31 13 v l.length (entL l)) (H : Sl vx 13 m.length (entL m) w) (hn : l.length + m.length ≤ 100000) (hbase : base ≤ w.heap.size)
    (h : ∀ v' w', Grew w base 31 13 v (l ++ m).length (entL (l ++ m)) v' w' → wpList Tryd.prog ops Q rest (a.put o.dst v') w') : wpList Tryd.prog ops Q (o :: rest) a w := by
  obtain ⟨i, hi, h0, h1', h2⟩ := info_entA
  refine wp_appSl 23 31 i (.agg ent0.vals.toArray) 13 128 ho Tryd.underlying23 hi h0 h1' h2 rfl (by decide) hs hx hgd hown H (entL_one m) hn (by decide) hbase fun v' w' hG => ?_
  rw [← List.length_append, ← entL_append] at hG
  exact h v' w' hG
end
theorem grow_any (n : Nat) (w : World) (hn : n ≤ 100000) :
    Calls Tryd.prog 26 #[.slice none 0 0, .int .i64 n] w fun e w' => ∃ v', e = .returned v' ∧ w'.ownsRow w.heap.size 31 13 v' 0 [] ∧ Below w.heap.size w w' := by
  rcases Nat.eq_zero_or_pos n with rfl | h0
  · go_enter Tryd.func26, Tryd.ntmps26
    go_wp2
    go_ret
    exact ⟨_, rfl, World.ownsRow_nil _ _ _ _, Below.refl _ _⟩
  · obtain ⟨i0, hi, hz, hzs, hzb⟩ := info_entA
    have hr : ∀ ty, (Builtin.append_ #[23, 3] ty #[.slice none 0 0, .int .i64 (n : Int)]).run Tryd.prog w = .ok (.slice (some ⟨w.heap.size, 0, none⟩) n (grownCap w n 0 31)) (w.drew.alloc (.cells (Builtin.zeroCells (Value.agg ent0.vals.toArray).cells n ++ Builtin.zeroCells (Value.agg ent0.vals.toArray).cells (grownCap w n 0 31 - n)) 31)) := fun ty => by
      have h := Lib.run_append_grow_zeros w 23 3 ty 31 i0 _ .i64 .i64 Tryd.underlying23 Tryd.underlying3 hi hz none 0 0 [] (run_firstCells_none _ _ _ _ _) n h0 (by omega) (by omega) (by omega) (by rw [hzb]; omega) (by rw [hzb]; exact growslice_fits (by omega) (by omega))
      simpa using h
    have hG1 := grownCap_ge w n 0 31
    have hG2 := grownCap_le_maxLen w n 0 31 (by unfold maxLen; omega)
    obtain ⟨G, hG⟩ : ∃ G, G = grownCap w n 0 31 := ⟨_, rfl⟩
    rw [← hG] at hr hG1 hG2
    clear hG
    have hRl : (Builtin.zeroCells (Value.agg ent0.vals.toArray).cells n ++ Builtin.zeroCells (Value.agg ent0.vals.toArray).cells (G - n)).size = G * 13 := by
      have hc : (Value.agg ent0.vals.toArray).cells.size = 13 := rfl
      simp [Builtin.zeroCells, hc]
      omega
    obtain ⟨ROW, hROW⟩ : ∃ ROW, ROW = Builtin.zeroCells (Value.agg ent0.vals.toArray).cells n ++ Builtin.zeroCells (Value.agg ent0.vals.toArray).cells (G - n) := ⟨_, rfl⟩
    rw [← hROW] at hr hRl
    have HM := Lib.hid hG2
    unfold maxLen at hG2
    clear hROW hi hz hzs hzb
    have HR := Lib.hid hRl
    have HX := Lib.hid hr
    clear hRl hr
    go_enter Tryd.func26, Tryd.ntmps26
    go_wp2_with (refine wp_appRun HX.out rfl rfl rfl rfl ?_)
    go_ret
    exact ⟨_, rfl, World.ownsRow_made w.drew ROW G (Nat.le_refl _) HM.out HR.out, (Below.refl _ _).drew.alloc (Nat.le_refl _) _⟩
theorem grow_is (x : Int) (n : Nat) (hx : x = n) (w : World) (hn : n ≤ 100000) :
    Calls Tryd.prog 26 #[.slice none 0 0, .int .i64 x] w fun e w' => ∃ v', e = .returned v' ∧ w'.ownsRow w.heap.size 31 13 v' 0 [] ∧ Below w.heap.size w w' := by
  subst hx
  exact grow_any n w hn
theorem clone_ent (v : Value) (n : Nat) (xs : List Value) (w : World) (h : Sl v 13 n xs w) (h1 : ∀ u ∈ xs, u.oneCell' = true) (hn : n ≤ 100000) :
    Calls Tryd.prog 15 #[v] w fun e w' => ∃ v', e = .returned v' ∧ w'.ownsRow w.heap.size 31 13 v' n xs ∧ Below w.heap.size w w' := by
  have q : ∀ (w : World) (a : Option Addr) (n c n' c' : Nat), (binOp .eql 23 (.slice a n c) (.slice none n' c')).run Tryd.prog w = .ok (.bool a.isNone) w := fun w a n c n' c' => Lib.run_eql_slice_nil w _ _ a n c n' c' Tryd.underlying23
  obtain ⟨_, hl, h3⟩ := h
  rcases h3 with ⟨rfl, rfl⟩ | ⟨b, off, cap, rfl, hcap, hb, hc⟩
  · obtain rfl : xs = [] := List.eq_nil_of_length_eq_zero (by omega)
    clear hl h1
    go_enter Tryd.func15, Tryd.ntmps15
    go_wp2
    go_ret
    exact ⟨_, rfl, World.ownsRow_nil _ _ _ _, Below.refl _ _⟩
  · obtain ⟨i0, hi, hz0, hz1, hz2⟩ := info_entA
    have HC : Hid (∀ j u, xs[j]? = some u → w.cell? ⟨b, off + j, none⟩ = some u) := Lib.hid hc
    have HL := Lib.hid hl
    have H1 := Lib.hid h1
    clear hc hl h1
    go_enter Tryd.func15, Tryd.ntmps15
    go_wp2_with (at_builtin; refine wpList_append_own _ rfl _ _ 23 rfl w.heap.size 31 i0 (.agg ent0.vals.toArray) 13 128 Tryd.underlying23 hi hz0 hz1 hz2 rfl (by decide) _ _ _ rfl (World.ownsRow_made w #[] 0 (Nat.le_refl _) (Nat.zero_le _) (by simp)) ⟨b, off, none⟩ n cap xs rfl ?qc1 ?qc2 ?qc3 ?qc4 ?qc5 ?qc6 ?_)
    case qc1 => exact HL.out
    case qc2 =>
      intro j u hj
      rw [Addr.add_lit]
      exact Lib.cell?_alloc_some _ (HC.out j u hj)
    case qc3 => exact H1.out
    case qc4 => rw [Nat.zero_add]; unfold maxLen; omega
    case qc5 => rw [Nat.zero_add]; omega
    case qc6 => simp
    intro v' w1 hown hgrow hnil
    go_wp2
    go_ret
    refine ⟨v', rfl, by simpa using hown, ?_⟩
    exact ((Below.refl _ w).alloc (Nat.le_refl _) _).grown hgrow (by simp) (by intro k hk; simp [Value.ownBlock] at hk; omega)
def part2 (l m : List Ent) (j : Nat) : List Ent := if j = 0 then [] else if j = 1 then l else l ++ m
def sum2 (a b j : Nat) : Nat := if j = 0 then 0 else if j = 1 then a else a + b
theorem grew_below {w w' : World} {base : Nat} {e : TypeId} {size : Nat} {v : Value} {n : Nat} {xs : List Value} {v' : Value} {w0 : World} (hG : Grew w base e size v n xs v' w') (h : Below w0.heap.size w0 w) (hv : ∀ g, v.ownBlock = some g → w0.heap.size ≤ g) : Below w0.heap.size w0 w' :=
  h.grown hG.2.1 h.size hv
set_option maxHeartbeats 2000000 in
theorem concat_any (T cT : Nat) (l m : List Ent) (so1 so2 : Option Addr) (c1 c2 : Nat) (w : World) (h1 : Sl (.slice so1 l.length c1) 13 l.length (entL l) w) (h2 : Sl (.slice so2 m.length c2) 13 m.length (entL m) w) (hT0 : w.cell? ⟨T, 0, none⟩ = some (.slice so1 l.length c1)) (hT1 : w.cell? ⟨T, 1, none⟩ = some (.slice so2 m.length c2)) (hl : l.length ≤ 40000) (hm : m.length ≤ 40000) :
    Calls Tryd.prog 14 #[.slice (some ⟨T, 0, none⟩) 2 cT] w fun e w' => ∃ v', e = .returned v' ∧ w'.ownsRow w.heap.size 31 13 v' (l ++ m).length (entL (l ++ m)) ∧ Below w.heap.size w w' := by
  have H1 := Lib.hid h1
  have H2 := Lib.hid h2
  have HT0 := Lib.hid hT0
  have HT1 := Lib.hid hT1
  have hlt := Lib.hid (cell_lt hT0)
  clear h1 h2 hT0 hT1
  go_enter Tryd.func14, Tryd.ntmps14
  go_wp2
  go_loop [3, 11] (fun s3 s11 => ∃ j : Nat, j ≤ 2 ∧ s11 = .int .i64 j ∧ s3 = .int .i64 (sum2 l.length m.length j : Nat)) (fun _ s11 => 2 - (intOf s11).toNat)
  case atStart => exact ⟨0, by omega, rfl, rfl⟩
  case round =>
    obtain ⟨j, hj, rfl, rfl⟩ := hrel
    rcases (by omega : j = 0 ∨ j = 1 ∨ j = 2) with rfl | rfl | rfl
    · have hs : sum2 l.length m.length 0 = 0 := rfl
      rw [hs]
      clear hs
      go_wp2_with (refine wp_load1O _ HT0.out rfl rfl (by decide +kernel) rfl ?_)
      go_round
      case measure => simp [intOf]
      case rel => exact ⟨1, by omega, by go_num, by unfold sum2; go_num⟩
    · have hs : sum2 l.length m.length 1 = l.length := rfl
      rw [hs]
      clear hs
      go_wp2_with (refine wp_load1O _ HT1.out rfl rfl (by decide +kernel) rfl ?_)
      go_round
      case measure => simp [intOf]
      case rel => exact ⟨2, by omega, by go_num, by unfold sum2; go_num⟩
    · have hs : sum2 l.length m.length 2 = l.length + m.length := rfl
      rw [hs]
      clear hs
      go_wp2_with (go_at_call 26; (with_reducible refine (grow_is _ (l.length + m.length) (by omega) _ (by omega)).mono ?_); rintro ec w1 ⟨v1, rfl, ho, hb⟩; have HO := Lib.hid ho; have HB := Lib.hid hb; clear ho hb)
      go_loopw [6, 27] (fun s6 s27 wr => ∃ j : Nat, j ≤ 2 ∧ s27 = .int .i64 j ∧ Hid (wr.ownsRow w.heap.size 31 13 s6 (part2 l m j).length (entL (part2 l m j))) ∧ Hid (Below w.heap.size w wr)) (fun _ s27 _ => 2 - (intOf s27).toNat)
      case atStart => exact ⟨0, by omega, rfl, HO, HB⟩
      case round =>
        clear HO HB
        obtain ⟨j, hj, rfl, HO, HB⟩ := hrel
        have hsz := HB.out.size
        rcases (by omega : j = 0 ∨ j = 1 ∨ j = 2) with rfl | rfl | rfl
        · have HC := Lib.hid ((HB.out.cell (p := ⟨T, 0, none⟩) hlt.out).trans HT0.out)
          go_wp2_with (first | (refine wp_load1O _ HC.out rfl rfl (by decide +kernel) rfl ?_) | (refine wp_appEnts (l := part2 l m 0) rfl rfl rfl rfl HO.out (H1.out.keep HB.out) (by show 0 + l.length ≤ 100000; omega) hsz ?_; intro v2 w2 hG; have HG := Lib.hid hG; clear hG))
          go_roundw
          case measure => simp [intOf]
          case rel => exact ⟨1, by omega, by go_num, Lib.hid HG.out.1, Lib.hid (grew_below HG.out HB.out fun g hg => (HO.out.lt g hg).1)⟩
        · have HC := Lib.hid ((HB.out.cell (p := ⟨T, 1, none⟩) hlt.out).trans HT1.out)
          go_wp2_with (first | (refine wp_load1O _ HC.out rfl rfl (by decide +kernel) rfl ?_) | (refine wp_appEnts (l := part2 l m 1) rfl rfl rfl rfl HO.out (H2.out.keep HB.out) (by show l.length + m.length ≤ 100000; omega) hsz ?_; intro v2 w2 hG; have HG := Lib.hid hG; clear hG))
          go_roundw
          case measure => simp [intOf]
          case rel => exact ⟨2, by omega, by go_num, Lib.hid HG.out.1, Lib.hid (grew_below HG.out HB.out fun g hg => (HO.out.lt g hg).1)⟩
        · go_wp2_with fail
          go_ret
          exact ⟨_, rfl, HO.out, HB.out⟩
theorem build_s2 (a b : Option Addr) (n c m d : Nat) (W : World) : (Instr.buildSlice 56 2 #[(0, .slice a n c), (1, .slice b m d)]).run Tryd.prog W = .ok (.slice (some ⟨W.heap.size, 0, none⟩) 2 2) (W.alloc (.cells #[.slice a n c, .slice b m d] 23)) := by kernel_rfl
section
variable {ops : Array Oper} {rest : List Oper} {o : Oper} {f : Act} {w : World} {Q : Exit → Act → World → Prop} {x y : Operand}
theorem wp_buildS2W (a b : Option Addr) (n c m d : Nat) (ho : o.op = .buildSlice 56 2 #[(0, x), (1, y)]) (hx : f.eval x = .slice a n c) (hy : f.eval y = .slice b m d)
    (hgd : Region.wanted o (yielded ops f.tmps) = true) (h : ∀ W, RowAt w.heap.size [.slice a n c, .slice b m d] W → Below w.heap.size w W → w.heap.size < W.heap.size → wpList Tryd.prog ops Q rest (f.put o.dst (.slice (some ⟨w.heap.size, 0, none⟩) 2 2)) W) : wpList Tryd.prog ops Q (o :: rest) f w :=
  wpList_step fun _ hK => by
    rw [if_pos hgd]
    have hn := h _ (RowAt.new [.slice a n c, .slice b m d] w 23) ((Below.refl _ _).alloc (Nat.le_refl _) _) (by simp)
    have hb := build_s2 a b n c m d w
    unfold Oper.wp execOp
    simp only [ho]
    simp only [List.map_toArray, List.map_cons, List.map_nil, hx, hy, hb, Sem.run_bind, Result.andThen_ok, Sem.run_pure]
    exact hK _ _ hn
end
end Go.Proofs.YtmlclccfmlcabaaDoor.jd
