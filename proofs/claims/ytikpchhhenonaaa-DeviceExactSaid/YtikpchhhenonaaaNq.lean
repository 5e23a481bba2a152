/- The draw Data. -/
import Derived.Test.YtikpchhhenonaaaNe
import Derived.Test.YtikpchhhenonaaaNj
namespace Go.Proofs.Ytikpchhhenonaaa.nq
open Go.ChangeShapes Go.WideShapes Go.ChangeAt Go.RowKit Go.Proofs.Ytikpchhhenonaaa.cx Go.Proofs.Ytikpchhhenonaaa.ra Go.Proofs.Ytikpchhhenonaaa.la Go.Proofs.Ytikpchhhenonaaa.lb Go.Proofs.Ytikpchhhenonaaa.lc Go.Proofs.Ytikpchhhenonaaa.ld Go.Proofs.Ytikpchhhenonaaa.le Go.Proofs.Ytikpchhhenonaaa.lf Go.Proofs.Ytikpchhhenonaaa.lg Go.Proofs.Ytikpchhhenonaaa.lh Go.Proofs.Ytikpchhhenonaaa.li Go.Proofs.Ytikpchhhenonaaa.lj Go.Proofs.Ytikpchhhenonaaa.lk Go.Proofs.Ytikpchhhenonaaa.ll Go.Proofs.Ytikpchhhenonaaa.lm Go.Proofs.Ytikpchhhenonaaa.ln Go.Proofs.Ytikpchhhenonaaa.lo Go.Proofs.Ytikpchhhenonaaa.lp Go.Proofs.Ytikpchhhenonaaa.lq Go.Proofs.Ytikpchhhenonaaa.lr Go.Proofs.Ytikpchhhenonaaa.ls Go.Proofs.Ytikpchhhenonaaa.lt Go.Proofs.Ytikpchhhenonaaa.lu Go.Proofs.Ytikpchhhenonaaa.lv Go.Proofs.Ytikpchhhenonaaa.lw Go.Proofs.Ytikpchhhenonaaa.lx Go.Proofs.Ytikpchhhenonaaa.ly Go.Proofs.Ytikpchhhenonaaa.na Go.Proofs.Ytikpchhhenonaaa.nc Go.Proofs.Ytikpchhhenonaaa.nd Go.Proofs.Ytikpchhhenonaaa.ne Go.Proofs.Ytikpchhhenonaaa.nj
set_option linter.unusedSimpArgs false
def byteL (l : List Int) : List Value := l.map (Value.int .u8)
theorem info_u8 : ∃ i, Try.prog.info? 5 = some i ∧ i.zero = some (.int .u8 0) ∧ i.size = 1 ∧ i.bytes = 1 := by
  have h : (Try.prog.info? 5).map (fun i => (i.zero, i.size, i.bytes)) = some (some (.int .u8 0), 1, 1) := by kernel_rfl
  rcases hh : Try.prog.info? 5 with _ | i
  · rw [hh] at h; cases h
  · rw [hh] at h
    simp only [Option.map_some, Option.some.injEq, Prod.mk.injEq] at h
    exact ⟨i, rfl, h.1, h.2.1, h.2.2⟩
section
variable {ops : Array Oper} {rest : List Oper} {o : Oper} {a : Act} {w : World} {Q : Exit → Act → World → Prop} {s x : Operand}
theorem build_u81 (n : Int) (W : World) : (Instr.buildSlice 22 1 #[(0, .int .u8 n)]).run Try.prog W = .ok (.slice (some ⟨W.heap.size, 0, none⟩) 1 1) (W.alloc (.cells #[.int .u8 n] 5)) := by kernel_rfl
theorem wp_buildB1W (n : Int) (ho : o.op = .buildSlice 22 1 #[(0, x)]) (hx : a.eval x = .int .u8 n)
    (hgd : Region.wanted o (yielded ops a.tmps) = true) (h : ∀ W, RowAt w.heap.size [.int .u8 n] W → Below w.heap.size w W → w.heap.size < W.heap.size → wpList Try.prog ops Q rest (a.put o.dst (.slice (some ⟨w.heap.size, 0, none⟩) 1 1)) W) : wpList Try.prog ops Q (o :: rest) a w :=
  wpList_step fun _ hK => by
    rw [if_pos hgd]
    have hn := h _ (RowAt.new [.int .u8 n] w 5) ((Below.refl _ _).alloc (Nat.le_refl _) _) (by simp)
    have hb := build_u81 n w
    unfold Oper.wp execOp
    simp only [ho]
    simp only [List.map_toArray, List.map_cons, List.map_nil, hx, hb, Sem.run_bind, Result.andThen_ok, Sem.run_pure]
    exact hK _ _ hn
theorem wp_appendB (base : Nat) (v : Value) (l : List Int) (n : Int) (T : Nat)
    (ho : o.op = .call { callee := .builtin .append, args := #[s, x], argTypes := #[22, 22] }) (hs : a.eval s = v) (hx : a.eval x = .slice (some ⟨T, 0, none⟩) 1 1) (hgd : o.guard = none)
    (hown : w.ownsRow base 5 1 v l.length (byteL l)) (hT : RowAt T [.int .u8 n] w) (hn : l.length ≤ 1000) (hbase : base ≤ w.heap.size)
    (h : ∀ v' w', w'.ownsRow base 5 1 v' (l ++ [n]).length (byteL (l ++ [n])) → w.grownBy w' v.ownBlock → (∀ g, v'.ownBlock = some g → v.ownBlock = some g ∨ w.heap.size ≤ g) → wpList Try.prog ops Q rest (a.put o.dst v') w') : wpList Try.prog ops Q (o :: rest) a w := by
  obtain ⟨i, hi, h0, h1, h2⟩ := info_u8
  refine wpList_plain hgd fun _ hK => ?_
  refine wp_append_lies w s x 22 ho base 5 i (.int .u8 0) 1 1 Try.underlying22 hi h0 h1 h2 rfl (by decide) v l.length (byteL l) hs hown ⟨T, 0, none⟩ 1 1 [.int .u8 n] hx rfl
    (fun j u hu => by rw [Addr.add_lit, Nat.zero_add]; exact hT.cells j u hu) (fun u hu => by simp at hu; rw [hu]; rfl) (by decide) (by unfold maxLen; omega) (by omega) hbase w.heap.size rfl ?_
  intro g cap w' a1 a2 a3 _
  refine hK _ _ (h _ _ ?_ a2 fun g' e => ?_)
  · rw [List.length_append, show byteL (l ++ [n]) = byteL l ++ [.int .u8 n] by simp [byteL]]
    exact a1
  · have e2 : g = g' := Option.some.inj e
    subst e2
    rcases a3 with a3 | a3
    · exact .inl a3
    · exact .inr (by omega)
end
theorem make_cap (n : Nat) (hn : n ≤ 1000) (W : World) : (Instr.makeSlice 22 (.int .i64 0) (.int .i64 (n : Int))).run Try.prog W = .ok (.slice (some ⟨W.heap.size, 0, none⟩) 0 n) (W.alloc (zeroObj n)) := by
  obtain ⟨i, hi, h0, h1, h2⟩ := info_u8
  have := run_make (P := Try.prog) W 22 5 i _ Try.underlying22 hi h0 .i64 .i64 0 (n : Int) (by omega) (by omega) (by rw [h2]; omega) (by omega)
  rw [this, h1, Int.toNat_natCast, Nat.mul_one]
  rfl
theorem make_owns (n base : Nat) (W : World) (hn : n ≤ 1000) (hb : base ≤ W.heap.size) : (W.alloc (zeroObj n)).ownsRow base 5 1 (.slice (some ⟨W.heap.size, 0, none⟩) 0 n) 0 [] :=
  ⟨rfl, .inr ⟨W.heap.size, n, madeCells #[.int .u8 0] n, rfl, hb, heap_alloc_new W _, Nat.zero_le _, by unfold maxLen; omega, by rw [size_madeCells, Nat.mul_one], rfl⟩⟩
theorem conv_nil (w : World) : (convert 22 9 (.slice none 0 0)).run Try.prog w = .ok (.string ⟨#[]⟩) w := by kernel_rfl
theorem conv_own {B : Nat} {v : Value} {l : List Int} {w : World} (h : w.ownsRow B 5 1 v l.length (byteL l)) : (convert 22 9 v).run Try.prog w = .ok (.string (strOfNums l)) w := by
  rcases h.2 with ⟨rfl, h0⟩ | ⟨g, cap, cur, rfl, _⟩
  · obtain rfl : l = [] := List.eq_nil_of_length_eq_zero h0
    exact conv_nil w
  · refine run_convert_bytes_arg (P := Try.prog) w 22 5 Try.underlying22 Try.underlying5 g 0 l.length cap l rfl (fun i hi => ?_) 9 Try.underlying9
    rw [Nat.zero_add, h.cellAt i (by omega), byteL, List.getElem?_map, List.getElem?_eq_getElem hi, List.getD, List.getElem?_eq_getElem hi]
    rfl
/-- What a draw of a few bytes gives. -/
def DataL (p m : Nat) (w : World) (e : Ending) (w' : World) : Prop := ∃ x : ByteArray, e = .returned (.string x) ∧ x.size ≤ 1000 ∧ (∃ m', m' ≤ m ∧ CodL p m' w') ∧ w.grownBy w' (some p)
theorem grown_step {p : Nat} {w W W' : World} {row : Option Nat} (h : w.grownBy W (some p)) (hg : W.grownBy W' row) (hr : ∀ k, row = some k → w.heap.size ≤ k) : w.grownBy W' (some p) :=
  ⟨hg.os.trans h.os, hg.tape.trans h.tape, hg.output.trans h.output, Nat.le_trans h.size hg.size, fun k hk hne => (hg.block k (Nat.lt_of_lt_of_le hk h.size) (fun e => by have := hr k e.symm; omega)).trans (h.block k hk hne)⟩
set_option maxHeartbeats 4000000 in
set_option maxRecDepth 4000 in
theorem data_any (p m : Nat) (w : World) (h : CodL p m w) : Calls Try.prog 19 #[.pointer (some ⟨p, 0, none⟩)] w (DataL p m w) := by
  have C := Lib.hid h
  have hpl := codL_lt h
  have G := Lib.hid (grownBy_refl w (some p))
  clear h
  go_enter Try.func19, Try.ntmps19
  go_upto_if 10 with (first
    | (go_at_call 17; refine (nextL_any p m 5 _ C.out (by decide)).mono ?_; rintro e w1 ⟨r1, rfl, hq0, hq1, _, ⟨m1, hm1, _, hC⟩, hg⟩; obtain ⟨n1, rfl⟩ := Int.eq_ofNat_of_zero_le hq0; have N1 := Lib.hid (show n1 ≤ 13 by have := hq1 (by decide); omega); have C1 := Lib.hid hC; have G1 := Lib.hid (grownBy_trans G.out hg); have M1 := Lib.hid hm1; clear hq0 hq1 hm1 hC hg C G)
    | (go_at_call 17; refine (nextL_any p m1 6 _ C1.out (by decide)).mono ?_; rintro e w2 ⟨r2, rfl, _, _, _, ⟨m2, hm2, _, hC⟩, hg⟩; have C2 := Lib.hid hC; have G2 := Lib.hid (grownBy_trans G1.out hg); have M2 := Lib.hid (Nat.le_trans hm2 M1.out); clear hm2 hC hg C1 G1))
  go_cut [3] from 6 to 12 (fun s3 wx => ∃ (n m' : Nat), s3 = .int .i64 (n : Int) ∧ n ≤ 13 ∧ m' ≤ m ∧ CodL p m' wx ∧ w.grownBy wx (some p))
  case first =>
    by_cases k0 : r2 = 0
    · subst k0
      go_wp2_with (go_at_call 17; refine (nextL_any p m2 14 _ C2.out (by decide)).mono ?_; rintro e w3 ⟨r3, rfl, hq0, hq1, _, ⟨m3, hm3, _, hC⟩, hg⟩; obtain ⟨n3, rfl⟩ := Int.eq_ofNat_of_zero_le hq0; have N3 := Lib.hid (show n3 ≤ 13 by have := hq1 (by decide); omega); have C3 := Lib.hid hC; have G3 := Lib.hid (grownBy_trans G2.out hg); have M3 := Lib.hid (Nat.le_trans hm3 M2.out); clear hq0 hq1 hm3 hC hg C2 G2)
      go_meet
      exact ⟨n3, _, rfl, N3.out, M3.out, C3.out, G3.out⟩
    · have f0 : (r2 == 0) = false := by simpa using k0
      go_wp2_with fail
      go_meet
      exact ⟨n1, _, rfl, N1.out, M2.out, C2.out, G2.out⟩
  case rest =>
  obtain ⟨n, m3, rfl, hn, hm3, hC, hG⟩ := hcut
  have mk := make_cap n (by omega) wc
  have hA : Below wc.heap.size wc (wc.alloc (zeroObj n)) := (Below.refl _ _).alloc (Nat.le_refl _) _
  have OW := Lib.hid (make_owns n w.heap.size wc (by omega) hG.size)
  have C3 := Lib.hid (codL_keep hC hA)
  have G3 := Lib.hid (grownBy_below hG hA)
  have M3 := Lib.hid hm3
  have HN := Lib.hid hn
  clear hA hC hG hm3
  generalize wc.alloc (zeroObj n) = w7 at *
  go_wp2_with fail
  go_loopw [4, 5] (fun s4 s5 wr => ∃ (l : List Int) (m' : Nat), l.length ≤ n ∧ s5 = .int .i64 (l.length : Int) ∧ m' ≤ m ∧ Hid (wr.ownsRow w.heap.size 5 1 s4 l.length (byteL l)) ∧ Hid (CodL p m' wr) ∧ Hid (w.grownBy wr (some p))) (fun _ s5 _ => n - (intOf s5).toNat)
  case atStart => exact ⟨[], m3, Nat.zero_le _, rfl, M3.out, OW, C3, G3⟩
  case round =>
    clear OW C3 G3
    obtain ⟨l, m4, hl, rfl, hm4, O, C, G⟩ := hrel
    have M4 := Lib.hid hm4
    obtain ⟨j, hj⟩ : ∃ j, j = l.length := ⟨_, rfl⟩
    have HJ := Lib.hid hj
    rw [← hj] at hl
    rw [← hj]
    clear hj hm4
    by_cases hjn : j < n
    · have q0 : (0 : Int) ≤ (j : Int) := by omega
      have q1 : (j : Int) < (n : Int) := by omega
      have q2 : (n : Int) ≤ 13 := by omega
      go_wp2_with (first
        | (go_at_call 17; refine (nextL_any p m4 3 _ C.out (by decide)).mono ?_; rintro e w5 ⟨r, rfl, hq0, hq1, _, ⟨m5, hm5, _, hC⟩, hg⟩; have hr1 := hq1 (by decide); have hr0 := hq0; have O5 := Lib.hid (own_grown O.out hg (fun g e e2 => by injection e2 with e2; have := (O.out.lt g e).1; omega)); have C5 := Lib.hid hC; have G5 := Lib.hid (grownBy_trans G.out hg); have M5 := Lib.hid (Nat.le_trans hm5 M4.out); clear hq0 hq1 hm5 hC hg O C G)
        | (refine wp_buildB1W (97 + r) rfl rfl rfl ?_; intro w6 hP hb _; have T6 := Lib.hid hP; have O6 := Lib.hid (own_keep O5.out hb); have C6 := Lib.hid (codL_keep C5.out hb); have G6 := Lib.hid (grownBy_below G5.out hb); clear hP hb O5 C5 G5)
        | (refine wp_appendB w.heap.size _ l (97 + r) _ rfl rfl rfl rfl O6.out T6.out (by have := HJ.out; omega) G6.out.size ?_; intro v8 w8 hO hg hb; have O8 := Lib.hid hO; have C8 := Lib.hid (codL_grown C6.out hg (fun k e => by have := (O6.out.lt k e).1; omega)); have G8 := Lib.hid (grown_step G6.out hg (fun k e => (O6.out.lt k e).1)); clear hO hg hb))
      go_roundw
      case measure => simp [intOf]; omega
      case rel => exact ⟨l ++ [97 + r], m5, by rw [List.length_append, ← HJ.out]; show j + 1 ≤ n; omega, by rw [List.length_append, ← HJ.out]; show _ = Value.int .i64 (((j + 1 : Nat)) : Int); go_num, M5.out, O8, C8, G8⟩
    · have hjn2 : ¬ (j : Int) < (n : Int) := by omega
      have cv := conv_own O.out
      go_wp2_with fail
      go_ret
      exact ⟨_, rfl, by rw [strOfNums_size, ← HJ.out]; have := HN.out; omega, ⟨_, M4.out, C.out⟩, G.out⟩
end Go.Proofs.Ytikpchhhenonaaa.nq
