/- EntryDecodes. -/
import Derived.Test.YtiojpfljnbdonaaOv
import Derived.Test.YtiojpfljnbdonaaOm
import Derived.Test.YtiojpfljnbdonaaOi
namespace Go.Proofs.Ytiojpfljnbdonaa.ow
open Go.ChangeShapes Go.WideShapes Go.ChangeAt Go.RowKit Go.Proofs.Ytiojpfljnbdonaa.ch Go.Proofs.Ytiojpfljnbdonaa.cy Go.Proofs.Ytiojpfljnbdonaa.cx Go.Proofs.Ytiojpfljnbdonaa.ra Go.Proofs.Ytiojpfljnbdonaa.rb Go.Proofs.Ytiojpfljnbdonaa.rc Go.Proofs.Ytiojpfljnbdonaa.da Go.Proofs.Ytiojpfljnbdonaa.ea Go.Proofs.Ytiojpfljnbdonaa.eb Go.Proofs.Ytiojpfljnbdonaa.ed Go.Proofs.Ytiojpfljnbdonaa.fb Go.Proofs.Ytiojpfljnbdonaa.ka Go.Proofs.Ytiojpfljnbdonaa.kb Go.Proofs.Ytiojpfljnbdonaa.kg Go.Proofs.Ytiojpfljnbdonaa.kj Go.Proofs.Ytiojpfljnbdonaa.oa Go.Proofs.Ytiojpfljnbdonaa.os Go.Proofs.Ytiojpfljnbdonaa.ob Go.Proofs.Ytiojpfljnbdonaa.oc Go.Proofs.Ytiojpfljnbdonaa.od Go.Proofs.Ytiojpfljnbdonaa.og Go.Proofs.Ytiojpfljnbdonaa.oh Go.Proofs.Ytiojpfljnbdonaa.oi Go.Proofs.Ytiojpfljnbdonaa.oj Go.Proofs.Ytiojpfljnbdonaa.ok Go.Proofs.Ytiojpfljnbdonaa.ol Go.Proofs.Ytiojpfljnbdonaa.om Go.Proofs.Ytiojpfljnbdonaa.on Go.Proofs.Ytiojpfljnbdonaa.op Go.Proofs.Ytiojpfljnbdonaa.oq Go.Proofs.Ytiojpfljnbdonaa.ot Go.Proofs.Ytiojpfljnbdonaa.ov
set_option linter.unusedSimpArgs false

theorem spoilt_sz (p : Nat) (s : ByteArray) (w : World) (h : Cod p w) (hs : s.size ≤ 900000) :
    Calls Try.prog 18 #[.pointer (some ⟨p, 0, none⟩), .string s] w (Spoilt p s.size w) := by
  by_cases h0 : 0 < s.size
  · exact spoilt_full p s w h h0 hs
  · obtain rfl : s = ⟨#[]⟩ := by
      apply ByteArray.ext
      exact Array.eq_empty_of_size_eq_zero (show s.data.size = 0 by show s.size = 0; omega)
    exact spoilt_empty p w h
abbrev RDecIs (s : ByteArray) (x : Ent) (n : Int) : Prop := ∀ w : World, Calls Try.prog 21 #[.string s] w fun e' w' => e' = .returned (.tuple #[.agg x.arr, .int .i64 n]) ∧ Below w.heap.size w w'
theorem dec_facts (t : ByteArray) (ht : t.size ≤ 900000) : ∃ (z : Ent) (g : Int), Hid (DecIs t z g) ∧ Hid (RDecIs t z g) := ⟨(decR t).1, (decR t).2, Lib.hid (decode_any t ht), Lib.hid (refDecode_any t ht)⟩
abbrev REncIs (x : Ent) (s : ByteArray) (n : Int) : Prop := ∀ w : World, Calls Try.prog 13 #[.agg x.arr] w fun e' w' => e' = .returned (.tuple #[.string s, .int .i64 n]) ∧ Below w.heap.size w w'
theorem good_facts {x : Ent} (hd : DrawnE x) : ∃ s : ByteArray, s.size ≤ 9000 ∧ Hid (REncIs x s 0) := by
  have hv := drawn_valid hd
  refine ⟨bytesE x, small_bytes hv, Lib.hid fun w => ?_⟩
  have := refEncode_any x w (drawn_fitsE hd)
  unfold encS encE at this
  rwa [if_pos hv, if_pos hv] at this
def strL (l : List ByteArray) : List Value := l.map Value.string
theorem build_s6 (a b c d e f : ByteArray) (W : World) : (Instr.buildSlice 42 6 #[(0, .string a), (1, .string b), (2, .string c), (3, .string d), (4, .string e), (5, .string f)]).run Try.prog W = .ok (.slice (some ⟨W.heap.size, 0, none⟩) 6 6) (W.alloc (.cells (strL [a, b, c, d, e, f]).toArray 9)) := by kernel_rfl
section
variable {ops : Array Oper} {rest : List Oper} {o : Oper} {a : Act} {w : World} {Q : Exit → Act → World → Prop} {x0 x1 x2 x3 x4 x5 : Operand}
theorem wp_buildS6W (s0 s1 s2 s3 s4 s5 : ByteArray) (ho : o.op = .buildSlice 42 6 #[(0, x0), (1, x1), (2, x2), (3, x3), (4, x4), (5, x5)]) (h0 : a.eval x0 = .string s0) (h1 : a.eval x1 = .string s1) (h2 : a.eval x2 = .string s2) (h3 : a.eval x3 = .string s3) (h4 : a.eval x4 = .string s4) (h5 : a.eval x5 = .string s5)
    (hgd : Region.wanted o (yielded ops a.tmps) = true) (h : ∀ W, RowAt w.heap.size (strL [s0, s1, s2, s3, s4, s5]) W → Below w.heap.size w W → w.heap.size < W.heap.size → wpList Try.prog ops Q rest (a.put o.dst (.slice (some ⟨w.heap.size, 0, none⟩) 6 6)) W) : wpList Try.prog ops Q (o :: rest) a w :=
  wpList_step fun _ hK => by
    rw [if_pos hgd]
    have hn := h _ (RowAt.new (strL [s0, s1, s2, s3, s4, s5]) w 9) ((Below.refl _ _).alloc (Nat.le_refl _) _) (by simp)
    have hb := build_s6 s0 s1 s2 s3 s4 s5 w
    unfold Oper.wp execOp
    simp only [ho]
    simp only [List.map_toArray, List.map_cons, List.map_nil, h0, h1, h2, h3, h4, h5, hb, Sem.run_bind, Result.andThen_ok, Sem.run_pure]
    exact hK _ _ hn
end
theorem str_at {b : Nat} {l : List ByteArray} {w : World} (h : RowAt b (strL l) w) {i : Nat} (hi : i < l.length) (hl : ∀ s ∈ l, s.size ≤ 900000) : ∃ s : ByteArray, s.size ≤ 900000 ∧ w.cell? ⟨b, i, none⟩ = some (.string s) := by
  refine ⟨l[i], hl _ (List.getElem_mem hi), h.cells i _ ?_⟩
  unfold strL
  rw [List.getElem?_map, List.getElem?_eq_getElem hi]
  rfl
set_option maxRecDepth 4000 in
set_option maxHeartbeats 8000000 in
theorem decodes_walk (so : Option Addr) (len cap : Nat) (s : ByteArray) (w : World) (hin : BytesIn so len w) (hl : len ≤ 9223372036854775807) (hc : len ≤ cap) :
    Calls Try.prog 4 #[.slice so len cap, .string s] w fun e w' => e = .returned (.bool true) ∧ Below w.heap.size w w' := by
  by_cases h6 : 600 < s.size
  · have d6 : decide (600 < s.size) = true := by simpa using h6
    go_enter Try.func4, Try.ntmps4
    go_wp2_with (first
      | (go_at_call 8; refine (awake_any _).mono ?_; rintro e1 w1 ⟨rfl, hb⟩; have le1 := hb.size; have HI := Lib.hid (bytesIn_below hin hb); have HB1 := Lib.hid hb; clear hb))
    go_ret
    exact ⟨rfl, HB1.out⟩
  have d6 : decide (600 < s.size) = false := by simpa using h6
  have hs6 : s.size ≤ 600 := by omega
  have HU : Hid True := Lib.hid trivial
  clear h6
  go_enter Try.func4, Try.ntmps4
  go_upto_region 6 with (first
    | (go_at_call 8; refine (awake_any _).mono ?_; rintro e1 w1 ⟨rfl, hb⟩; have le1 := hb.size; have HI := Lib.hid (bytesIn_below hin hb); have HB1 := Lib.hid hb; clear hb)
    | (go_at_call 9; refine (new_is so len cap 120 120 rfl _ HI.out hl hc (by decide)).mono ?_; rintro e2 w2 ⟨rfl, hC, hb, hz⟩; have C2 := Lib.hid hC; have HB2 := Lib.hid (HB1.out.trans (hb.mono HB1.out.size)); clear hC hb hz HB1 HI)
    | (go_at_call 10; refine (entry_any _ _ C2.out).mono ?_; rintro e3 w3 ⟨x, rfl, hd, hC, hg⟩; obtain ⟨g, hg1, HRE⟩ := good_facts hd; clear hd; have C3 := Lib.hid hC; have HB3 := Lib.hid (below_row HB2.out hg le1); clear hC hg C2 HB2)
    | (go_at_call 13; have hq := C3.out; clear hq; (with_reducible refine (HRE.out _).mono ?_); rintro e4 w4 ⟨rfl, hb⟩; have C4 := Lib.hid (cod_keep C3.out hb); have HB4 := Lib.hid (HB3.out.trans (hb.mono HB3.out.size)); clear hb C3 HB3 HRE)
    | (go_at_call 18; have hq := C4.out; clear hq; (with_reducible refine (spoilt_sz _ g _ C4.out (by omega)).mono ?_); rintro e5 w5 ⟨t1, rfl, ht1, hC, hg⟩; have C5 := Lib.hid hC; have HB5 := Lib.hid (below_row HB4.out hg le1); clear hC hg C4 HB4)
    | (go_at_call 18; have hq := C5.out; clear hq; (with_reducible refine (spoilt_sz _ g _ C5.out (by omega)).mono ?_); rintro e6 w6 ⟨t2, rfl, ht2, hC, hg⟩; have C6 := Lib.hid hC; have HB6 := Lib.hid (below_row HB5.out hg le1); clear hC hg C5 HB5)
    | (go_at_call 18; have hq := C6.out; clear hq; (with_reducible refine (spoilt_sz _ t2 _ C6.out (by omega)).mono ?_); rintro e7 w7 ⟨t3, rfl, ht3, hC, hg⟩; have hcat := cat_run g s (by omega); have hcs : (g ++ s).size ≤ 900000 := (by rw [ByteArray.size_append]; omega); have C7 := Lib.hid hC; have HB7 := Lib.hid (below_row HB6.out hg le1); clear hC hg C6 HB6)
    | (go_at_call 19; have hq := C7.out; clear hq; (with_reducible refine (next_any _ ((g.size : Int) + 1) _ C7.out (by omega)).mono ?_); rintro e8 w8 ⟨k0, rfl, ka, kb, _, hC, hg⟩; have kc := kb (by omega); clear kb; obtain ⟨k, rfl⟩ := Int.eq_ofNat_of_zero_le ka; have hsl := fun W => slice_to g (k : Int) k rfl (by omega) W; have hes : (g.extract 0 k).size ≤ 900000 := (by rw [ByteArray.size_extract]; omega); have C8 := Lib.hid hC; have HB8 := Lib.hid (below_row HB7.out hg le1); clear hC hg C7 HB7; have le8 := HB8.out.size)
    | (refine wp_buildS6W s g t1 t3 (g ++ s) (g.extract 0 k) rfl rfl rfl rfl rfl rfl rfl rfl ?_; intro w9 hR hb z9; have R9 := Lib.hid hR; have HB9 := Lib.hid (HB8.out.trans (hb.mono HB8.out.size)); clear hR hb HB8 C8))
  have hL : ∀ x ∈ [s, g, t1, t3, g ++ s, g.extract 0 k], x.size ≤ 900000 := by
    intro x hx
    simp only [List.mem_cons, List.not_mem_nil, or_false] at hx
    rcases hx with rfl | rfl | rfl | rfl | rfl | rfl
    · omega
    · omega
    · omega
    · omega
    · exact hcs
    · exact hes
  generalize hLL : [s, g, t1, t3, g ++ s, g.extract 0 k] = L at hL R9
  have hLn : L.length = 6 := by rw [← hLL]; rfl
  have HL := Lib.hid hL
  have HLN := Lib.hid hLn
  clear hL hLL hLn hcs hes hcat hsl ht1 ht2 ht3 d6
  go_loopw [54] (fun s54 wr => ∃ j : Nat, j ≤ 6 ∧ s54 = .int .i64 (j : Int) ∧ Hid (RowAt w8.heap.size (strL L) wr) ∧ Hid (Below w.heap.size w wr)) (fun s54 _ => 6 - (intOf s54).toNat)
  case atStart => exact ⟨0, by omega, rfl, R9, HB9⟩
  case round =>
    clear R9 HB9
    obtain ⟨j, hj, rfl, R, B⟩ := hrel
    by_cases hj6 : j < 6
    rotate_left
    · have q2 : ¬ (j : Int) < 6 := by omega
      go_wp2_with fail
      go_ret
      exact ⟨rfl, B.out⟩
    have q2 : (0 : Int) ≤ (j : Int) := by omega
    have q3 : (j : Int) < 6 := by omega
    obtain ⟨x, hx1, c0⟩ := str_at R.out (i := j) (by have := HLN.out; omega) HL.out
    obtain ⟨z, n, HD, HRD⟩ := dec_facts x hx1
    have qn : (n != n) = false := by simp
    have qz : ∀ W : World, (binOp .neq 28 (.agg z.arr) (.agg z.arr)).run Try.prog W = .ok (.bool false) W := fun W => by rw [ent_neq, sameE_self]; rfl
    have RL := Lib.hid R.out.lt
    have BS := Lib.hid B.out.size
    go_wp2_with (first
      | (go_at_call 20; (with_reducible refine (HD.out _).mono ?_); rintro e10 w10 ⟨rfl, hb⟩; have R10 := Lib.hid (RowAt.keep R.out hb); have B10 := Lib.hid (B.out.trans (hb.mono B.out.size)); have b10 := B10.out.size; clear hb c0)
      | (have hq := R10.out; clear hq; refine wp_newEntW rfl rfl ?_; intro w11 hE hb z11; have E11 := Lib.hid hE; have R11 := Lib.hid (RowAt.keep R10.out hb); have B11 := Lib.hid (B10.out.trans (hb.mono B10.out.size)); have r11 := R10.out.lt; clear hE hb R10 B10)
      | (refine wp_storeEntW z E11.out (evals_length _) rfl rfl rfl rfl ?_; intro w12 hE hS; have E12 := Lib.hid hE; have R12 := Lib.hid (StoredAt.row hS R11.out (by omega)); have B12 := Lib.hid (StoredAt.below hS B11.out (by omega)); clear hE hS E11 R11 B11)
      | (go_at_call 21; (with_reducible refine (HRD.out _).mono ?_); rintro e13 w13 ⟨rfl, hb⟩; have E13 := Lib.hid (RowAt.keep E12.out hb); have R13 := Lib.hid (RowAt.keep R12.out hb); have B13 := Lib.hid (B12.out.trans (hb.mono B12.out.size)); have b13 := B13.out.size; have r13 := R13.out.lt; have e13 := E13.out.lt; clear hb E12 R12 B12)
      | (have hq := R13.out; clear hq; refine wp_newEntW rfl rfl ?_; intro w14 hE hb z14; have F14 := Lib.hid hE; have E14 := Lib.hid (RowAt.keep E13.out hb); have R14 := Lib.hid (RowAt.keep R13.out hb); have B14 := Lib.hid (B13.out.trans (hb.mono B13.out.size)); clear hE hb R13 B13 E13)
      | (refine wp_storeEntW z F14.out (evals_length _) rfl rfl rfl rfl ?_; intro w15 hE hS; have F15 := Lib.hid hE; have E15 := Lib.hid (StoredAt.row hS E14.out (by omega)); have R15 := Lib.hid (StoredAt.row hS R14.out (by omega)); have B15 := Lib.hid (StoredAt.below hS B14.out (by omega)); clear hE hS F14 E14 R14 B14)
      | (refine wp_loadEnt z E15.out rfl rfl rfl ?_)
      | (refine wp_loadEnt z F15.out rfl rfl rfl ?_))
    go_roundw
    case measure => simp [intOf]; omega
    case rel => exact ⟨j + 1, by omega, by go_num, R15, B15⟩
end Go.Proofs.Ytiojpfljnbdonaa.ow
