/- DeviceTears. -/
import Derived.Test.YtikpchhhenonaaaLy
import Derived.Lib.MinMax
import Derived.BigQuiet
namespace Go.Proofs.Ytikpchhhenonaaa.lz
open Go.ChangeShapes Go.WideShapes Go.ChangeAt Go.RowKit Go.Proofs.Ytikpchhhenonaaa.cx Go.Proofs.Ytikpchhhenonaaa.ra Go.Proofs.Ytikpchhhenonaaa.la Go.Proofs.Ytikpchhhenonaaa.lb Go.Proofs.Ytikpchhhenonaaa.lc Go.Proofs.Ytikpchhhenonaaa.ld Go.Proofs.Ytikpchhhenonaaa.le Go.Proofs.Ytikpchhhenonaaa.lf Go.Proofs.Ytikpchhhenonaaa.lg Go.Proofs.Ytikpchhhenonaaa.lh Go.Proofs.Ytikpchhhenonaaa.li Go.Proofs.Ytikpchhhenonaaa.lj Go.Proofs.Ytikpchhhenonaaa.lk Go.Proofs.Ytikpchhhenonaaa.ll Go.Proofs.Ytikpchhhenonaaa.lm Go.Proofs.Ytikpchhhenonaaa.ln Go.Proofs.Ytikpchhhenonaaa.lo Go.Proofs.Ytikpchhhenonaaa.lp Go.Proofs.Ytikpchhhenonaaa.lq Go.Proofs.Ytikpchhhenonaaa.lr Go.Proofs.Ytikpchhhenonaaa.ls Go.Proofs.Ytikpchhhenonaaa.lt Go.Proofs.Ytikpchhhenonaaa.lu Go.Proofs.Ytikpchhhenonaaa.lv Go.Proofs.Ytikpchhhenonaaa.lw Go.Proofs.Ytikpchhhenonaaa.lx Go.Proofs.Ytikpchhhenonaaa.ly
set_option linter.unusedSimpArgs false
section
variable {o : Oper} {a : Act} {w : World} {Q : Exit → Act → World → Prop} {x : Operand} {b : Nat}
theorem op_loadV {K : Act → World → Prop} (vs : List Value) (hr : RowAt b vs w) (hl : vs.length = 5) (ho : o.op = .load 27 x)
    (hx : a.eval x = .pointer (some ⟨b, 0, none⟩)) (hn : K (a.put o.dst (.agg vs.toArray)) w) : o.wp Try.prog a w K Q :=
  wp_load_mid _ x ho b 0 hx vs _ (hr.range 0 (fun j v hv => by rw [Nat.zero_add]; exact hv)) Try.underlying27 rfl (by rw [hl]; exact info_dev) hn
end
theorem w1_ok {x : ByteArray} (hx : x.size = 256) : writeE (qDev (blanks 2) 0) 1 x = 0 ∧ writeD (qDev (blanks 2) 0) 1 x = qDev [lg.blank, x] 1 :=
  ⟨writeE_of (q_valid (pages_blanks 2) (by decide) (by decide)) rfl ⟨by decide, by show (1 : Int) < ((blanks 2).length : Int); decide⟩ hx (by show (0 : Int) < 1099511627776; decide), q_write (k := 1) (n := 0) (ps := blanks 2) hx⟩
theorem two_pages {x : ByteArray} (hx : x.size = 256) : Pages 2 [lg.blank, x] := ⟨rfl, fun s hs => by
  have hs : s = lg.blank ∨ s = x := by simpa using hs
  rcases hs with rfl | rfl
  · exact blank_size
  · exact hx⟩
theorem ba_ext {a b : ByteArray} (h : a.data.toList = b.data.toList) : a = b := by
  cases a; cases b
  simp only [ByteArray.mk.injEq]
  exact Array.toList_inj.1 h
theorem ba_len (a : ByteArray) : a.data.toList.length = a.size := rfl
theorem mix_list {s old : ByteArray} (ho : old.size = 256) (n : Nat) : (mixS s old n).data.toList = s.data.toList.take n ++ old.data.toList.drop n := by
  unfold mixS
  rw [ByteArray.data_append, Array.toList_append, ByteArray.data_extract, ByteArray.data_extract, Array.toList_extract, Array.toList_extract]
  simp only [List.extract_eq_take_drop, Nat.sub_zero, List.drop_zero]
  rw [List.take_of_length_le (l := List.drop n _) (by rw [List.length_drop, ba_len, ho]; exact Nat.le_refl _)]
theorem mix_size {s old : ByteArray} (ho : old.size = 256) (hs : s.size = 256) {n : Nat} (hn : n ≤ 256) : (mixS s old n).size = 256 := by
  rw [← ba_len, mix_list ho, List.length_append, List.length_take, List.length_drop, ba_len, ba_len, ho, hs]
  omega
theorem mix_mix {s old : ByteArray} (ho : old.size = 256) (hs : s.size = 256) {m n : Nat} (hm : m ≤ 256) (hn : n ≤ 256) : mixS s (mixS s old m) n = mixS s old (max m n) := by
  apply ba_ext
  rw [mix_list (mix_size ho hs hm), mix_list ho, mix_list ho]
  have hl : s.data.toList.length = 256 := by rw [ba_len, hs]
  apply List.ext_getElem?
  intro i
  simp only [List.getElem?_append, List.length_take, hl, List.getElem?_take, List.getElem?_drop]
  by_cases h1 : i < n
  · have h2 : i < max m n := by omega
    simp [show min n 256 = n by omega, show min (max m n) 256 = max m n by omega, h1, h2]
  · by_cases h3 : i < m
    · have h2 : i < max m n := by omega
      simp [show min n 256 = n by omega, show min (max m n) 256 = max m n by omega, show min m 256 = m by omega, h1, h2, show n + (i - n) = i by omega, h3]
    · have h2 : ¬ i < max m n := by omega
      simp [show min n 256 = n by omega, show min (max m n) 256 = max m n by omega, show min m 256 = m by omega, h1, h2, show n + (i - n) = i by omega, h3, show m + (i - m) = i by omega, show max m n + (i - max m n) = i by omega]
theorem t_ok {old s : ByteArray} {m : Nat} (ho : old.size = 256) (hs : s.size = 256) (hm : m ≤ 256) : tearE (qDev [lg.blank, old] 1) 1 s (m : Int) = 0 ∧ tearD (qDev [lg.blank, old] 1) 1 s (m : Int) = qDev [lg.blank, mixS s old m] 1 := by
  have h : tearE (qDev [lg.blank, old] 1) 1 s (m : Int) = 0 := by
    unfold tearE
    rw [if_pos (access_of (q_valid (two_pages ho) (by decide) (by decide)) rfl ⟨by decide, by show (1 : Int) < 2; decide⟩), if_pos (by omega), if_pos hs]
  refine ⟨h, ?_⟩
  unfold tearD
  rw [if_pos h]
  rfl
theorem tear_b (vs : List Value) (d d' : Dev) (page : Int) (s : ByteArray) (cut : Int) (hn : tearE d page s cut = 0) (hd : tearD d page s cut = d') (w : World) (h : DevV vs d w) (hf : FitsD d) :
    Calls Try.prog 27 #[.agg vs.toArray, .int .i64 page, .string s, .int .i64 cut] w fun e w' => ∃ vs', e = .returned (.tuple #[.agg vs'.toArray, .int .i64 0]) ∧ DevV vs' d' w' ∧ (∀ b, b ≤ w.heap.size → Lo b vs') ∧ Below w.heap.size w w' := by
  have := tear_any vs d page s cut w h hf
  rwa [hn, hd] at this
/-- A fault that tears the second write at k. -/
def fTear (k : Nat) : Flt := ⟨3, 2, 0, 0, (k : Int), 0⟩
theorem build_tear (k : Nat) (W : World) : (Instr.build 29 #[(0, .int .i64 3), (1, .int .i64 2), (4, .int .i64 (k : Int))]).run Try.prog W = .ok (.agg (fTear k).arr) W := by kernel_rfl
theorem okTear {d : Dev} {k : Nat} (h1 : d.writes < 2) (h2 : 1 ≤ d.pages.length) (hk : k ≤ 255) : okFault d (fTear k) = true := by
  unfold okFault inR
  have e1 : decide (d.writes < (fTear k).at') = true := decide_eq_true h1
  have e2 : decide (0 ≤ (fTear k).page ∧ (fTear k).page < (d.pages.length : Int)) = true := decide_eq_true ⟨Int.le_refl 0, by show (0 : Int) < _; omega⟩
  have e3 : decide (0 ≤ (fTear k).target ∧ (fTear k).target < (d.pages.length : Int)) = true := decide_eq_true ⟨Int.le_refl 0, by show (0 : Int) < _; omega⟩
  have e4 : decide (0 ≤ (fTear k).byte) = true := decide_eq_true (by show (0 : Int) ≤ (k : Int); omega)
  have e5 : decide ((fTear k).byte < 256) = true := decide_eq_true (by show (k : Int) < 256; omega)
  have e6 : okKind (fTear k) = true := by
    unfold okKind
    rw [show usedF (fTear k) = fTear k from rfl, sameF_iff.2 rfl]
    rfl
  rw [e1, e2, e3, e4, e5, e6]
  rfl
theorem tf_inject {old : ByteArray} {k : Nat} (ho : old.size = 256) (hk : k ≤ 255) : injectE (qDev [lg.blank, old] 1) (fTear k) = 0 ∧ injectD (qDev [lg.blank, old] 1) (fTear k) = ⟨[lg.blank, old], 1, [], false, [fTear k]⟩ := by
  have h : injectE (qDev [lg.blank, old] 1) (fTear k) = 0 := by
    unfold injectE
    rw [if_pos (q_valid (two_pages ho) (by decide) (by decide)), if_pos (okTear (by show (1 : Int) < 2; decide) (by show 1 ≤ 2; decide) hk)]
    rfl
  refine ⟨h, ?_⟩
  unfold injectD
  rw [if_pos h]
  rfl
theorem tf_write {old s : ByteArray} {k : Nat} (ho : old.size = 256) (hs : s.size = 256) (hk : k ≤ 255) : writeE ⟨[lg.blank, old], 1, [], false, [fTear k]⟩ 1 s = 0 ∧ writeD ⟨[lg.blank, old], 1, [], false, [fTear k]⟩ 1 s = qDev [lg.blank, mixS s old k] 2 :=
  ⟨writeE_of (is_valid ⟨by show 1 ≤ 2 ∧ 2 ≤ 64; decide, (two_pages ho).2⟩ ⟨by show (0 : Int) ≤ 1; decide, by show (1 : Int) ≤ _; decide⟩ ⟨asc_nil, fun _ hx => by cases hx⟩ ⟨by show 1 ≤ 64; decide, fun f hf => by
      obtain rfl : f = fTear k := by simpa using hf
      exact okTear (by show (1 : Int) < 2; decide) (by show 1 ≤ 2; decide) hk⟩) rfl ⟨by decide, by show (1 : Int) < 2; decide⟩ hs (by show (1 : Int) < 1099511627776; decide), rfl⟩
set_option maxHeartbeats 4000000 in
set_option maxRecDepth 4000 in
theorem refValid_q (ps : List ByteArray) (n : Int) (m : Nat) (vs : List Value) (w : World) (h : DevV vs (qDev ps n) w) (hp : Pages m ps) (hm : 1 ≤ m ∧ m ≤ 64) (hn : 0 ≤ n ∧ n ≤ 1099511627776) :
    Calls Try.prog 23 #[.agg vs.toArray] w fun e w' => e = .returned (.bool true) ∧ Below w.heap.size w w' := by
  obtain ⟨sp, cp, su, cu, sf, cf, rfl, P, U, F⟩ := h.form
  have DV := Lib.hid h
  have HP := Lib.hid hp
  obtain ⟨so, off, cap, hso, hg, hcc⟩ : ∃ g off cap, sp = some ⟨g, off, none⟩ ∧ g < w.heap.size ∧ ∀ i x, ps[i]? = some x → w.cell? ⟨g, off + i, none⟩ = some (.string x) := by
    obtain ⟨vp, vu, vf, e, h1, _⟩ := h
    have e0 : (.slice sp ps.length cp : Value) = vp := by
      have := congrArg (fun l : List Value => l[0]?) e
      exact Option.some.inj this
    subst e0
    rcases h1.2.2 with ⟨_, h0⟩ | ⟨g, off, cap, e1, _, hg, hc⟩
    · have := hp.1
      have h0 : ps.length = 0 := h0
      omega
    · injection e1 with e1 _ _
      exact ⟨g, off, cap, e1, hg, fun i x hi => hc i _ (strL_at hi)⟩
  subst hso
  have HCC := Lib.hid hcc
  have hml := hp.1
  have e1 : decide ((ps.length : Int) < 1) = false := decide_eq_false (by omega)
  have e2 : decide ((64 : Int) < (ps.length : Int)) = false := decide_eq_false (by omega)
  have e3 : decide (n < 0) = false := decide_eq_false (by omega)
  have e4 : decide ((1099511627776 : Int) < n) = false := decide_eq_false (by omega)
  clear h P U F hcc hp
  show Calls Try.prog 23 #[.agg (dvals (.slice (some ⟨so, off, none⟩) ps.length cp) n (.slice su 0 cu) false (.slice sf 0 cf)).toArray] w _
  go_enter Try.func23, Try.ntmps23
  go_wp2_with (refine wp_boxW (dvals (.slice (some ⟨so, off, none⟩) ps.length cp) n (.slice su 0 cu) false (.slice sf 0 cf)) _ rfl rfl rfl ?_; intro w0 hP hb0 _; have HB0 := Lib.hid hb0; have HC0 : Hid (∀ i x, ps[i]? = some x → w0.cell? ⟨so, off + i, none⟩ = some (.string x)) := Lib.hid (fun i x hi => (hb0.cell (p := ⟨so, off + i, none⟩) hg).trans (HCC.out i x hi)); have a0 := hP.cells 0 _ rfl; have a1 := hP.cells 1 _ rfl; have a2 := hP.cells 2 _ rfl; have a4 := hP.cells 4 _ rfl; clear hP hb0)
  go_loopw [4] (fun s4 wr => ∃ j : Nat, j ≤ ps.length ∧ s4 = .int .i64 j ∧ w0 = wr) (fun s4 _ => ps.length - (intOf s4).toNat)
  case atStart => exact ⟨0, by omega, rfl, rfl⟩
  case round =>
    obtain ⟨j, hj, rfl, rfl⟩ := hrel
    by_cases hj2 : j < ps.length
    · obtain ⟨x, hx⟩ : ∃ x, ps[j]? = some x := ⟨_, List.getElem?_eq_getElem hj2⟩
      have hxs : x.size = 256 := HP.out.2 x (List.mem_of_getElem? hx)
      have hc := HC0.out j x hx
      have q0 : (0 : Int) ≤ (j : Int) := by omega
      have q1 : (j : Int) < (ps.length : Int) := by omega
      go_wp2_with fail
      go_roundw
      case measure => simp [intOf]; omega
      case rel => exact ⟨j + 1, by omega, by go_num, by first | rfl | trivial⟩
    · obtain rfl : j = ps.length := by omega
      go_wp2_with fail
      go_loopw [5] (fun s5 wr => s5 = .int .i64 0 ∧ w0 = wr) (fun _ _ => 0)
      case atStart => exact ⟨rfl, rfl⟩
      case round =>
        obtain ⟨rfl, rfl⟩ := hrel
        go_wp2_with fail
        go_loopw [6] (fun s6 wr => s6 = .int .i64 0 ∧ w0 = wr) (fun _ _ => 0)
        case atStart => exact ⟨rfl, rfl⟩
        case round =>
          obtain ⟨rfl, rfl⟩ := hrel
          go_wp2_with fail
          go_ret
          exact ⟨rfl, HB0.out⟩
theorem page_at {xd : Nat} {Y : List Nat} {vs : List Value} {d : Dev} {w : World} {k : Nat} {x : ByteArray} (h : VarAt xd Y vs d w) (hk : d.pages[k]? = some x) :
    ∃ g off cap, w.cell? ⟨xd, 0, none⟩ = some (.slice (some ⟨g, off, none⟩) d.pages.length cap) ∧ w.cell? ⟨g, off + k, none⟩ = some (.string x) ∧ g < w.heap.size ∧ g ≠ xd ∧ ∀ y ∈ Y, g ≠ y := by
  have hkl : k < d.pages.length := (List.getElem?_eq_some_iff.1 hk).1
  obtain ⟨vp, vu, vf, rfl, h1, _⟩ := h.dev
  rcases h1.2.2 with ⟨_, h0⟩ | ⟨g, off, cap, rfl, _, hg, hc⟩
  · omega
  · exact ⟨g, off, cap, h.row.cells 0 _ rfl, hc k _ (strL_at hk), hg, fun e => h.off _ (List.mem_cons_self ..) (by rw [e]; rfl), fun y hy e => (h.offs y hy).2 _ (List.mem_cons_self ..) (by rw [e]; rfl)⟩
theorem cell_grown {w w' : World} {k b i : Nat} {v : Value} (h : w.cell? ⟨b, i, none⟩ = some v) (hg : w.grownBy w' (some k)) (hb : b < w.heap.size) (hk : b ≠ k) : w'.cell? ⟨b, i, none⟩ = some v :=
  (World.cell?_of_block (w := w) (a := ⟨b, i, none⟩) (hg.block b hb (fun e => hk (by injection e)))).trans h
set_option maxHeartbeats 8000000 in
set_option maxRecDepth 4000 in
theorem tears_walk (so : Option Addr) (len cap : Nat) (a b : Int) (w : World) (ha0 : 0 ≤ a) (ha1 : a ≤ 65535) (hb0 : 0 ≤ b) (hb1 : b ≤ 65535) (hin : BytesIn so len w) (hl : len ≤ 9223372036854775807) (hc : len ≤ cap) :
    Calls Try.prog 8 #[.slice so len cap, .int .u16 a, .int .u16 b] w fun e w' => e = .returned (.bool true) ∧ Below w.heap.size w w' := by
  have HIN := Lib.hid hin
  have F1 : Hid (FitsD (qDev (blanks 2) 0)) := Lib.hid (fits_pages (pages_blanks 2))
  clear hin
  go_enter Try.func8, Try.ntmps8
  go_wp2_with (first
    | (go_at_call 9; refine (awake_any _).mono ?_; rintro e w1 ⟨rfl, hb⟩; have B1 := Lib.hid hb; clear hb)
    | (go_at_call 11; refine (new_most 100 100 rfl so len cap _ (bytesIn_below HIN.out B1.out) hl hc (by decide)).mono ?_; rintro e w2 ⟨rfl, hC, hb, hz⟩; obtain ⟨m0, hC2⟩ := codL_new hC; have C2 := Lib.hid hC2; have B2 := Lib.hid (B1.out.trans (hb.mono B1.out.size)); have K2 : Hid (w.heap.size ≤ w1.heap.size ∧ w1.heap.size < w2.heap.size) := Lib.hid ⟨B1.out.size, codL_lt hC2⟩; clear hC hC2 hb hz)
    | (go_at_call 13; refine (new_b 2 0 (qDev (blanks 2) 0) (newD_of 2 (by decide)).1 (newD_of 2 (by decide)).2 _).mono ?_; rintro e w3 ⟨v1, rfl, hV, hl2, hb⟩; have V3 := Lib.hid hV; have L3 := Lib.hid (hl2 _ (Nat.le_refl _)); have C3 := Lib.hid (codL_keep C2.out hb); have B3 := Lib.hid (B2.out.trans (hb.mono B2.out.size)); have K3 := Lib.hid (Nat.lt_of_lt_of_le K2.out.2 hb.size); clear hV hl2 hb C2)
    | (refine wp_newW dev0 _ zero_dev rfl rfl ?_; intro w4 hP hb _; have N4 := Lib.hid hP; have M4 := Lib.hid hb; have C4 := Lib.hid (codL_keep C3.out hb); have B4 := Lib.hid (B3.out.trans (hb.mono B3.out.size)); clear hP hb C3)
    | (refine wp_storeV V3.out N4.out rfl rfl rfl rfl rfl ?_; intro w5 hP hS; have X5 : Hid (VarAt w3.heap.size [w1.heap.size] v1 (qDev (blanks 2) 0) w5) := Lib.hid (var_new V3.out M4.out hP hS (fun y h => by (obtain rfl : y = w1.heap.size := by simpa using h); exact ⟨K3.out, off_lo L3.out K2.out.2⟩)); have C5 := Lib.hid (codL_stored C4.out hS K3.out); have B5 := Lib.hid (hS.below B4.out B3.out.size); have KD : Hid (w1.heap.size < w3.heap.size ∧ w.heap.size ≤ w3.heap.size) := Lib.hid ⟨K3.out, B3.out.size⟩; clear hP hS N4 M4 V3 C4 L3))
  generalize w3.heap.size = xd at *
  have hwc := Lib.hid K2.out.1
  generalize w1.heap.size = xc at *
  clear B1 B2 B3 B4 K2 K3
  go_cut [10] from 31 to 36 (fun s10 wx => s10 = .int .i64 0 ∧ ∃ (x : ByteArray) (vs : List Value) (m : Nat), x.size = 256 ∧ VarAt xd [xc] vs (qDev [lg.blank, x] 1) wx ∧ CodL xc m wx ∧ Below w.heap.size w wx)
  case first =>
    refine wp_region_held_drew (S := St [] w) (by kernel_rfl) (st_nil B5.out).drew (fun hHeld => ?_)
    have f5_1 := Lib.hid (X5.out.keep (Below.refl _ _).drew)
    have f5_2 := Lib.hid (codL_keep C5.out (Below.refl _ _).drew)
    refine wpAnyH_take (i := 1) (v := ?_) rfl (by kernel_rfl) (by kernel_rfl) (by kernel_rfl) (fun _ _ _ h => h) (Or.inl ⟨by rfl, ?_⟩) (by assumption) ?_
    rotate_left
    · (intro W _; go_simp; try with_reducible rfl)
    try simp only [Act.put, List.getElem_toArray, List.getElem_cons_zero, List.getElem_cons_succ, List.setIfInBounds_toArray, List.set_cons_zero, List.set_cons_succ]
    refine wpAnyH_ready (rs := [0, 2]) (by kernel_rfl) (by simp) (AllReadyH.cons rfl (fun K hK => ?_) (AllReadyH.cons rfl (fun K hK => ?_) AllReadyH.nil))
    · simp only [List.getElem_toArray, List.getElem_cons_zero, List.getElem_cons_succ]
      rw [if_pos (by rfl)]
      with_reducible refine op_loadV _ f5_1.out.row f5_1.out.len (by rfl) ?_ ?_
      · rfl
      refine hK.out _ _ (hHeld) (fun hH5_4 => ?_)
      clear hK K
      try simp only [Act.put, List.getElem_toArray, List.getElem_cons_zero, List.getElem_cons_succ, List.setIfInBounds_toArray, List.set_cons_zero, List.set_cons_succ]
      refine wpAnyH_ready (rs := [2]) (by kernel_rfl) (by simp) (AllReadyH.cons rfl (fun K hK => ?_) AllReadyH.nil)
      · go_simp
        go_wp2_with (go_at_call 18; (with_reducible refine (bytes_any xc _ _ f5_2.out).mono ?_); rintro e W5_5 ⟨x5_8, rfl, hx5_9, ⟨_, _, hC5_10⟩, hg5_7⟩)
        have f5_11 := Lib.hid (f5_1.out.grown hg5_7 (fun k e => by injection e with e; subst e; simp))
        have f5_12 := Lib.hid hC5_10
        have f5_13 := Lib.hid hx5_9
        refine hK.out _ _ (hH5_4.grown hg5_7 (fun _ hx => by cases hx) (fun k e => by injection e with e; subst e; exact hwc.out)) (fun hH5_6 => ?_)
        clear hK K
        try simp only [Act.put, List.getElem_toArray, List.getElem_cons_zero, List.getElem_cons_succ, List.setIfInBounds_toArray, List.set_cons_zero, List.set_cons_succ]
        refine wpAnyH_ready (rs := [3]) (by kernel_rfl) (by simp) (AllReadyH.cons rfl (fun K hK => ?_) AllReadyH.nil)
        · go_simp
          go_wp2_with (go_at_call 20; (with_reducible refine (write_b _ _ (qDev [lg.blank, x5_8] 1) 1 x5_8 (w1_ok f5_13.out).1 (w1_ok f5_13.out).2 _ f5_11.out.dev F1.out).mono ?_); rintro e W5_14 ⟨v5_19, rfl, hV5_17, hL5_18, hb5_16⟩)
          have f5_20 := Lib.hid (And.intro f5_11.out.row.lt (codL_lt f5_12.out))
          have f5_21 := Lib.hid (hL5_18 _ (Nat.le_refl _))
          have f5_23 := Lib.hid (f5_11.out.keep hb5_16)
          have f5_24 := Lib.hid (codL_keep f5_12.out hb5_16)
          have f5_22 := Lib.hid hV5_17
          refine hK.out _ _ (hH5_6.keep hb5_16) (fun hH5_15 => ?_)
          clear hK K
          try simp only [Act.put, List.getElem_toArray, List.getElem_cons_zero, List.getElem_cons_succ, List.setIfInBounds_toArray, List.set_cons_zero, List.set_cons_succ]
          refine wpAnyH_take (i := 4) (v := ?_) rfl (by kernel_rfl) (by kernel_rfl) (by kernel_rfl) (fun _ _ _ h => h) (Or.inl ⟨by rfl, ?_⟩) (by assumption) ?_
          rotate_left
          · (intro W _; go_simp; try with_reducible rfl)
          try simp only [Act.put, List.getElem_toArray, List.getElem_cons_zero, List.getElem_cons_succ, List.setIfInBounds_toArray, List.set_cons_zero, List.set_cons_succ]
          refine wpAnyH_take (i := 5) (v := ?_) rfl (by kernel_rfl) (by kernel_rfl) (by kernel_rfl) (fun _ _ _ h => h) (Or.inl ⟨by rfl, ?_⟩) (by assumption) ?_
          rotate_left
          · (intro W _; go_simp; try with_reducible rfl)
          try simp only [Act.put, List.getElem_toArray, List.getElem_cons_zero, List.getElem_cons_succ, List.setIfInBounds_toArray, List.set_cons_zero, List.set_cons_succ]
          refine wpAnyH_take (i := 6) (v := ?_) rfl (by kernel_rfl) (by kernel_rfl) (by kernel_rfl) (fun _ _ _ h => h) (Or.inl ⟨by rfl, ?_⟩) (by assumption) ?_
          rotate_left
          · (intro W _; go_simp; try with_reducible rfl)
          try simp only [Act.put, List.getElem_toArray, List.getElem_cons_zero, List.getElem_cons_succ, List.setIfInBounds_toArray, List.set_cons_zero, List.set_cons_succ]
          refine wpAnyH_ready (rs := [7]) (by kernel_rfl) (by simp) (AllReadyH.cons rfl (fun K hK => ?_) AllReadyH.nil)
          · simp only [List.getElem_toArray, List.getElem_cons_zero, List.getElem_cons_succ]
            rw [if_pos (by rfl)]
            with_reducible refine op_storeV f5_22.out f5_23.out.row f5_23.out.len (by rfl) ?_ ?_ (fun W5_25 hP5_27 hS5_28 => ?_)
            · rfl
            · rfl
            have f5_29 := Lib.hid (var_set f5_23.out f5_22.out f5_21.out f5_20.out.1 (fun y hy => by (obtain rfl : y = xc := by simpa using hy); exact f5_20.out.2) hP5_27 hS5_28)
            have f5_30 := Lib.hid (codL_stored f5_24.out hS5_28 KD.out.1)
            refine hK.out _ _ (hH5_15.stored (fun _ hx => by cases hx) KD.out.2 hS5_28) (fun hH5_26 => ?_)
            clear hK K
            try simp only [Act.put, List.getElem_toArray, List.getElem_cons_zero, List.getElem_cons_succ, List.setIfInBounds_toArray, List.set_cons_zero, List.set_cons_succ]
            refine wpAnyH_take (i := 8) (v := ?_) rfl (by kernel_rfl) (by kernel_rfl) (by kernel_rfl) (fun _ _ _ h => h) (Or.inl ⟨by rfl, ?_⟩) (by assumption) ?_
            rotate_left
            · (intro W _; go_simp; try with_reducible rfl)
            try simp only [Act.put, List.getElem_toArray, List.getElem_cons_zero, List.getElem_cons_succ, List.setIfInBounds_toArray, List.set_cons_zero, List.set_cons_succ]
            refine wpAnyH_done (by kernel_rfl) ?_ _
            go_wp2_with fail
            go_meet
            exact ⟨rfl, _, _, _, f5_13.out, f5_29.out, f5_30.out, hH5_26.2⟩
    · go_simp
      go_wp2_with (go_at_call 18; (with_reducible refine (bytes_any xc _ _ f5_2.out).mono ?_); rintro e W5_31 ⟨x5_34, rfl, hx5_35, ⟨_, _, hC5_36⟩, hg5_33⟩)
      have f5_37 := Lib.hid (f5_1.out.grown hg5_33 (fun k e => by injection e with e; subst e; simp))
      have f5_38 := Lib.hid hC5_36
      have f5_39 := Lib.hid hx5_35
      refine hK.out _ _ (hHeld.grown hg5_33 (fun _ hx => by cases hx) (fun k e => by injection e with e; subst e; exact hwc.out)) (fun hH5_32 => ?_)
      clear hK K
      try simp only [Act.put, List.getElem_toArray, List.getElem_cons_zero, List.getElem_cons_succ, List.setIfInBounds_toArray, List.set_cons_zero, List.set_cons_succ]
      refine wpAnyH_ready (rs := [0]) (by kernel_rfl) (by simp) (AllReadyH.cons rfl (fun K hK => ?_) AllReadyH.nil)
      · simp only [List.getElem_toArray, List.getElem_cons_zero, List.getElem_cons_succ]
        rw [if_pos (by rfl)]
        with_reducible refine op_loadV _ f5_37.out.row f5_37.out.len (by rfl) ?_ ?_
        · rfl
        refine hK.out _ _ (hH5_32) (fun hH5_41 => ?_)
        clear hK K
        try simp only [Act.put, List.getElem_toArray, List.getElem_cons_zero, List.getElem_cons_succ, List.setIfInBounds_toArray, List.set_cons_zero, List.set_cons_succ]
        refine wpAnyH_ready (rs := [3]) (by kernel_rfl) (by simp) (AllReadyH.cons rfl (fun K hK => ?_) AllReadyH.nil)
        · go_simp
          go_wp2_with (go_at_call 20; (with_reducible refine (write_b _ _ (qDev [lg.blank, x5_34] 1) 1 x5_34 (w1_ok f5_39.out).1 (w1_ok f5_39.out).2 _ f5_37.out.dev F1.out).mono ?_); rintro e W5_42 ⟨v5_47, rfl, hV5_45, hL5_46, hb5_44⟩)
          have f5_48 := Lib.hid (And.intro f5_37.out.row.lt (codL_lt f5_38.out))
          have f5_49 := Lib.hid (hL5_46 _ (Nat.le_refl _))
          have f5_51 := Lib.hid (f5_37.out.keep hb5_44)
          have f5_52 := Lib.hid (codL_keep f5_38.out hb5_44)
          have f5_50 := Lib.hid hV5_45
          refine hK.out _ _ (hH5_41.keep hb5_44) (fun hH5_43 => ?_)
          clear hK K
          try simp only [Act.put, List.getElem_toArray, List.getElem_cons_zero, List.getElem_cons_succ, List.setIfInBounds_toArray, List.set_cons_zero, List.set_cons_succ]
          refine wpAnyH_take (i := 4) (v := ?_) rfl (by kernel_rfl) (by kernel_rfl) (by kernel_rfl) (fun _ _ _ h => h) (Or.inl ⟨by rfl, ?_⟩) (by assumption) ?_
          rotate_left
          · (intro W _; go_simp; try with_reducible rfl)
          try simp only [Act.put, List.getElem_toArray, List.getElem_cons_zero, List.getElem_cons_succ, List.setIfInBounds_toArray, List.set_cons_zero, List.set_cons_succ]
          refine wpAnyH_take (i := 5) (v := ?_) rfl (by kernel_rfl) (by kernel_rfl) (by kernel_rfl) (fun _ _ _ h => h) (Or.inl ⟨by rfl, ?_⟩) (by assumption) ?_
          rotate_left
          · (intro W _; go_simp; try with_reducible rfl)
          try simp only [Act.put, List.getElem_toArray, List.getElem_cons_zero, List.getElem_cons_succ, List.setIfInBounds_toArray, List.set_cons_zero, List.set_cons_succ]
          refine wpAnyH_take (i := 6) (v := ?_) rfl (by kernel_rfl) (by kernel_rfl) (by kernel_rfl) (fun _ _ _ h => h) (Or.inl ⟨by rfl, ?_⟩) (by assumption) ?_
          rotate_left
          · (intro W _; go_simp; try with_reducible rfl)
          try simp only [Act.put, List.getElem_toArray, List.getElem_cons_zero, List.getElem_cons_succ, List.setIfInBounds_toArray, List.set_cons_zero, List.set_cons_succ]
          refine wpAnyH_ready (rs := [7]) (by kernel_rfl) (by simp) (AllReadyH.cons rfl (fun K hK => ?_) AllReadyH.nil)
          · simp only [List.getElem_toArray, List.getElem_cons_zero, List.getElem_cons_succ]
            rw [if_pos (by rfl)]
            with_reducible refine op_storeV f5_50.out f5_51.out.row f5_51.out.len (by rfl) ?_ ?_ (fun W5_53 hP5_55 hS5_56 => ?_)
            · rfl
            · rfl
            have f5_57 := Lib.hid (var_set f5_51.out f5_50.out f5_49.out f5_48.out.1 (fun y hy => by (obtain rfl : y = xc := by simpa using hy); exact f5_48.out.2) hP5_55 hS5_56)
            have f5_58 := Lib.hid (codL_stored f5_52.out hS5_56 KD.out.1)
            refine hK.out _ _ (hH5_43.stored (fun _ hx => by cases hx) KD.out.2 hS5_56) (fun hH5_54 => ?_)
            clear hK K
            try simp only [Act.put, List.getElem_toArray, List.getElem_cons_zero, List.getElem_cons_succ, List.setIfInBounds_toArray, List.set_cons_zero, List.set_cons_succ]
            refine wpAnyH_take (i := 8) (v := ?_) rfl (by kernel_rfl) (by kernel_rfl) (by kernel_rfl) (fun _ _ _ h => h) (Or.inl ⟨by rfl, ?_⟩) (by assumption) ?_
            rotate_left
            · (intro W _; go_simp; try with_reducible rfl)
            try simp only [Act.put, List.getElem_toArray, List.getElem_cons_zero, List.getElem_cons_succ, List.setIfInBounds_toArray, List.set_cons_zero, List.set_cons_succ]
            refine wpAnyH_done (by kernel_rfl) ?_ _
            go_wp2_with fail
            go_meet
            exact ⟨rfl, _, _, _, f5_39.out, f5_57.out, f5_58.out, hH5_54.2⟩
  case rest =>
  obtain ⟨rfl, old, v6, m6, hold, hX, hC, hB⟩ := hcut
  have X6 := Lib.hid hX
  have C6 := Lib.hid hC
  have B6 := Lib.hid hB
  clear hX hC hB X5 C5 B5
  obtain ⟨g, off, cp, hc0, hc1, hg6, hgx, hgY⟩ := page_at X6.out (k := 1) (x := old) rfl
  have hc0 : wc.cell? ⟨xd, 0, none⟩ = some (.slice (some ⟨g, off, none⟩) 2 cp) := hc0
  have hgc : g ≠ xc := hgY xc (by simp)
  have hxl := X6.out.row.lt
  have hxd : xd ≠ xc := (fun e => by have := KD.out.1; omega)
  clear hgY
  go_wp2_with fail
  go_cut [11, 12] from 49 to 54 (fun s11 s12 wx => s11 = .string old ∧ ∃ (s : ByteArray) (m : Nat), s12 = .string s ∧ s.size = 256 ∧ VarAt xd [xc] v6 (qDev [lg.blank, old] 1) wx ∧ CodL xc m wx ∧ Below w.heap.size w wx)
  case first =>
    refine wp_region_held_drew (S := fun W => St [] w W ∧ W.cell? ⟨xd, 0, none⟩ = some (.slice (some ⟨g, off, none⟩) 2 cp) ∧ W.cell? ⟨g, off + 1, none⟩ = some (.string old)) (by kernel_rfl) ⟨(st_nil B6.out).drew, hc0, hc1⟩ (fun hHeld => ?_)
    have f8_1 := Lib.hid (X6.out.keep (Below.refl _ _).drew)
    have f8_2 := Lib.hid (codL_keep C6.out (Below.refl _ _).drew)
    refine wpAnyH_take (i := 0) (v := ?_) rfl (by kernel_rfl) (by kernel_rfl) (by kernel_rfl) (fun _ _ _ h => h) (Or.inl ⟨by rfl, ?_⟩) (by assumption) ?_
    rotate_left
    · (intro W hSW; obtain ⟨_, hsw0, hsw1⟩ := hSW; go_simp; try with_reducible rfl)
    try simp only [Act.put, List.getElem_toArray, List.getElem_cons_zero, List.getElem_cons_succ, List.setIfInBounds_toArray, List.set_cons_zero, List.set_cons_succ]
    refine wpAnyH_take (i := 1) (v := ?_) rfl (by kernel_rfl) (by kernel_rfl) (by kernel_rfl) (fun _ _ _ h => h) (Or.inl ⟨by rfl, ?_⟩) (by assumption) ?_
    rotate_left
    · (intro W hSW; obtain ⟨_, hsw0, hsw1⟩ := hSW; go_simp; try with_reducible rfl)
    try simp only [Act.put, List.getElem_toArray, List.getElem_cons_zero, List.getElem_cons_succ, List.setIfInBounds_toArray, List.set_cons_zero, List.set_cons_succ]
    refine wpAnyH_take (i := 2) (v := ?_) rfl (by kernel_rfl) (by kernel_rfl) (by kernel_rfl) (fun _ _ _ h => h) (Or.inl ⟨by rfl, ?_⟩) (by assumption) ?_
    rotate_left
    · (intro W hSW; obtain ⟨_, hsw0, hsw1⟩ := hSW; go_simp; try with_reducible rfl)
    try simp only [Act.put, List.getElem_toArray, List.getElem_cons_zero, List.getElem_cons_succ, List.setIfInBounds_toArray, List.set_cons_zero, List.set_cons_succ]
    refine wpAnyH_take (i := 3) (v := ?_) rfl (by kernel_rfl) (by kernel_rfl) (by kernel_rfl) (fun _ _ _ h => h) (Or.inl ⟨by rfl, ?_⟩) (by assumption) ?_
    rotate_left
    · (intro W hSW; obtain ⟨_, hsw0, hsw1⟩ := hSW; go_simp; try with_reducible rfl)
    try simp only [Act.put, List.getElem_toArray, List.getElem_cons_zero, List.getElem_cons_succ, List.setIfInBounds_toArray, List.set_cons_zero, List.set_cons_succ]
    refine wpAnyH_take (i := 4) (v := ?_) rfl (by kernel_rfl) (by kernel_rfl) (by kernel_rfl) (fun _ _ _ h => h) (Or.inl ⟨by rfl, ?_⟩) (by assumption) ?_
    rotate_left
    · (intro W hSW; obtain ⟨_, hsw0, hsw1⟩ := hSW; go_simp; try with_reducible rfl)
    try simp only [Act.put, List.getElem_toArray, List.getElem_cons_zero, List.getElem_cons_succ, List.setIfInBounds_toArray, List.set_cons_zero, List.set_cons_succ]
    refine wpAnyH_ready (rs := [5]) (by kernel_rfl) (by simp) (AllReadyH.cons rfl (fun K hK => ?_) AllReadyH.nil)
    · go_simp
      go_wp2_with (go_at_call 18; (with_reducible refine (bytes_any xc _ _ f8_2.out).mono ?_); rintro e W8_3 ⟨x8_6, rfl, hx8_7, ⟨_, _, hC8_8⟩, hg8_5⟩)
      have f8_9 := Lib.hid (f8_1.out.grown hg8_5 (fun k e => by injection e with e; subst e; simp))
      have f8_10 := Lib.hid hC8_8
      have f8_11 := Lib.hid hx8_7
      refine hK.out _ _ (⟨hHeld.1.grown hg8_5 (fun _ hx => by cases hx) (fun k e => by injection e with e; subst e; exact hwc.out), cell_grown hHeld.2.1 hg8_5 (cell_lt hHeld.2.1) hxd, cell_grown hHeld.2.2 hg8_5 (cell_lt hHeld.2.2) hgc⟩) (fun hH8_4 => ?_)
      clear hK K
      try simp only [Act.put, List.getElem_toArray, List.getElem_cons_zero, List.getElem_cons_succ, List.setIfInBounds_toArray, List.set_cons_zero, List.set_cons_succ]
      refine wpAnyH_take (i := 6) (v := ?_) rfl (by kernel_rfl) (by kernel_rfl) (by kernel_rfl) (fun _ _ _ h => h) (Or.inl ⟨by rfl, ?_⟩) (by assumption) ?_
      rotate_left
      · (intro W hSW; obtain ⟨_, hsw0, hsw1⟩ := hSW; go_simp; try with_reducible rfl)
      try simp only [Act.put, List.getElem_toArray, List.getElem_cons_zero, List.getElem_cons_succ, List.setIfInBounds_toArray, List.set_cons_zero, List.set_cons_succ]
      refine wpAnyH_take (i := 7) (v := ?_) rfl (by kernel_rfl) (by kernel_rfl) (by kernel_rfl) (fun _ _ _ h => h) (Or.inl ⟨by rfl, ?_⟩) (by assumption) ?_
      rotate_left
      · (intro W hSW; obtain ⟨_, hsw0, hsw1⟩ := hSW; go_simp; try with_reducible rfl)
      try simp only [Act.put, List.getElem_toArray, List.getElem_cons_zero, List.getElem_cons_succ, List.setIfInBounds_toArray, List.set_cons_zero, List.set_cons_succ]
      refine wpAnyH_done (by kernel_rfl) ?_ _
      go_wp2_with fail
      go_meet
      exact ⟨rfl, _, _, rfl, f8_11.out, f8_9.out, f8_10.out, hH8_4.1.2⟩
  case rest =>
  obtain ⟨rfl, s, m8, rfl, hs, hX, hC, hB⟩ := hcut
  have X8 := Lib.hid hX
  have C8 := Lib.hid hC
  have B8 := Lib.hid hB
  clear hX hC hB X6 C6 B6 hc0 hc1 hg6 hgx hgc hxl
  obtain ⟨m, hm, hm2⟩ : ∃ m : Nat, a % 257 = (m : Int) ∧ m ≤ 256 := ⟨(a % 257).toNat, by omega, by omega⟩
  obtain ⟨n, hn, hn2⟩ : ∃ n : Nat, b % 257 = (n : Int) ∧ n ≤ 256 := ⟨(b % 257).toNat, by omega, by omega⟩
  go_upto_region 9 with fail
  go_cut [13, 14] from 55 to 60 (fun s13 s14 wx => s13 = .int .i64 (m : Int) ∧ s14 = .int .i64 (n : Int) ∧ VarAt xd [xc] v6 (qDev [lg.blank, old] 1) wx ∧ CodL xc m8 wx ∧ Below w.heap.size w wx)
  case first =>
    go_wp2_with fail
    go_meet
    exact ⟨by rw [hm], by rw [hn], X8.out, C8.out, B8.out⟩
  case rest =>
  obtain ⟨rfl, rfl, hX, hC, hB⟩ := hcut
  have X9 := Lib.hid hX
  have C9 := Lib.hid hC
  have B9 := Lib.hid hB
  have HO := Lib.hid hold
  have HS := Lib.hid hs
  have HM : Hid (m ≤ 256 ∧ n ≤ 256) := Lib.hid ⟨hm2, hn2⟩
  clear hX hC hB X8 C8 B8 hm hn hm2 hn2 hold hs
  have T1 : Hid (tearE (qDev [lg.blank, old] 1) 1 s (m : Int) = 0 ∧ tearD (qDev [lg.blank, old] 1) 1 s (m : Int) = qDev [lg.blank, mixS s old m] 1) := Lib.hid (t_ok HO.out HS.out HM.out.1)
  have hmx : Hid ((mixS s old m).size = 256) := Lib.hid (mix_size HO.out HS.out HM.out.1)
  have T2 : Hid (tearE (qDev [lg.blank, mixS s old m] 1) 1 s (n : Int) = 0 ∧ tearD (qDev [lg.blank, mixS s old m] 1) 1 s (n : Int) = qDev [lg.blank, mixS s old (max m n)] 1) := Lib.hid (by have := t_ok hmx.out HS.out HM.out.2; rwa [mix_mix HO.out HS.out HM.out.1 HM.out.2] at this)
  have FQ : Hid (∀ x : ByteArray, x.size = 256 → FitsD (qDev [lg.blank, x] 1)) := Lib.hid fun x hx => fits_pages (two_pages hx)
  go_upto_region 12 with (first
    | (refine wp_loadV _ X9.out.row X9.out.len rfl rfl rfl ?_)
    | (go_at_call 27; refine (tear_b _ _ (qDev [lg.blank, mixS s old m] 1) 1 s m T1.out.1 T1.out.2 _ X9.out.dev (FQ.out _ HO.out)).mono ?_; rintro e w10 ⟨v10, rfl, hV, hl2, hb⟩; have V10 := Lib.hid hV; have L10 := Lib.hid (hl2 _ (Nat.le_refl _)); have X10 := Lib.hid (X9.out.keep hb); have C10 := Lib.hid (codL_keep C9.out hb); have B10 := Lib.hid (B9.out.trans (hb.mono B9.out.size)); have K10 : Hid (xd < wc.heap.size ∧ xc < wc.heap.size ∧ wc.heap.size ≤ w10.heap.size) := Lib.hid ⟨X9.out.row.lt, codL_lt C9.out, hb.size⟩; clear hV hl2 hb X9 C9 B9)
    | (refine wp_newW dev0 _ zero_dev rfl rfl ?_; intro w11 hP hb _; have N11 := Lib.hid hP; have M11 := Lib.hid hb; have C11 := Lib.hid (codL_keep C10.out hb); have X11 := Lib.hid ((varAt_more X10.out (Nat.le_refl _)).keep hb); have B11 := Lib.hid (B10.out.trans (hb.mono B10.out.size)); clear hP hb C10 X10)
    | (refine wp_storeV V10.out N11.out rfl rfl rfl rfl rfl ?_; intro w12 hP hS; have Y12 : Hid (VarAt w10.heap.size [xd, xc] v10 (qDev [lg.blank, mixS s old m] 1) w12) := Lib.hid (var_new V10.out M11.out hP hS (fun y h => by (have h : y = xd ∨ y = xc := by simpa using h); have := K10.out; rcases h with rfl | rfl; exact ⟨by omega, off_lo L10.out (by omega)⟩; exact ⟨by omega, off_lo L10.out (by omega)⟩)); have X12 := Lib.hid (X11.out.stored hS (by simp)); have C12 := Lib.hid (codL_stored C11.out hS (by have := K10.out; omega)); have B12 := Lib.hid (hS.below B11.out B10.out.size); have K12 : Hid (xc < w10.heap.size ∧ xd < w10.heap.size ∧ w.heap.size ≤ w10.heap.size) := Lib.hid ⟨by have := K10.out; omega, by have := K10.out; omega, B10.out.size⟩; clear hP hS N11 M11 V10 C11 X11 L10)
    | (refine wp_loadV _ Y12.out.row Y12.out.len rfl rfl rfl ?_)
    | (go_at_call 27; refine (tear_b _ _ (qDev [lg.blank, mixS s old (max m n)] 1) 1 s n T2.out.1 T2.out.2 _ Y12.out.dev (FQ.out _ hmx.out)).mono ?_; rintro e w13 ⟨v13, rfl, hV, hl2, hb⟩; have V13 := Lib.hid hV; have L13 := Lib.hid (hl2 _ (Nat.le_refl _)); have X13 := Lib.hid (X12.out.keep hb); have Y13 := Lib.hid (Y12.out.keep hb); have C13 := Lib.hid (codL_keep C12.out hb); have B13 := Lib.hid (B12.out.trans (hb.mono B12.out.size)); have K13 := Lib.hid (And.intro Y12.out.row.lt (And.intro X12.out.row.lt (codL_lt C12.out))); clear hV hl2 hb X12 Y12 C12 B12)
    | (refine wp_storeV V13.out Y13.out.row Y13.out.len rfl rfl rfl rfl ?_; intro w14 hP hS; have Y14 := Lib.hid (var_set Y13.out V13.out L13.out K13.out.1 (fun y h => by (have h : y = xd ∨ y = xc := by simpa using h); have := K13.out; rcases h with rfl | rfl; omega; omega) hP hS); have X14 := Lib.hid (X13.out.stored hS (by simp)); have C14 := Lib.hid (codL_stored C13.out hS K12.out.1); have B14 := Lib.hid (hS.below B13.out K12.out.2.2); clear hP hS X13 Y13 V13 C13 B13))
  generalize w10.heap.size = xx at *
  obtain ⟨k, hk, hk2⟩ : ∃ k : Nat, k = max m n ∧ k ≤ 256 := ⟨max m n, rfl, by have := HM.out; omega⟩
  rw [← hk] at Y14
  have HK := Lib.hid hk
  have HK2 := Lib.hid hk2
  obtain ⟨gy, oy, cy, hy0, hy1, hgy, hyx, hyY⟩ := page_at Y14.out (k := 1) (x := mixS s old k) rfl
  have hy0 : w14.cell? ⟨xx, 0, none⟩ = some (.slice (some ⟨gy, oy, none⟩) 2 cy) := hy0
  have hyw : w14.cell? ⟨xx, 1, none⟩ = some (.int .i64 1) := by
    obtain ⟨_, _, _, e, _⟩ := Y14.out.dev
    exact Y14.out.row.cells 1 _ (by rw [e]; rfl)
  have hxw : w14.cell? ⟨xd, 1, none⟩ = some (.int .i64 1) := by
    obtain ⟨_, _, _, e, _⟩ := X14.out.dev
    exact X14.out.row.cells 1 _ (by rw [e]; rfl)
  have hs := HS.out
  have ho := HO.out
  have hm1 : (max (m : Int) (n : Int)) = (k : Int) := by rw [hk]; omega
  clear hk hk2 hyY hyx hgy T2
  have k0 : (0 : Int) ≤ (k : Int) := by omega
  have k1 : (k : Int) ≤ 256 := by have := HK2.out; omega
  unfold mixS at hy1
  go_upto_region 15 with fail
  go_quiet (fail)
  have hq := la.below_drewN (Below.refl w14.heap.size w14) nq
  have X15 := Lib.hid (X14.out.keep hq)
  have Y15 := Lib.hid (Y14.out.keep hq)
  have B15 := Lib.hid (B14.out.trans (hq.mono B14.out.size))
  clear hy0 hy1 hyw hxw hq X14 Y14 C14 B14 hm1
  by_cases hk6 : k = 256
  · have d1 : ((k : Int) == 256) = true := by simp; omega
    have d2 : decide ((k : Int) = 256) = true := decide_eq_true (by omega)
    go_wp2_with fail
    go_ret
    exact ⟨rfl, B15.out⟩
  · have d1 : ((k : Int) == 256) = false := by simp; omega
    have d2 : decide ((k : Int) = 256) = false := decide_eq_false (by omega)
    have hk5 : k ≤ 255 := by omega
    have bt := build_tear k
    have I1 := Lib.hid (tf_inject HO.out hk5)
    have W1 := Lib.hid (tf_write HO.out HS.out hk5)
    have FT : Hid (FitsD ⟨[lg.blank, old], 1, [], false, [fTear k]⟩) := Lib.hid (fits_pages (two_pages HO.out))
    have HR0 := Lib.hid (mix_size HO.out HS.out HK2.out)
    generalize w14.drewN nq = w15 at *
    go_upto_region 21 with (first
      | (refine wp_loadV _ X15.out.row X15.out.len rfl rfl rfl ?_)
      | (go_at_call 25; refine (inject_b _ _ _ (fTear k) 0 I1.out.1 I1.out.2 _ X15.out.dev (FQ.out _ HO.out)).mono ?_; rintro e w16 ⟨v16, rfl, hV, hl2, hb⟩; have V16 := Lib.hid hV; have L16 := Lib.hid (hl2 _ (Nat.le_refl _)); have Y16 := Lib.hid (Y15.out.keep hb); have B16 := Lib.hid (B15.out.trans (hb.mono B15.out.size)); have K16 : Hid (xx < w15.heap.size ∧ w15.heap.size ≤ w16.heap.size) := Lib.hid ⟨Y15.out.row.lt, hb.size⟩; clear hV hl2 hb X15 Y15 B15)
      | (refine wp_newW dev0 _ zero_dev rfl rfl ?_; intro w17 hP hb _; have N17 := Lib.hid hP; have M17 := Lib.hid hb; have Y17 := Lib.hid ((varAt_more Y16.out (Nat.le_refl _)).keep hb); have B17 := Lib.hid (B16.out.trans (hb.mono B16.out.size)); clear hP hb Y16)
      | (refine wp_storeV V16.out N17.out rfl rfl rfl rfl rfl ?_; intro w18 hP hS; have Z18 : Hid (VarAt w16.heap.size [] v16 ⟨[lg.blank, old], 1, [], false, [fTear k]⟩ w18) := Lib.hid (var_new V16.out M17.out hP hS (fun y h => by cases h)); have Y18 := Lib.hid (Y17.out.stored hS (by simp)); have B18 := Lib.hid (hS.below B17.out B16.out.size); have K18 := Lib.hid B16.out.size; clear hP hS N17 M17 V16 Y17 L16)
      | (refine wp_loadV _ Z18.out.row Z18.out.len rfl rfl rfl ?_)
      | (go_at_call 20; refine (write_b _ _ (qDev [lg.blank, mixS s old k] 2) 1 s W1.out.1 W1.out.2 _ Z18.out.dev FT.out).mono ?_; rintro e w19 ⟨v20, rfl, hV, hl2, hb⟩; have V19 := Lib.hid hV; have L19 := Lib.hid (hl2 _ (Nat.le_refl _)); have Z19 := Lib.hid (Z18.out.keep hb); have Y19 := Lib.hid (Y18.out.keep hb); have B19 := Lib.hid (B18.out.trans (hb.mono B18.out.size)); have K19 := Lib.hid Z18.out.row.lt; clear hV hl2 hb Z18 Y18 B18)
      | (refine wp_storeV V19.out Z19.out.row Z19.out.len rfl rfl rfl rfl ?_; intro w20 hP hS; have Z20 := Lib.hid (var_set Z19.out V19.out L19.out K19.out (fun y h => by cases h) hP hS); have Y20 := Lib.hid (Y19.out.stored hS (by simp)); have B20 := Lib.hid (hS.below B19.out K18.out); clear hP hS Z19 Y19 V19 B19))
    generalize w16.heap.size = zz at *
    generalize mixS s old k = r at *
    have HR := HR0
    obtain ⟨gz, oz, cz, z3, z5, _, _, _⟩ := page_at Z20.out (k := 1) (x := r) rfl
    obtain ⟨gx, ox, cq, z6, z7, _, _, _⟩ := page_at Y20.out (k := 1) (x := r) rfl
    have hlen := Z20.out.len
    have z1 := Z20.out.row
    have z2 := Z20.out.dev
    have z4 : w20.cell? ⟨zz, 1, none⟩ = some (.int .i64 2) := by
      obtain ⟨_, _, _, e, _⟩ := Z20.out.dev
      exact Z20.out.row.cells 1 _ (by rw [e]; rfl)
    refine wp_region_held_drew (S := fun W => St [] w W ∧ RowAt zz v20 W ∧ DevV v20 (qDev [lg.blank, r] 2) W ∧ W.cell? ⟨zz, 0, none⟩ = some (.slice (some ⟨gz, oz, none⟩) 2 cz) ∧ W.cell? ⟨zz, 1, none⟩ = some (.int .i64 2) ∧ W.cell? ⟨gz, oz + 1, none⟩ = some (.string r) ∧ W.cell? ⟨xx, 0, none⟩ = some (.slice (some ⟨gx, ox, none⟩) 2 cq) ∧ W.cell? ⟨gx, ox + 1, none⟩ = some (.string r)) (by kernel_rfl) ⟨(st_nil B20.out).drew, z1.drew, z2.keep (Below.refl _ _).drew, z3, z4, z5, z6, z7⟩ (fun hHeld => ?_)
    refine wpAnyH_take (i := 0) (v := ?_) rfl (by kernel_rfl) (by kernel_rfl) (by kernel_rfl) (fun _ _ _ h => h) (Or.inl ⟨by rfl, ?_⟩) (by assumption) ?_
    rotate_left
    · (intro W hSW; obtain ⟨_, hsw0, hsw1, hsw2, hsw3, hsw4, hsw5, hsw6⟩ := hSW; go_simp; try with_reducible rfl)
    try simp only [Act.put, List.getElem_toArray, List.getElem_cons_zero, List.getElem_cons_succ, List.setIfInBounds_toArray, List.set_cons_zero, List.set_cons_succ]
    refine wpAnyH_take (i := 1) (v := ?_) rfl (by kernel_rfl) (by kernel_rfl) (by kernel_rfl) (fun _ _ _ h => h) (Or.inl ⟨by rfl, ?_⟩) (by assumption) ?_
    rotate_left
    · (intro W hSW; obtain ⟨_, hsw0, hsw1, hsw2, hsw3, hsw4, hsw5, hsw6⟩ := hSW; go_simp; try with_reducible rfl)
    try simp only [Act.put, List.getElem_toArray, List.getElem_cons_zero, List.getElem_cons_succ, List.setIfInBounds_toArray, List.set_cons_zero, List.set_cons_succ]
    refine wpAnyH_take (i := 2) (v := ?_) rfl (by kernel_rfl) (by kernel_rfl) (by kernel_rfl) (fun _ _ _ h => h) (Or.inl ⟨by rfl, ?_⟩) (by assumption) ?_
    rotate_left
    · (intro W hSW; obtain ⟨_, hsw0, hsw1, hsw2, hsw3, hsw4, hsw5, hsw6⟩ := hSW; go_simp; try with_reducible rfl)
    try simp only [Act.put, List.getElem_toArray, List.getElem_cons_zero, List.getElem_cons_succ, List.setIfInBounds_toArray, List.set_cons_zero, List.set_cons_succ]
    refine wpAnyH_take (i := 3) (v := ?_) rfl (by kernel_rfl) (by kernel_rfl) (by kernel_rfl) (fun _ _ _ h => h) (Or.inl ⟨by rfl, ?_⟩) (by assumption) ?_
    rotate_left
    · (intro W hSW; obtain ⟨_, hsw0, hsw1, hsw2, hsw3, hsw4, hsw5, hsw6⟩ := hSW; go_simp; try with_reducible rfl)
    try simp only [Act.put, List.getElem_toArray, List.getElem_cons_zero, List.getElem_cons_succ, List.setIfInBounds_toArray, List.set_cons_zero, List.set_cons_succ]
    refine wpAnyH_take (i := 4) (v := ?_) rfl (by kernel_rfl) (by kernel_rfl) (by kernel_rfl) (fun _ _ _ h => h) (Or.inl ⟨by rfl, ?_⟩) (by assumption) ?_
    rotate_left
    · (intro W hSW; obtain ⟨_, hsw0, hsw1, hsw2, hsw3, hsw4, hsw5, hsw6⟩ := hSW; go_simp; try with_reducible rfl)
    try simp only [Act.put, List.getElem_toArray, List.getElem_cons_zero, List.getElem_cons_succ, List.setIfInBounds_toArray, List.set_cons_zero, List.set_cons_succ]
    refine wpAnyH_take (i := 5) (v := ?_) rfl (by kernel_rfl) (by kernel_rfl) (by kernel_rfl) (fun _ _ _ h => h) (Or.inl ⟨by rfl, ?_⟩) (by assumption) ?_
    rotate_left
    · (intro W hSW; obtain ⟨_, hsw0, hsw1, hsw2, hsw3, hsw4, hsw5, hsw6⟩ := hSW; go_simp; try with_reducible rfl)
    try simp only [Act.put, List.getElem_toArray, List.getElem_cons_zero, List.getElem_cons_succ, List.setIfInBounds_toArray, List.set_cons_zero, List.set_cons_succ]
    refine wpAnyH_take (i := 6) (v := ?_) rfl (by kernel_rfl) (by kernel_rfl) (by kernel_rfl) (fun _ _ _ h => h) (Or.inl ⟨by rfl, ?_⟩) (by assumption) ?_
    rotate_left
    · (intro W hSW; obtain ⟨_, hsw0, hsw1, hsw2, hsw3, hsw4, hsw5, hsw6⟩ := hSW; go_simp; try with_reducible rfl)
    try simp only [Act.put, List.getElem_toArray, List.getElem_cons_zero, List.getElem_cons_succ, List.setIfInBounds_toArray, List.set_cons_zero, List.set_cons_succ]
    refine wpAnyH_take (i := 7) (v := ?_) rfl (by kernel_rfl) (by kernel_rfl) (by kernel_rfl) (fun _ _ _ h => h) (Or.inl ⟨by rfl, ?_⟩) (by assumption) ?_
    rotate_left
    · (intro W hSW; obtain ⟨_, hsw0, hsw1, hsw2, hsw3, hsw4, hsw5, hsw6⟩ := hSW; go_simp; try with_reducible rfl)
    try simp only [Act.put, List.getElem_toArray, List.getElem_cons_zero, List.getElem_cons_succ, List.setIfInBounds_toArray, List.set_cons_zero, List.set_cons_succ]
    refine wpAnyH_take (i := 8) (v := ?_) rfl (by kernel_rfl) (by kernel_rfl) (by kernel_rfl) (fun _ _ _ h => h) (Or.inl ⟨by rfl, ?_⟩) (by assumption) ?_
    rotate_left
    · (intro W hSW; obtain ⟨_, hsw0, hsw1, hsw2, hsw3, hsw4, hsw5, hsw6⟩ := hSW; go_simp; try with_reducible rfl)
    try simp only [Act.put, List.getElem_toArray, List.getElem_cons_zero, List.getElem_cons_succ, List.setIfInBounds_toArray, List.set_cons_zero, List.set_cons_succ]
    refine wpAnyH_take (i := 9) (v := ?_) rfl (by kernel_rfl) (by kernel_rfl) (by kernel_rfl) (fun _ _ _ h => h) (Or.inl ⟨by rfl, ?_⟩) (by assumption) ?_
    rotate_left
    · (intro W hSW; obtain ⟨_, hsw0, hsw1, hsw2, hsw3, hsw4, hsw5, hsw6⟩ := hSW; go_simp; try with_reducible rfl)
    try simp only [Act.put, List.getElem_toArray, List.getElem_cons_zero, List.getElem_cons_succ, List.setIfInBounds_toArray, List.set_cons_zero, List.set_cons_succ]
    refine wpAnyH_take (i := 10) (v := ?_) rfl (by kernel_rfl) (by kernel_rfl) (by kernel_rfl) (fun _ _ _ h => h) (Or.inl ⟨by rfl, ?_⟩) (by assumption) ?_
    rotate_left
    · (intro W hSW; obtain ⟨_, hsw0, hsw1, hsw2, hsw3, hsw4, hsw5, hsw6⟩ := hSW; go_simp; try with_reducible rfl)
    try simp only [Act.put, List.getElem_toArray, List.getElem_cons_zero, List.getElem_cons_succ, List.setIfInBounds_toArray, List.set_cons_zero, List.set_cons_succ]
    refine wpAnyH_take (i := 11) (v := ?_) rfl (by kernel_rfl) (by kernel_rfl) (by kernel_rfl) (fun _ _ _ h => h) (Or.inl ⟨by rfl, ?_⟩) (by assumption) ?_
    rotate_left
    · (intro W hSW; obtain ⟨_, hsw0, hsw1, hsw2, hsw3, hsw4, hsw5, hsw6⟩ := hSW; go_simp; try with_reducible rfl)
    try simp only [Act.put, List.getElem_toArray, List.getElem_cons_zero, List.getElem_cons_succ, List.setIfInBounds_toArray, List.set_cons_zero, List.set_cons_succ]
    refine wpAnyH_take (i := 12) (v := ?_) rfl (by kernel_rfl) (by kernel_rfl) (by kernel_rfl) (fun _ _ _ h => h) (Or.inl ⟨by rfl, ?_⟩) (by assumption) ?_
    rotate_left
    · (intro W hSW; obtain ⟨_, hsw0, hsw1, hsw2, hsw3, hsw4, hsw5, hsw6⟩ := hSW; go_simp; try with_reducible rfl)
    try simp only [Act.put, List.getElem_toArray, List.getElem_cons_zero, List.getElem_cons_succ, List.setIfInBounds_toArray, List.set_cons_zero, List.set_cons_succ]
    refine wpAnyH_take (i := 13) (v := ?_) rfl (by kernel_rfl) (by kernel_rfl) (by kernel_rfl) (fun _ _ _ h => h) (Or.inl ⟨by rfl, ?_⟩) (by assumption) ?_
    rotate_left
    · (intro W hSW; obtain ⟨_, hsw0, hsw1, hsw2, hsw3, hsw4, hsw5, hsw6⟩ := hSW; go_simp; try with_reducible rfl)
    try simp only [Act.put, List.getElem_toArray, List.getElem_cons_zero, List.getElem_cons_succ, List.setIfInBounds_toArray, List.set_cons_zero, List.set_cons_succ]
    refine wpAnyH_take (i := 14) (v := ?_) rfl (by kernel_rfl) (by kernel_rfl) (by kernel_rfl) (fun _ _ _ h => h) (Or.inl ⟨by rfl, ?_⟩) (by assumption) ?_
    rotate_left
    · (intro W hSW; obtain ⟨_, hsw0, hsw1, hsw2, hsw3, hsw4, hsw5, hsw6⟩ := hSW; go_simp; try with_reducible rfl)
    try simp only [Act.put, List.getElem_toArray, List.getElem_cons_zero, List.getElem_cons_succ, List.setIfInBounds_toArray, List.set_cons_zero, List.set_cons_succ]
    refine wpAnyH_take (i := 15) (v := ?_) rfl (by kernel_rfl) (by kernel_rfl) (by kernel_rfl) (fun _ _ _ h => h) (Or.inl ⟨by rfl, ?_⟩) (by assumption) ?_
    rotate_left
    · (intro W hSW; obtain ⟨_, hsw0, hsw1, hsw2, hsw3, hsw4, hsw5, hsw6⟩ := hSW; go_simp; try with_reducible rfl)
    try simp only [Act.put, List.getElem_toArray, List.getElem_cons_zero, List.getElem_cons_succ, List.setIfInBounds_toArray, List.set_cons_zero, List.set_cons_succ]
    refine wpAnyH_take (i := 16) (v := ?_) rfl (by kernel_rfl) (by kernel_rfl) (by kernel_rfl) (fun _ _ _ h => h) (Or.inl ⟨by rfl, ?_⟩) (by assumption) ?_
    rotate_left
    · (intro W hSW; obtain ⟨_, hsw0, hsw1, hsw2, hsw3, hsw4, hsw5, hsw6⟩ := hSW; go_simp; try with_reducible rfl)
    try simp only [Act.put, List.getElem_toArray, List.getElem_cons_zero, List.getElem_cons_succ, List.setIfInBounds_toArray, List.set_cons_zero, List.set_cons_succ]
    refine wpAnyH_take (i := 17) (v := ?_) rfl (by kernel_rfl) (by kernel_rfl) (by kernel_rfl) (fun _ _ _ h => h) (Or.inl ⟨by rfl, ?_⟩) (by assumption) ?_
    rotate_left
    · (intro W hSW; obtain ⟨_, hsw0, hsw1, hsw2, hsw3, hsw4, hsw5, hsw6⟩ := hSW; go_simp; try with_reducible rfl)
    try simp only [Act.put, List.getElem_toArray, List.getElem_cons_zero, List.getElem_cons_succ, List.setIfInBounds_toArray, List.set_cons_zero, List.set_cons_succ]
    refine wpAnyH_take (i := 18) (v := ?_) rfl (by kernel_rfl) (by kernel_rfl) (by kernel_rfl) (fun _ _ _ h => h) (Or.inl ⟨by rfl, ?_⟩) (by assumption) ?_
    rotate_left
    · (intro W hSW; obtain ⟨_, hsw0, hsw1, hsw2, hsw3, hsw4, hsw5, hsw6⟩ := hSW; go_simp; try with_reducible rfl)
    try simp only [Act.put, List.getElem_toArray, List.getElem_cons_zero, List.getElem_cons_succ, List.setIfInBounds_toArray, List.set_cons_zero, List.set_cons_succ]
    refine wpAnyH_take (i := 19) (v := ?_) rfl (by kernel_rfl) (by kernel_rfl) (by kernel_rfl) (fun _ _ _ h => h) (Or.inl ⟨by rfl, ?_⟩) (by assumption) ?_
    rotate_left
    · (intro W hSW; obtain ⟨_, hsw0, hsw1, hsw2, hsw3, hsw4, hsw5, hsw6⟩ := hSW; go_simp; try with_reducible rfl)
    try simp only [Act.put, List.getElem_toArray, List.getElem_cons_zero, List.getElem_cons_succ, List.setIfInBounds_toArray, List.set_cons_zero, List.set_cons_succ]
    refine wpAnyH_take (i := 20) (v := ?_) rfl (by kernel_rfl) (by kernel_rfl) (by kernel_rfl) (fun _ _ _ h => h) (Or.inl ⟨by rfl, ?_⟩) (by assumption) ?_
    rotate_left
    · (intro W hSW; obtain ⟨_, hsw0, hsw1, hsw2, hsw3, hsw4, hsw5, hsw6⟩ := hSW; go_simp; try with_reducible rfl)
    try simp only [Act.put, List.getElem_toArray, List.getElem_cons_zero, List.getElem_cons_succ, List.setIfInBounds_toArray, List.set_cons_zero, List.set_cons_succ]
    refine wpAnyH_take (i := 21) (v := ?_) rfl (by kernel_rfl) (by kernel_rfl) (by kernel_rfl) (fun _ _ _ h => h) (Or.inl ⟨by rfl, ?_⟩) (by assumption) ?_
    rotate_left
    · (intro W hSW; obtain ⟨_, hsw0, hsw1, hsw2, hsw3, hsw4, hsw5, hsw6⟩ := hSW; go_simp; try with_reducible rfl)
    try simp only [Act.put, List.getElem_toArray, List.getElem_cons_zero, List.getElem_cons_succ, List.setIfInBounds_toArray, List.set_cons_zero, List.set_cons_succ]
    refine wpAnyH_take (i := 22) (v := ?_) rfl (by kernel_rfl) (by kernel_rfl) (by kernel_rfl) (fun _ _ _ h => h) (Or.inl ⟨by rfl, ?_⟩) (by assumption) ?_
    rotate_left
    · (intro W hSW; obtain ⟨_, hsw0, hsw1, hsw2, hsw3, hsw4, hsw5, hsw6⟩ := hSW; go_simp; try with_reducible rfl)
    try simp only [Act.put, List.getElem_toArray, List.getElem_cons_zero, List.getElem_cons_succ, List.setIfInBounds_toArray, List.set_cons_zero, List.set_cons_succ]
    refine wpAnyH_take (i := 23) (v := ?_) rfl (by kernel_rfl) (by kernel_rfl) (by kernel_rfl) (fun _ _ _ h => h) (Or.inl ⟨by rfl, ?_⟩) (by assumption) ?_
    rotate_left
    · (intro W hSW; obtain ⟨_, hsw0, hsw1, hsw2, hsw3, hsw4, hsw5, hsw6⟩ := hSW; go_simp; try with_reducible rfl)
    try simp only [Act.put, List.getElem_toArray, List.getElem_cons_zero, List.getElem_cons_succ, List.setIfInBounds_toArray, List.set_cons_zero, List.set_cons_succ]
    refine wpAnyH_take (i := 24) (v := ?_) rfl (by kernel_rfl) (by kernel_rfl) (by kernel_rfl) (fun _ _ _ h => h) (Or.inl ⟨by rfl, ?_⟩) (by assumption) ?_
    rotate_left
    · (intro W hSW; obtain ⟨_, hsw0, hsw1, hsw2, hsw3, hsw4, hsw5, hsw6⟩ := hSW; go_simp; try with_reducible rfl)
    try simp only [Act.put, List.getElem_toArray, List.getElem_cons_zero, List.getElem_cons_succ, List.setIfInBounds_toArray, List.set_cons_zero, List.set_cons_succ]
    refine wpAnyH_take (i := 25) (v := ?_) rfl (by kernel_rfl) (by kernel_rfl) (by kernel_rfl) (fun _ _ _ h => h) (Or.inl ⟨by rfl, ?_⟩) (by assumption) ?_
    rotate_left
    · (intro W hSW; obtain ⟨_, hsw0, hsw1, hsw2, hsw3, hsw4, hsw5, hsw6⟩ := hSW; go_simp; try with_reducible rfl)
    try simp only [Act.put, List.getElem_toArray, List.getElem_cons_zero, List.getElem_cons_succ, List.setIfInBounds_toArray, List.set_cons_zero, List.set_cons_succ]
    refine wpAnyH_take (i := 26) (v := ?_) rfl (by kernel_rfl) (by kernel_rfl) (by kernel_rfl) (fun _ _ _ h => h) (Or.inl ⟨by rfl, ?_⟩) (by assumption) ?_
    rotate_left
    · (intro W hSW; obtain ⟨_, hsw0, hsw1, hsw2, hsw3, hsw4, hsw5, hsw6⟩ := hSW; go_simp; try with_reducible rfl)
    try simp only [Act.put, List.getElem_toArray, List.getElem_cons_zero, List.getElem_cons_succ, List.setIfInBounds_toArray, List.set_cons_zero, List.set_cons_succ]
    refine wpAnyH_take (i := 27) (v := ?_) rfl (by kernel_rfl) (by kernel_rfl) (by kernel_rfl) (fun _ _ _ h => h) (Or.inl ⟨by rfl, ?_⟩) (by assumption) ?_
    rotate_left
    · (intro W hSW; obtain ⟨_, hsw0, hsw1, hsw2, hsw3, hsw4, hsw5, hsw6⟩ := hSW; go_simp; try with_reducible rfl)
    try simp only [Act.put, List.getElem_toArray, List.getElem_cons_zero, List.getElem_cons_succ, List.setIfInBounds_toArray, List.set_cons_zero, List.set_cons_succ]
    refine wpAnyH_take (i := 28) (v := ?_) rfl (by kernel_rfl) (by kernel_rfl) (by kernel_rfl) (fun _ _ _ h => h) (Or.inl ⟨by rfl, ?_⟩) (by assumption) ?_
    rotate_left
    · (intro W hSW; obtain ⟨_, hsw0, hsw1, hsw2, hsw3, hsw4, hsw5, hsw6⟩ := hSW; go_simp; try with_reducible rfl)
    try simp only [Act.put, List.getElem_toArray, List.getElem_cons_zero, List.getElem_cons_succ, List.setIfInBounds_toArray, List.set_cons_zero, List.set_cons_succ]
    refine wpAnyH_take (i := 29) (v := .agg v20.toArray) rfl (by kernel_rfl) (by kernel_rfl) (by kernel_rfl) (fun _ _ _ h => h) (yieldsIf_load_mid (by rfl) 27 _ rfl zz 0 rfl v20 _ (fun W hSw => RowAt.range (hSw.2.1) 0 (fun j v hv => by rw [Nat.zero_add]; exact hv)) Try.underlying27 rfl (by rw [hlen]; exact info_dev)) (by assumption) ?_
    try simp only [Act.put, List.getElem_toArray, List.getElem_cons_zero, List.getElem_cons_succ, List.setIfInBounds_toArray, List.set_cons_zero, List.set_cons_succ]
    refine wpAnyH_ready (rs := [30]) (by kernel_rfl) (by simp) (AllReadyH.cons rfl (fun K hK => ?_) AllReadyH.nil)
    · go_simp
      go_wp2_with (go_at_call 23; (with_reducible refine (refValid_q [lg.blank, r] 2 2 v20 _ hHeld.2.2.1 (two_pages HR.out) (by decide) (by decide)).mono ?_); rintro e W21_1 ⟨rfl, hb21_3⟩)
      refine hK.out _ _ (⟨hHeld.1.keep hb21_3, RowAt.keep hHeld.2.1 hb21_3, DevV.keep hHeld.2.2.1 hb21_3, (hb21_3.cell (cell_lt hHeld.2.2.2.1)).trans hHeld.2.2.2.1, (hb21_3.cell (cell_lt hHeld.2.2.2.2.1)).trans hHeld.2.2.2.2.1, (hb21_3.cell (cell_lt hHeld.2.2.2.2.2.1)).trans hHeld.2.2.2.2.2.1, (hb21_3.cell (cell_lt hHeld.2.2.2.2.2.2.1)).trans hHeld.2.2.2.2.2.2.1, (hb21_3.cell (cell_lt hHeld.2.2.2.2.2.2.2)).trans hHeld.2.2.2.2.2.2.2⟩) (fun hH21_2 => ?_)
      clear hK K
      try simp only [Act.put, List.getElem_toArray, List.getElem_cons_zero, List.getElem_cons_succ, List.setIfInBounds_toArray, List.set_cons_zero, List.set_cons_succ]
      refine wpAnyH_take (i := 31) (v := ?_) rfl (by kernel_rfl) (by kernel_rfl) (by kernel_rfl) (fun _ _ _ h => h) (Or.inl ⟨by rfl, ?_⟩) (by assumption) ?_
      rotate_left
      · (intro W hSW; obtain ⟨_, hsw0, hsw1, hsw2, hsw3, hsw4, hsw5, hsw6⟩ := hSW; go_simp; try with_reducible rfl)
      try simp only [Act.put, List.getElem_toArray, List.getElem_cons_zero, List.getElem_cons_succ, List.setIfInBounds_toArray, List.set_cons_zero, List.set_cons_succ]
      refine wpAnyH_take (i := 32) (v := ?_) rfl (by kernel_rfl) (by kernel_rfl) (by kernel_rfl) (fun _ _ _ h => h) (Or.inl ⟨by rfl, ?_⟩) (by assumption) ?_
      rotate_left
      · (intro W hSW; obtain ⟨_, hsw0, hsw1, hsw2, hsw3, hsw4, hsw5, hsw6⟩ := hSW; go_simp; try with_reducible rfl)
      try simp only [Act.put, List.getElem_toArray, List.getElem_cons_zero, List.getElem_cons_succ, List.setIfInBounds_toArray, List.set_cons_zero, List.set_cons_succ]
      refine wpAnyH_done (by kernel_rfl) ?_ _
      go_wp2_with fail
      go_ret
      exact ⟨rfl, hH21_2.1.2⟩
end Go.Proofs.Ytikpchhhenonaaa.lz
