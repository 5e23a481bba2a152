/- Rows of changes of one cell; joined. -/
import Derived.Test.YtkcgcddpgfcgiaaKk
namespace Go.Proofs.Ytkcgcddpgfcgiaa.km
open Go.ChangeShapes Go.WideShapes Go.ChangeAt Go.RowKit Go.Proofs.Ytkcgcddpgfcgiaa.cx Go.Proofs.Ytkcgcddpgfcgiaa.ra Go.Proofs.Ytkcgcddpgfcgiaa.rc Go.Proofs.Ytkcgcddpgfcgiaa.da Go.Proofs.Ytkcgcddpgfcgiaa.di Go.Proofs.Ytkcgcddpgfcgiaa.ea Go.Proofs.Ytkcgcddpgfcgiaa.eb Go.Proofs.Ytkcgcddpgfcgiaa.ec Go.Proofs.Ytkcgcddpgfcgiaa.ed Go.Proofs.Ytkcgcddpgfcgiaa.fb Go.Proofs.Ytkcgcddpgfcgiaa.ka Go.Proofs.Ytkcgcddpgfcgiaa.kb Go.Proofs.Ytkcgcddpgfcgiaa.kc Go.Proofs.Ytkcgcddpgfcgiaa.kd Go.Proofs.Ytkcgcddpgfcgiaa.ke Go.Proofs.Ytkcgcddpgfcgiaa.kf Go.Proofs.Ytkcgcddpgfcgiaa.kg Go.Proofs.Ytkcgcddpgfcgiaa.ki Go.Proofs.Ytkcgcddpgfcgiaa.kj Go.Proofs.Ytkcgcddpgfcgiaa.kk

def flat (cs : List Chg) : List Value := cs.flatMap Chg.vals
theorem flat_length : ∀ cs : List Chg, (flat cs).length = cs.length * 6
  | [] => rfl
  | c :: r => by
    have h := flat_length r
    show (c.vals ++ flat r).length = (r.length + 1) * 6
    rw [List.length_append, cvals_length, h]
    omega
theorem flat_append (a b : List Chg) : flat (a ++ b) = flat a ++ flat b := List.flatMap_append
theorem flat_at : ∀ (cs : List Chg) (j : Nat) (c : Chg) (t : Nat) (v : Value), cs[j]? = some c → c.vals[t]? = some v → (flat cs)[j * 6 + t]? = some v
  | [], j, c, t, v, h, _ => by simp at h
  | d :: r, 0, c, t, v, h, hv => by
    obtain rfl : d = c := by simpa using h
    show (d.vals ++ flat r)[0 * 6 + t]? = some v
    rw [show 0 * 6 + t = t by omega]
    exact app_left _ hv
  | d :: r, j + 1, c, t, v, h, hv => by
    show (d.vals ++ flat r)[(j + 1) * 6 + t]? = some v
    rw [show (j + 1) * 6 + t = 6 + (j * 6 + t) by omega, app_right _ (cvals_length d)]
    exact flat_at r j c t v (by simpa using h) hv
/-- Changes of cell k of page 2, each from what the one before has left. -/
def Chained (k : Nat) : CellM → List Chg → CellM → Prop
  | x, [], y => x = y
  | x, c :: r, y => c.page = 2 ∧ c.slot = (k : Int) ∧ c.before = x ∧ cellB c.after = true ∧ Chained k c.after r y
theorem chained_append (k : Nat) : ∀ (a b : List Chg) (x y : CellM), Chained k x (a ++ b) y ↔ ∃ u, Chained k x a u ∧ Chained k u b y
  | [], b, x, y => ⟨fun h => ⟨x, rfl, h⟩, fun ⟨u, h1, h2⟩ => by cases h1; exact h2⟩
  | c :: r, b, x, y => by
    show (c.page = 2 ∧ c.slot = (k : Int) ∧ c.before = x ∧ cellB c.after = true ∧ Chained k c.after (r ++ b) y) ↔ ∃ u, (c.page = 2 ∧ c.slot = (k : Int) ∧ c.before = x ∧ cellB c.after = true ∧ Chained k c.after r u) ∧ Chained k u b y
    rw [chained_append k r b]
    constructor
    · rintro ⟨h1, h2, h3, h4, u, h5, h6⟩
      exact ⟨u, ⟨h1, h2, h3, h4, h5⟩, h6⟩
    · rintro ⟨u, ⟨h1, h2, h3, h4, h5⟩, h6⟩
      exact ⟨h1, h2, h3, h4, u, h5, h6⟩
theorem chained_end {k : Nat} : ∀ {cs : List Chg} {x y : CellM}, Chained k x cs y → cellB x = true → cellB y = true
  | [], x, y, h, hx => by cases h; exact hx
  | c :: r, x, y, h, _ => chained_end h.2.2.2.2 h.2.2.2.1
/-- The change at place j. -/
theorem chained_at {k : Nat} {cs : List Chg} {x y : CellM} (h : Chained k x cs y) {j : Nat} (hj : j < cs.length) : ∃ u v, cs[j]? = some ⟨2, (k : Int), u, v⟩ ∧ Chained k x (cs.take j) u ∧ cellB v = true ∧ Chained k x (cs.take (j + 1)) v := by
  have hc : cs[j]? = some cs[j] := List.getElem?_eq_getElem hj
  have e1 : cs = cs.take j ++ cs[j] :: cs.drop (j + 1) := by rw [← List.drop_eq_getElem_cons hj, List.take_append_drop]
  have h' := h
  rw [e1, chained_append] at h'
  obtain ⟨u, h1, hp, hs, hb, hv, h2⟩ := h'
  have e2 : cs.take (j + 1) = cs.take j ++ [cs[j]] := by rw [List.take_add_one, hc]; rfl
  have hcc : cs[j] = ⟨2, (k : Int), u, cs[j].after⟩ := by
    generalize cs[j] = c at hp hs hb
    obtain ⟨a, b, d, e⟩ := c
    simp only at hp hs hb
    subst hp hs hb
    rfl
  refine ⟨u, cs[j].after, by rw [hc]; exact congrArg some hcc, h1, hv, ?_⟩
  rw [e2, chained_append]
  exact ⟨u, h1, hp, hs, hb, hv, rfl⟩
theorem chained_fun {k : Nat} : ∀ {cs : List Chg} {x y z : CellM}, Chained k x cs y → Chained k x cs z → y = z
  | [], _, _, _, h, h' => by cases h; exact h'
  | _ :: _, _, _, _, h, h' => chained_fun h.2.2.2.2 h'.2.2.2.2
theorem join_step {k : Nat} (hk : k < 16) {x u v : CellM} (hx : cellB x = true) (hu : cellB u = true) (hv : cellB v = true) : JoinIs ⟨2, (k : Int), x, u⟩ ⟨2, (k : Int), u, v⟩ ⟨2, (k : Int), x, v⟩ :=
  join_is (valid_is (n := 2) (by decide) hk hx hu).2 (valid_is (n := 2) (by decide) hk hu hv).2 (valid_is (n := 2) (by decide) hk hx hu).1 (valid_is (n := 2) (by decide) hk hu hv).1 rfl rfl rfl
set_option maxRecDepth 4000 in
set_option maxHeartbeats 2000000 in
theorem joined_any (g off cap : Nat) (cur : List Value) (k : Nat) (hk : k < 16) (cs : List Chg) (x y : CellM) (w : World) (hn : 0 < cs.length) (hcap : cs.length ≤ cap) (hcap2 : cap ≤ 9223372036854775807) (hx : cellB x = true) (hch : Chained k x cs y)
    (hr : RowAt g cur w) (hat : ∀ j c t v, cs[j]? = some c → c.vals[t]? = some v → cur[off + (j * 6 + t)]? = some v) :
    Calls Try.prog 28 #[.slice (some ⟨g, off, none⟩) cs.length cap] w fun e w' => e = .returned (.tuple #[.agg (Chg.arr ⟨2, (k : Int), x, y⟩), .bool true]) ∧ Below w.heap.size w w' := by
  obtain ⟨n, hnn⟩ : ∃ n, cs.length = n + 1 := ⟨cs.length - 1, by omega⟩
  rw [hnn] at hcap ⊢
  obtain ⟨u0, v0, hc0, ht0, hb0, hc1⟩ := chained_at hch (j := 0) (by omega)
  obtain rfl : x = u0 := ht0
  have HAT := Lib.hid hat
  have H0 : Hid (∀ t v, (Chg.mk 2 (k : Int) x v0).vals[t]? = some v → cur[off + t]? = some v) := Lib.hid fun t v h => by have := hat 0 _ t v hc0 h; rwa [show off + (0 * 6 + t) = off + t by omega] at this
  have HC := Lib.hid hch
  have H1 := Lib.hid hc1
  have HNN := Lib.hid hnn
  have HS := Lib.hid ((st_nil (Below.refl w.heap.size w)).add hr)
  have NEG : Hid (w.heap.size ≠ g) := Lib.hid (Nat.ne_of_gt hr.lt)
  have HV0 := Lib.hid hb0
  have HX := Lib.hid hx
  clear hat hc0 hch hr hc1 hnn hn hb0 hx
  go_enter Try.func28, Try.ntmps28
  go_wp2_with (first
    | (have _t := HS.out; refine wp_newChgW rfl rfl ?_; intro w1 hP hb _; have S1 := Lib.hid (HS.out.first hb hP); clear hP hb _t HS)
    | (refine wp_loadChgAt ⟨2, (k : Int), x, v0⟩ off (S1.out.row (b := g) (vs := cur) (by simp)) H0.out rfl rfl rfl ?_)
    | (have _t := S1.out; refine wp_newChgW rfl rfl ?_; intro w2 hP hb _; have N2 := Lib.hid hP; have M2 := Lib.hid hb; clear hP hb _t)
    | (refine wp_storeChgW ⟨2, (k : Int), x, v0⟩ N2.out (cvals_length _) rfl rfl rfl rfl ?_; intro w3 hP hS; have S3 := Lib.hid (S1.out.push M2.out hP hS); have NE1 := Lib.hid S1.out.ne; have LE1 := Lib.hid S1.out.2.size; clear hP hS S1 N2 M2))
  rotate_left
  · have hw2 := S3.out.2.size
    generalize hr0 : w.heap.size = xr at *
    generalize w1.heap.size = xt at *
    have HR0 := Lib.hid hr0
    have LE1X : Hid (w.heap.size ≤ xt) := Lib.hid (by rw [HR0.out]; exact LE1.out)
    clear hr0
    go_loopw [15] (fun v wr => ∃ i : Nat, i ≤ n ∧ v = .int .i64 i ∧ ∃ u, Chained k x (cs.take (i + 1)) u ∧ cellB u = true ∧ St [(xt, Chg.vals ⟨2, (k : Int), x, u⟩), (xr, chg0.vals), (g, cur)] w wr) (fun v _ => n - (intOf v).toNat)
    case atStart => exact ⟨0, by omega, rfl, v0, H1.out, HV0.out, S3.out⟩
    case round =>
      obtain ⟨i, hi, rfl, u, h1, h2, h3⟩ := hrel
      have S0 := Lib.hid h3
      have HU1 := Lib.hid h1
      have HU2 := Lib.hid h2
      clear S3 h1 h2 h3
      by_cases hin : i < n
      · obtain ⟨u', v, hc, ht, hv, ht2⟩ := chained_at HC.out (j := i + 1) (by rw [HNN.out]; omega)
        obtain rfl := chained_fun HU1.out ht
        have HJ := Lib.hid (join_step hk HX.out HU2.out hv)
        have HT2 := Lib.hid ht2
        have HVV := Lib.hid hv
        have HL : Hid (∀ t z, (Chg.mk 2 (k : Int) u v).vals[t]? = some z → cur[off + 6 + i * 6 + t]? = some z) := Lib.hid fun t z h => by have := HAT.out (i + 1) _ t z hc h; rwa [show off + ((i + 1) * 6 + t) = off + 6 + i * 6 + t by omega] at this
        have q0 : (0 : Int) ≤ (i : Int) := by omega
        have q1 : (i : Int) < (n : Int) := by omega
        clear hc ht hv ht2
        go_wp2_with (first
          | (refine wp_loadChgAt ⟨2, (k : Int), u, v⟩ (off + 6 + i * 6) (S0.out.row (b := g) (vs := cur) (by simp)) HL.out rfl rfl rfl ?_)
          | (have _t := S0.out; refine wp_newChgW rfl rfl ?_; intro w5 hP hb _; have N5 := Lib.hid hP; have M5 := Lib.hid hb; clear hP hb _t)
          | (refine wp_storeChgW ⟨2, (k : Int), u, v⟩ N5.out (cvals_length _) rfl rfl rfl rfl ?_; intro w6 hP hS; have S6 := Lib.hid (S0.out.push M5.out hP hS); clear hP hS S0 N5 M5)
          | (refine wp_loadChg ⟨2, (k : Int), x, u⟩ (S6.out.row (b := xt) (vs := Chg.vals ⟨2, (k : Int), x, u⟩) (by simp)) rfl rfl rfl ?_)
          | (refine wp_loadChg ⟨2, (k : Int), u, v⟩ (S6.out.row (vs := Chg.vals ⟨2, (k : Int), u, v⟩) (List.mem_cons_self ..)) rfl rfl rfl ?_)
          | (go_at_call 13; (with_reducible refine (HJ.out _).mono ?_); rintro e w7 ⟨rfl, hb⟩; have S7 := Lib.hid (S6.out.keep hb); clear hb S6)
          | (have _t := S7.out; refine wp_newChgW rfl rfl ?_; intro w8 hP hb _; have N8 := Lib.hid hP; have M8 := Lib.hid hb; clear hP hb _t)
          | (refine wp_storeChgW ⟨2, (k : Int), x, v⟩ N8.out (cvals_length _) rfl rfl rfl rfl ?_; intro w9 hP hS; have S9 := Lib.hid (S7.out.push M8.out hP hS); clear hP hS S7 N8 M8)
          | (refine wp_loadChg ⟨2, (k : Int), x, v⟩ (S9.out.row (vs := Chg.vals ⟨2, (k : Int), x, v⟩) (List.mem_cons_self ..)) rfl rfl rfl ?_)
          | (refine wp_storeChgW ⟨2, (k : Int), x, v⟩ (S9.out.row (b := xt) (vs := Chg.vals ⟨2, (k : Int), x, u⟩) (by simp)) (cvals_length _) rfl rfl rfl rfl ?_; intro w10 hP hS; have S10 : Hid (St [(xt, Chg.vals ⟨2, (k : Int), x, v⟩), (xr, chg0.vals), (g, cur)] w w10) := Lib.hid (((S9.out.sub (l' := [(xr, chg0.vals), (g, cur)]) (by simp)).stored NE1.out LE1X.out hS).add hP); clear hP hS S9))
        go_roundw
        case rel => exact ⟨i + 1, by omega, by go_num, v, HT2.out, HVV.out, S10.out⟩
        case measure => simp [intOf]; omega
      · obtain rfl : i = n := by omega
        obtain rfl : u = y := chained_fun HU1.out (by rw [List.take_of_length_le (by rw [HNN.out]; exact Nat.le_refl _)]; exact HC.out)
        have NE0 : Hid (∀ z ∈ [(xt, Chg.vals ⟨2, (k : Int), x, u⟩), (g, cur)], xr ≠ z.1) := Lib.hid (by have h1 := NE1.out; have h2 := NEG.out; simp at h1 ⊢; omega)
        go_wp2_with (first
          | (refine wp_loadChg ⟨2, (k : Int), x, u⟩ (S0.out.row (b := xt) (vs := Chg.vals ⟨2, (k : Int), x, u⟩) (by simp)) rfl rfl rfl ?_)
          | (refine wp_storeChgW ⟨2, (k : Int), x, u⟩ (S0.out.row (b := xr) (vs := chg0.vals) (by simp)) (cvals_length _) rfl rfl rfl rfl ?_; intro w11 hP hS; have R11 := Lib.hid hP; have S11 := Lib.hid ((S0.out.sub (l' := [(xt, Chg.vals ⟨2, (k : Int), x, u⟩), (g, cur)]) (by simp)).stored NE0.out (by rw [HR0.out]; exact Nat.le_refl _) hS); clear hP hS S0))
        exact bodyPost_ret (res_chgE rfl rfl R11.out) rfl ⟨rfl, S11.out.2⟩
  · have hw2 := S3.out.2.size
    generalize hr0 : w.heap.size = xr at *
    generalize w1.heap.size = xt at *
    have HR0 := Lib.hid hr0
    have LE1X : Hid (w.heap.size ≤ xt) := Lib.hid (by rw [HR0.out]; exact LE1.out)
    clear hr0
    go_loopw [15] (fun v wr => ∃ i : Nat, i ≤ n ∧ v = .int .i64 i ∧ ∃ u, Chained k x (cs.take (i + 1)) u ∧ cellB u = true ∧ St [(xt, Chg.vals ⟨2, (k : Int), x, u⟩), (xr, chg0.vals), (g, cur)] w wr) (fun v _ => n - (intOf v).toNat)
    case atStart => exact ⟨0, by omega, rfl, v0, H1.out, HV0.out, S3.out⟩
    case round =>
      obtain ⟨i, hi, rfl, u, h1, h2, h3⟩ := hrel
      have S0 := Lib.hid h3
      have HU1 := Lib.hid h1
      have HU2 := Lib.hid h2
      clear S3 h1 h2 h3
      by_cases hin : i < n
      · exfalso; omega
      · obtain rfl : i = n := by omega
        obtain rfl : u = y := chained_fun HU1.out (by rw [List.take_of_length_le (by rw [HNN.out]; exact Nat.le_refl _)]; exact HC.out)
        have NE0 : Hid (∀ z ∈ [(xt, Chg.vals ⟨2, (k : Int), x, u⟩), (g, cur)], xr ≠ z.1) := Lib.hid (by have h1 := NE1.out; have h2 := NEG.out; simp at h1 ⊢; omega)
        go_wp2_with (first
          | (refine wp_loadChg ⟨2, (k : Int), x, u⟩ (S0.out.row (b := xt) (vs := Chg.vals ⟨2, (k : Int), x, u⟩) (by simp)) rfl rfl rfl ?_)
          | (refine wp_storeChgW ⟨2, (k : Int), x, u⟩ (S0.out.row (b := xr) (vs := chg0.vals) (by simp)) (cvals_length _) rfl rfl rfl rfl ?_; intro w11 hP hS; have R11 := Lib.hid hP; have S11 := Lib.hid ((S0.out.sub (l' := [(xt, Chg.vals ⟨2, (k : Int), x, u⟩), (g, cur)]) (by simp)).stored NE0.out (by rw [HR0.out]; exact Nat.le_refl _) hS); clear hP hS S0))
        exact bodyPost_ret (res_chgE rfl rfl R11.out) rfl ⟨rfl, S11.out.2⟩
end Go.Proofs.Ytkcgcddpgfcgiaa.km
