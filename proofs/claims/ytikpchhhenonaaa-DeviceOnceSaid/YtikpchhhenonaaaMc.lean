/- What a write with one fault leaves, as data: two devices side by side. -/
import Derived.Test.YtikpchhhenonaaaLy
namespace Go.Proofs.Ytikpchhhenonaaa.mc
open Go.ChangeShapes Go.WideShapes Go.ChangeAt Go.RowKit Go.Proofs.Ytikpchhhenonaaa.cx Go.Proofs.Ytikpchhhenonaaa.ra Go.Proofs.Ytikpchhhenonaaa.la Go.Proofs.Ytikpchhhenonaaa.lb Go.Proofs.Ytikpchhhenonaaa.lc Go.Proofs.Ytikpchhhenonaaa.ld Go.Proofs.Ytikpchhhenonaaa.le Go.Proofs.Ytikpchhhenonaaa.lf Go.Proofs.Ytikpchhhenonaaa.lg Go.Proofs.Ytikpchhhenonaaa.lh Go.Proofs.Ytikpchhhenonaaa.li Go.Proofs.Ytikpchhhenonaaa.lj Go.Proofs.Ytikpchhhenonaaa.lk Go.Proofs.Ytikpchhhenonaaa.ll Go.Proofs.Ytikpchhhenonaaa.lm Go.Proofs.Ytikpchhhenonaaa.ln Go.Proofs.Ytikpchhhenonaaa.lo Go.Proofs.Ytikpchhhenonaaa.lp Go.Proofs.Ytikpchhhenonaaa.lq Go.Proofs.Ytikpchhhenonaaa.lr Go.Proofs.Ytikpchhhenonaaa.ls Go.Proofs.Ytikpchhhenonaaa.lt Go.Proofs.Ytikpchhhenonaaa.lu Go.Proofs.Ytikpchhhenonaaa.lv Go.Proofs.Ytikpchhhenonaaa.lw Go.Proofs.Ytikpchhhenonaaa.lx Go.Proofs.Ytikpchhhenonaaa.ly
/-- f is the fault of write k, of one of the kinds 1 to 5, for a device of three pages. -/
structure OneF (k : Nat) (f : Flt) : Prop where
  at' : f.at' = (k : Int)
  k1 : 1 ≤ k ∧ k ≤ 5
  kind : 1 ≤ f.kind ∧ f.kind ≤ 5
  page : 0 ≤ f.page ∧ f.page < 3
  target : 0 ≤ f.target ∧ f.target < 3
  byte : 0 ≤ f.byte ∧ f.byte < 256
  ok : okKind f = true
theorem OneF.fault {k : Nat} {f : Flt} (h : OneF k f) {d : Dev} (hw : d.writes < (k : Int)) (hl : d.pages.length = 3) : okFault d f = true := by
  have h1 := h.page
  have h2 := h.target
  have h3 := h.byte
  have h4 := h.k1
  have h5 := h.at'
  unfold okFault inR
  rw [decide_eq_true (show d.writes < f.at' by omega), decide_eq_true (show f.at' ≤ 1099511627776 by omega), hl, decide_eq_true (show 0 ≤ f.page ∧ f.page < ((3 : Nat) : Int) by omega), decide_eq_true (show 0 ≤ f.target ∧ f.target < ((3 : Nat) : Int) by omega),
    decide_eq_true h3.1, decide_eq_true h3.2, h.ok]
  rfl
theorem mem_insL {l : List Int} {i : Nat} {x y : Int} : y ∈ insL l i x ↔ y = x ∨ y ∈ l := by
  unfold insL
  rw [List.mem_append, List.mem_cons]
  constructor
  · rintro (h | h | h)
    · exact .inr (List.mem_of_mem_take h)
    · exact .inl h
    · exact .inr (List.mem_of_mem_drop h)
  · rintro (h | h)
    · exact .inr (.inl h)
    · rw [← List.take_append_drop i l, List.mem_append] at h
      rcases h with h | h
      · exact .inl h
      · exact .inr (.inr h)
theorem mem_hideL {l : List Int} {x y : Int} : y ∈ hideL l x ↔ y = x ∨ y ∈ l := by
  unfold hideL
  split
  · rename_i h
    rw [List.contains_iff_mem] at h
    exact ⟨.inr, fun e => e.elim (fun e => e ▸ h) id⟩
  · exact mem_insL
/-- d' is d, but for the pages of which the numbers are in q. -/
structure Near (q : List Nat) (d d' : Dev) : Prop where
  page : ∀ x, x ∉ q → d'.pages[x]? = d.pages[x]?
  unr : ∀ x : Nat, x ∉ q → ((x : Int) ∈ d'.unr ↔ (x : Int) ∈ d.unr)
  rng : (∀ x ∈ d.unr, 0 ≤ x ∧ x < (3 : Int)) → ∀ x ∈ d'.unr, 0 ≤ x ∧ x < (3 : Int)
  writes : d'.writes = d.writes
  faults : d'.faults = d.faults
  dead : d'.dead = d.dead
theorem Near.refl (q : List Nat) (d : Dev) : Near q d d := ⟨fun _ _ => rfl, fun _ _ => Iff.rfl, id, rfl, rfl, rfl⟩
theorem Near.trans {q r : List Nat} {d e f : Dev} (h : Near q d e) (g : Near r e f) : Near (q ++ r) d f :=
  ⟨fun x hx => (g.page x (fun m => hx (List.mem_append_right _ m))).trans (h.page x (fun m => hx (List.mem_append_left _ m))),
   fun x hx => (g.unr x (fun m => hx (List.mem_append_right _ m))).trans (h.unr x (fun m => hx (List.mem_append_left _ m))),
   fun k => g.rng (h.rng k), g.writes.trans h.writes, g.faults.trans h.faults, g.dead.trans h.dead⟩
theorem near_owr (d : Dev) (k n : Nat) (s : ByteArray) : Near [k] d (owrD d k s n) :=
  ⟨fun x hx => List.getElem?_set_ne (fun e => hx (by simp [e])),
   fun x hx => by
    have hne : ((x : Int) == (k : Int)) = false := by
      have : x ≠ k := fun e => hx (by simp [e])
      simp; omega
    show (x : Int) ∈ d.unr.filter _ ↔ _
    rw [List.mem_filter, hne]
    simp,
   fun h x hx => h x ((List.mem_filter.1 hx).1), rfl, rfl, rfl⟩
theorem near_carry (d : Dev) (k : Nat) (s : ByteArray) (f : Flt) : Near [k, f.target.toNat] d (carryD d k s (becomeF [f])) := by
  have one : ∀ j ∈ [k, f.target.toNat], ∀ n, Near [k, f.target.toNat] d (owrD d j s n) := fun j hj n => by
    have h := near_owr d j n s
    exact ⟨fun x hx => h.page x (fun m => hx (by (obtain rfl : x = j := by simpa using m); exact hj)), fun x hx => h.unr x (fun m => hx (by (obtain rfl : x = j := by simpa using m); exact hj)), h.rng, h.writes, h.faults, h.dead⟩
  unfold becomeF whatF
  by_cases h1 : f.kind = 1
  · rw [if_pos h1]; exact Near.refl _ _
  · rw [if_neg h1]
    by_cases h2 : f.kind = 2
    · rw [if_pos h2]; exact one _ (by simp) _
    · rw [if_neg h2]
      by_cases h3 : f.kind = 3
      · rw [if_pos h3]; exact one _ (by simp) _
      · rw [if_neg h3]; exact one _ (by simp) _
theorem near_harm {d : Dev} {f : Flt} (hk : f.kind ≤ 5) (hp : 0 ≤ f.page ∧ f.page < 3) : Near [f.page.toNat] d (harmD d f) := by
  unfold harmD
  by_cases h4 : f.kind = 4
  · rw [if_pos h4]
    exact ⟨fun x hx => List.getElem?_set_ne (fun e => hx (by simp [e])), fun _ _ => Iff.rfl, id, rfl, rfl, rfl⟩
  · rw [if_neg h4]
    by_cases h5 : f.kind = 5
    · rw [if_pos h5]
      refine ⟨fun _ _ => rfl, fun x hx => ?_, fun h x hx => ?_, rfl, rfl, rfl⟩
      · show (x : Int) ∈ hideL d.unr f.page ↔ _
        rw [mem_hideL]
        have : (x : Int) ≠ f.page := fun e => hx (by simp; omega)
        exact ⟨fun e => e.elim (fun e => absurd e this) id, .inr⟩
      · rcases mem_hideL.1 hx with rfl | hx
        · exact hp
        · exact h x hx
    · rw [if_neg h5, if_neg (by omega)]
      exact Near.refl _ _
/-- Two devices behind j writes, one with the fault of write k: where T is false, they read the same. -/
structure TwinD (j k : Nat) (f : Flt) (pa : List ByteArray) (B : Dev) (T : List Bool) : Prop where
  ga : Pages 3 pa
  gb : Pages 3 B.pages
  asc : Asc B.unr
  rng : ∀ x ∈ B.unr, 0 ≤ x ∧ x < (3 : Int)
  writes : B.writes = (j : Int)
  dead : B.dead = false
  faults : B.faults = if j < k then [f] else []
  len : T.length = 3
  same : ∀ x : Nat, T[x]? = some false → pa[x]? = B.pages[x]? ∧ (x : Int) ∉ B.unr
section
variable {j k p : Nat} {f : Flt} {pa : List ByteArray} {B : Dev} {T : List Bool} {s : ByteArray}
theorem TwinD.valid (h : TwinD j k f pa B T) (hf : OneF k f) (hj : j ≤ 6) : validD B = true := by
  have hl := h.gb.1
  refine is_valid ⟨by rw [hl]; decide, h.gb.2⟩ (by rw [h.writes]; omega) ⟨h.asc, fun x hx => by rw [hl]; exact h.rng x hx⟩ ?_
  rw [h.faults]
  by_cases c : j < k
  · rw [if_pos c]
    refine ⟨by show 1 ≤ 64; decide, fun g hg => ?_⟩
    obtain rfl : g = f := by simpa using hg
    exact hf.fault (by rw [h.writes]; omega) hl
  · rw [if_neg c]
    exact ⟨Nat.zero_le _, fun g hg => by cases hg⟩
theorem TwinD.writeE (h : TwinD j k f pa B T) (hf : OneF k f) (hj : j ≤ 6) (hp : p < 3) (hs : s.size = 256) : writeE B (p : Int) s = 0 :=
  writeE_of (h.valid hf hj) h.dead (by rw [h.gb.1]; omega) hs (by rw [h.writes]; omega)
theorem TwinD.goes (h : TwinD j k f pa B T) (fs : List Flt) : Goes 3 { countD B with faults := fs } := ⟨h.gb.1, h.gb.2, h.asc⟩
theorem twin_plain (h : TwinD j k f pa B T) (hp : p < 3) (hs : s.size = 256) (T' : List Bool) (hT : ∀ x : Nat, x ≠ p → T'[x]? = some false → T[x]? = some false) (hl : T'.length = 3)
    (hd : dueF (countD B) = []) (hr : restF (countD B) = if j + 1 < k then [f] else []) : TwinD (j + 1) k f (pa.set p s) (writeD B (p : Int) s) T' := by
  have e : writeD B (p : Int) s = owrD { countD B with faults := restF (countD B) } p s 256 := by
    unfold writeD
    rw [hd, Int.toNat_natCast]
    rfl
  have g := goes_owr (n := 256) (k := p) (s := s) (h.goes (restF (countD B))) hp hs (Nat.le_refl _)
  have nr := near_owr { countD B with faults := restF (countD B) } p 256 s
  rw [e]
  refine ⟨pages_set h.ga hs, ⟨g.len, g.size⟩, g.asc, nr.rng h.rng, by rw [nr.writes]; show B.writes + 1 = _; rw [h.writes]; omega, nr.dead.trans h.dead, nr.faults.trans hr, hl, fun x hx => ?_⟩
  by_cases c : x = p
  · subst c
    refine ⟨?_, fun m => ?_⟩
    · show (pa.set x s)[x]? = (B.pages.set x (mixS s _ 256))[x]?
      rw [mixS_full hs, List.getElem?_set_self (by rw [h.ga.1]; exact hp), List.getElem?_set_self (by rw [h.gb.1]; exact hp)]
    · have := (List.mem_filter.1 m).2
      simp at this
  · have i := h.same x (hT x c hx)
    have hq : x ∉ [p] := fun m => c (by simpa using m)
    exact ⟨by rw [List.getElem?_set_ne (fun e => c e.symm), nr.page x hq]; exact i.1, fun m => i.2 ((nr.unr x hq).1 m)⟩
theorem twin_before (h : TwinD j k f pa B T) (hf : OneF k f) (hp : p < 3) (hs : s.size = 256) (hj : j + 1 < k) : TwinD (j + 1) k f (pa.set p s) (writeD B (p : Int) s) T := by
  have hw := h.writes
  have ha := hf.at'
  have e1 : (f.at' == B.writes + 1) = false := by rw [hw, ha]; simp; omega
  have hfs : B.faults = [f] := by rw [h.faults, if_pos (by omega)]
  refine twin_plain h hp hs T (fun x _ hx => hx) h.len ?_ ?_
  · show (B.faults.filter fun g => !(g.at' != B.writes + 1)) = []
    rw [hfs]
    simp [bne, e1]
  · show (B.faults.filter fun g => !(g.at' == B.writes + 1)) = _
    rw [hfs, if_pos hj]
    simp [e1]
theorem twin_behind (h : TwinD j k f pa B T) (hp : p < 3) (hs : s.size = 256) (hj : k < j + 1) : TwinD (j + 1) k f (pa.set p s) (writeD B (p : Int) s) (T.set p false) := by
  have hfs : B.faults = [] := by rw [h.faults, if_neg (by omega)]
  refine twin_plain h hp hs _ (fun x c hx => by rwa [List.getElem?_set_ne (fun e => c e.symm)] at hx) (by rw [List.length_set]; exact h.len) ?_ ?_
  · show (B.faults.filter fun g => !(g.at' != B.writes + 1)) = []
    rw [hfs]; rfl
  · show (B.faults.filter fun g => !(g.at' == B.writes + 1)) = _
    rw [hfs, if_neg (by omega)]; rfl
theorem twin_now (h : TwinD j k f pa B T) (hf : OneF k f) (hp : p < 3) (hs : s.size = 256) (hj : j + 1 = k) :
    TwinD (j + 1) k f (pa.set p s) (writeD B (p : Int) s) (((T.set p true).set f.target.toNat true).set f.page.toNat true) := by
  have hw := h.writes
  have ha := hf.at'
  have e1 : (f.at' == B.writes + 1) = true := by rw [hw, ha]; simp; omega
  have hfs : B.faults = [f] := by rw [h.faults, if_pos (by omega)]
  have hd : dueF (countD B) = [f] := by
    show (B.faults.filter fun g => !(g.at' != B.writes + 1)) = _
    rw [hfs]
    simp [bne, e1]
  have hr : restF (countD B) = [] := by
    show (B.faults.filter fun g => !(g.at' == B.writes + 1)) = _
    rw [hfs]
    simp [e1]
  have e : writeD B (p : Int) s = harmD (carryD { countD B with faults := [] } p s (becomeF [f])) f := by
    unfold writeD
    rw [hd, hr, Int.toNat_natCast]
    rfl
  have hft : fateB 3 (becomeF [f]) := fate_of [f] fun g hg => by
    obtain rfl : g = f := by simpa using hg
    exact ⟨hf.target, hf.byte⟩
  have g := goes_harm (f := f) (goes_carry (h.goes []) hp hs hft) hf.page
  have nr := (near_carry { countD B with faults := [] } p s f).trans (near_harm hf.kind.2 hf.page)
  rw [e]
  refine ⟨pages_set h.ga hs, ⟨g.len, g.size⟩, g.asc, nr.rng h.rng, by rw [nr.writes]; show B.writes + 1 = _; rw [h.writes]; omega, nr.dead.trans h.dead, by rw [nr.faults, if_neg (by omega)], by simp only [List.length_set]; exact h.len, fun x hx => ?_⟩
  have hx3 : x < 3 := by
    have := (List.getElem?_eq_some_iff.1 hx).1
    simp only [List.length_set] at this
    rw [← h.len]; exact this
  have c3 : x ≠ f.page.toNat := fun c => by
    rw [← c, List.getElem?_set_self (by simp only [List.length_set]; rw [h.len]; exact hx3)] at hx
    cases hx
  rw [List.getElem?_set_ne (fun e => c3 e.symm)] at hx
  have c2 : x ≠ f.target.toNat := fun c => by
    rw [← c, List.getElem?_set_self (by simp only [List.length_set]; rw [h.len]; exact hx3)] at hx
    cases hx
  rw [List.getElem?_set_ne (fun e => c2 e.symm)] at hx
  have c1 : x ≠ p := fun c => by
    rw [← c, List.getElem?_set_self (by rw [h.len]; exact hx3)] at hx
    cases hx
  rw [List.getElem?_set_ne (fun e => c1 e.symm)] at hx
  have i := h.same x hx
  have hq : x ∉ [p, f.target.toNat] ++ [f.page.toNat] := fun m => by
    simp at m
    rcases m with m | m | m
    · exact c1 m
    · exact c2 m
    · exact c3 m
  exact ⟨by rw [List.getElem?_set_ne (fun e => c1 e.symm), nr.page x hq]; exact i.1, fun m => i.2 ((nr.unr x hq).1 m)⟩
/-- What is read where T is false. -/
theorem TwinD.read (h : TwinD j k f pa B T) (hf : OneF k f) (hj : j ≤ 6) {x : Nat} {y : ByteArray} (hT : T[x]? = some false) (hy : pa[x]? = some y) : readE B (x : Int) = 0 ∧ readS B (x : Int) = y := by
  have i := h.same x hT
  rw [hy] at i
  have hl : x < B.pages.length := (List.getElem?_eq_some_iff.1 i.1.symm).1
  have hc : B.unr.contains (x : Int) = false := by
    cases c : B.unr.contains (x : Int)
    · rfl
    · exact absurd (List.contains_iff_mem.1 c) i.2
  have h1 : readE B (x : Int) = 0 := by
    unfold readE
    rw [if_pos (access_of (h.valid hf hj) h.dead (by omega)), hc]
    rfl
  refine ⟨h1, ?_⟩
  unfold readS
  rw [if_pos h1, Int.toNat_natCast, List.getD, ← i.1]
  rfl
theorem twin_start (hf : OneF k f) : TwinD 0 k f (blanks 3) ⟨blanks 3, 0, [], false, [f]⟩ [false, false, false] :=
  ⟨pages_blanks 3, pages_blanks 3, asc_nil, fun _ h => (by cases h), rfl, rfl, by rw [if_pos (by have := hf.k1; omega)], rfl, fun _ _ => ⟨rfl, fun h => by cases h⟩⟩
end
end Go.Proofs.Ytikpchhhenonaaa.mc
