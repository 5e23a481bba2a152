/- The rules of the program: what each part allows, the table, Valid, Changes. -/
import Derived.Test.YtiojpfljnbdonaaOa
namespace Go.Proofs.Ytiojpfljnbdonaa.ob
open Go.ChangeShapes Go.WideShapes Go.ChangeAt Go.RowKit Go.Proofs.Ytiojpfljnbdonaa.cx Go.Proofs.Ytiojpfljnbdonaa.ra Go.Proofs.Ytiojpfljnbdonaa.rb Go.Proofs.Ytiojpfljnbdonaa.rc Go.Proofs.Ytiojpfljnbdonaa.da Go.Proofs.Ytiojpfljnbdonaa.ea Go.Proofs.Ytiojpfljnbdonaa.eb Go.Proofs.Ytiojpfljnbdonaa.ed Go.Proofs.Ytiojpfljnbdonaa.fb Go.Proofs.Ytiojpfljnbdonaa.ka Go.Proofs.Ytiojpfljnbdonaa.kb Go.Proofs.Ytiojpfljnbdonaa.kg Go.Proofs.Ytiojpfljnbdonaa.kj Go.Proofs.Ytiojpfljnbdonaa.oa

def txB (n : Int) : Bool := decide (1 ≤ n) && decide (n ≤ 1073741824)
theorem validTx_any (n : Int) (w : World) :
    Calls Try.prog 59 #[.int .i64 n] w fun e' w' => e' = .returned (.bool (txB n)) ∧ w = w' := by
  by_cases h0 : 1 ≤ n
  rotate_left
  · skip
    have hv : (txB n) = false := by unfold txB; simp [h0]
    rw [hv]; clear hv
    have d0 : decide (1 ≤ n) = false := by simpa using h0
    go_enter Try.func59, Try.ntmps59
    go_wp2
    go_ret
    exact ⟨rfl, rfl⟩
  by_cases h1 : n ≤ 1073741824
  rotate_left
  · skip
    have hv : (txB n) = false := by unfold txB; simp [h0, h1]
    rw [hv]; clear hv
    have d1 : decide (n ≤ 1073741824) = false := by simpa using h1
    go_enter Try.func59, Try.ntmps59
    go_wp2
    go_ret
    exact ⟨rfl, rfl⟩
  have hv : (txB n) = true := by unfold txB; simp [h0, h1]
  rw [hv]; clear hv
  go_enter Try.func59, Try.ntmps59
  go_wp2
  go_ret
  exact ⟨rfl, rfl⟩

def earlyB (n m : Int) : Bool := decide (0 ≤ n) && decide (n < m)
theorem validEarlier_any (n m : Int) (w : World) :
    Calls Try.prog 42 #[.int .i64 n, .int .i64 m] w fun e' w' => e' = .returned (.bool (earlyB n m)) ∧ w = w' := by
  by_cases h0 : 0 ≤ n
  rotate_left
  · skip
    have hv : (earlyB n m) = false := by unfold earlyB; simp [h0]
    rw [hv]; clear hv
    have d0 : decide (0 ≤ n) = false := by simpa using h0
    go_enter Try.func42, Try.ntmps42
    go_wp2
    go_ret
    exact ⟨rfl, rfl⟩
  by_cases h1 : n < m
  rotate_left
  · skip
    have hv : (earlyB n m) = false := by unfold earlyB; simp [h0, h1]
    rw [hv]; clear hv
    have d1 : decide (n < m) = false := by simpa using h1
    go_enter Try.func42, Try.ntmps42
    go_wp2
    go_ret
    exact ⟨rfl, rfl⟩
  have hv : (earlyB n m) = true := by unfold earlyB; simp [h0, h1]
  rw [hv]; clear hv
  go_enter Try.func42, Try.ntmps42
  go_wp2
  go_ret
  exact ⟨rfl, rfl⟩

theorem before_any (n m : Int) (w : World) :
    Calls Try.prog 34 #[.int .i64 n, .int .i64 m] w fun e' w' => e' = .returned (.bool (earlyB n m)) ∧ w = w' := by
  by_cases h0 : 0 ≤ n
  rotate_left
  · skip
    have hv : (earlyB n m) = false := by unfold earlyB; simp [h0]
    rw [hv]; clear hv
    have d0 : decide (0 ≤ n) = false := by simpa using h0
    go_enter Try.func34, Try.ntmps34
    go_wp2
    go_ret
    exact ⟨rfl, rfl⟩
  by_cases h1 : n < m
  rotate_left
  · skip
    have hv : (earlyB n m) = false := by unfold earlyB; simp [h0, h1]
    rw [hv]; clear hv
    have d1 : decide (n < m) = false := by simpa using h1
    go_enter Try.func34, Try.ntmps34
    go_wp2
    go_ret
    exact ⟨rfl, rfl⟩
  have hv : (earlyB n m) = true := by unfold earlyB; simp [h0, h1]
  rw [hv]; clear hv
  go_enter Try.func34, Try.ntmps34
  go_wp2
  go_ret
  exact ⟨rfl, rfl⟩

def linksChangeB (e : Ent) : Bool := txB e.tx && (e.ref == 0)
theorem linksChange_any (e : Ent) (w : World) :
    Calls Try.prog 43 #[.agg e.arr] w fun e' w' => e' = .returned (.bool (linksChangeB e)) ∧ Below w.heap.size w w' := by
  cases h0 : (txB e.tx)
  · skip
    have hv : (linksChangeB e) = false := by unfold linksChangeB; simp [h0]
    rw [hv]; clear hv
    have C0 : Hid (∀ w, Calls Try.prog 59 #[.int .i64 e.tx] w fun e' w' => e' = .returned (.bool false) ∧ w = w') := Lib.hid (fun w => by have := validTx_any e.tx w; rwa [h0] at this)
    clear h0
    go_enter Try.func43, Try.ntmps43
    go_wp2_with (first
      | (refine wp_boxEntW e rfl rfl rfl ?_; intro w0 hP hb0 hz0; have HC := Lib.hid hP; have HB := Lib.hid hb0; obtain ⟨a0, a1, a2, a3, a4, a5, a6, a7, a8, a9, a10, a11, a12⟩ := hP.all; clear hP hb0 hz0)
      | (go_at_call 59; refine (C0.out _).mono ?_; rintro e1 w1 ⟨rfl, rfl⟩))
    go_ret
    exact ⟨rfl, HB.out⟩
  cases h1 : (e.ref == 0)
  · skip
    have hv : (linksChangeB e) = false := by unfold linksChangeB; simp [h0, h1]
    rw [hv]; clear hv
    have C0 : Hid (∀ w, Calls Try.prog 59 #[.int .i64 e.tx] w fun e' w' => e' = .returned (.bool true) ∧ w = w') := Lib.hid (fun w => by have := validTx_any e.tx w; rwa [h0] at this)
    clear h0
    go_enter Try.func43, Try.ntmps43
    go_wp2_with (first
      | (refine wp_boxEntW e rfl rfl rfl ?_; intro w0 hP hb0 hz0; have HC := Lib.hid hP; have HB := Lib.hid hb0; obtain ⟨a0, a1, a2, a3, a4, a5, a6, a7, a8, a9, a10, a11, a12⟩ := hP.all; clear hP hb0 hz0)
      | (go_at_call 59; refine (C0.out _).mono ?_; rintro e1 w1 ⟨rfl, rfl⟩))
    go_ret
    exact ⟨rfl, HB.out⟩
  have hv : (linksChangeB e) = true := by unfold linksChangeB; simp [h0, h1]
  rw [hv]; clear hv
  have C0 : Hid (∀ w, Calls Try.prog 59 #[.int .i64 e.tx] w fun e' w' => e' = .returned (.bool true) ∧ w = w') := Lib.hid (fun w => by have := validTx_any e.tx w; rwa [h0] at this)
  clear h0
  go_enter Try.func43, Try.ntmps43
  go_wp2_with (first
    | (refine wp_boxEntW e rfl rfl rfl ?_; intro w0 hP hb0 hz0; have HC := Lib.hid hP; have HB := Lib.hid hb0; obtain ⟨a0, a1, a2, a3, a4, a5, a6, a7, a8, a9, a10, a11, a12⟩ := hP.all; clear hP hb0 hz0)
    | (go_at_call 59; refine (C0.out _).mono ?_; rintro e1 w1 ⟨rfl, rfl⟩))
  go_ret
  exact ⟨rfl, HB.out⟩

def linksUndoB (e : Ent) : Bool := txB e.tx && (decide (1 ≤ e.ref) && decide (e.ref ≤ e.prevTx))
theorem linksUndo_any (e : Ent) (w : World) :
    Calls Try.prog 46 #[.agg e.arr] w fun e' w' => e' = .returned (.bool (linksUndoB e)) ∧ Below w.heap.size w w' := by
  cases h0 : (txB e.tx)
  · skip
    have hv : (linksUndoB e) = false := by unfold linksUndoB; simp [h0]
    rw [hv]; clear hv
    have C0 : Hid (∀ w, Calls Try.prog 59 #[.int .i64 e.tx] w fun e' w' => e' = .returned (.bool false) ∧ w = w') := Lib.hid (fun w => by have := validTx_any e.tx w; rwa [h0] at this)
    clear h0
    go_enter Try.func46, Try.ntmps46
    go_wp2_with (first
      | (refine wp_boxEntW e rfl rfl rfl ?_; intro w0 hP hb0 hz0; have HC := Lib.hid hP; have HB := Lib.hid hb0; obtain ⟨a0, a1, a2, a3, a4, a5, a6, a7, a8, a9, a10, a11, a12⟩ := hP.all; clear hP hb0 hz0)
      | (go_at_call 59; refine (C0.out _).mono ?_; rintro e1 w1 ⟨rfl, rfl⟩))
    go_ret
    exact ⟨rfl, HB.out⟩
  by_cases h1 : 1 ≤ e.ref
  rotate_left
  · skip
    have hv : (linksUndoB e) = false := by unfold linksUndoB; simp [h0, h1]
    rw [hv]; clear hv
    have C0 : Hid (∀ w, Calls Try.prog 59 #[.int .i64 e.tx] w fun e' w' => e' = .returned (.bool true) ∧ w = w') := Lib.hid (fun w => by have := validTx_any e.tx w; rwa [h0] at this)
    have d1 : decide (1 ≤ e.ref) = false := by simpa using h1
    clear h0
    go_enter Try.func46, Try.ntmps46
    go_wp2_with (first
      | (refine wp_boxEntW e rfl rfl rfl ?_; intro w0 hP hb0 hz0; have HC := Lib.hid hP; have HB := Lib.hid hb0; obtain ⟨a0, a1, a2, a3, a4, a5, a6, a7, a8, a9, a10, a11, a12⟩ := hP.all; clear hP hb0 hz0)
      | (go_at_call 59; refine (C0.out _).mono ?_; rintro e1 w1 ⟨rfl, rfl⟩))
    go_ret
    exact ⟨rfl, HB.out⟩
  by_cases h2 : e.ref ≤ e.prevTx
  rotate_left
  · skip
    have hv : (linksUndoB e) = false := by unfold linksUndoB; simp [h0, h1, h2]
    rw [hv]; clear hv
    have C0 : Hid (∀ w, Calls Try.prog 59 #[.int .i64 e.tx] w fun e' w' => e' = .returned (.bool true) ∧ w = w') := Lib.hid (fun w => by have := validTx_any e.tx w; rwa [h0] at this)
    have d2 : decide (e.ref ≤ e.prevTx) = false := by simpa using h2
    clear h0
    go_enter Try.func46, Try.ntmps46
    go_wp2_with (first
      | (refine wp_boxEntW e rfl rfl rfl ?_; intro w0 hP hb0 hz0; have HC := Lib.hid hP; have HB := Lib.hid hb0; obtain ⟨a0, a1, a2, a3, a4, a5, a6, a7, a8, a9, a10, a11, a12⟩ := hP.all; clear hP hb0 hz0)
      | (go_at_call 59; refine (C0.out _).mono ?_; rintro e1 w1 ⟨rfl, rfl⟩))
    go_ret
    exact ⟨rfl, HB.out⟩
  have hv : (linksUndoB e) = true := by unfold linksUndoB; simp [h0, h1, h2]
  rw [hv]; clear hv
  have C0 : Hid (∀ w, Calls Try.prog 59 #[.int .i64 e.tx] w fun e' w' => e' = .returned (.bool true) ∧ w = w') := Lib.hid (fun w => by have := validTx_any e.tx w; rwa [h0] at this)
  clear h0
  go_enter Try.func46, Try.ntmps46
  go_wp2_with (first
    | (refine wp_boxEntW e rfl rfl rfl ?_; intro w0 hP hb0 hz0; have HC := Lib.hid hP; have HB := Lib.hid hb0; obtain ⟨a0, a1, a2, a3, a4, a5, a6, a7, a8, a9, a10, a11, a12⟩ := hP.all; clear hP hb0 hz0)
    | (go_at_call 59; refine (C0.out _).mono ?_; rintro e1 w1 ⟨rfl, rfl⟩))
  go_ret
  exact ⟨rfl, HB.out⟩

def linksTurnB (e : Ent) : Bool := txB e.tx && (decide (0 < e.prevTx) && ((e.prevPage == 0) && (e.ref == 0)))
theorem linksTurn_any (e : Ent) (w : World) :
    Calls Try.prog 47 #[.agg e.arr] w fun e' w' => e' = .returned (.bool (linksTurnB e)) ∧ Below w.heap.size w w' := by
  cases h0 : (txB e.tx)
  · skip
    have hv : (linksTurnB e) = false := by unfold linksTurnB; simp [h0]
    rw [hv]; clear hv
    have C0 : Hid (∀ w, Calls Try.prog 59 #[.int .i64 e.tx] w fun e' w' => e' = .returned (.bool false) ∧ w = w') := Lib.hid (fun w => by have := validTx_any e.tx w; rwa [h0] at this)
    clear h0
    go_enter Try.func47, Try.ntmps47
    go_wp2_with (first
      | (refine wp_boxEntW e rfl rfl rfl ?_; intro w0 hP hb0 hz0; have HC := Lib.hid hP; have HB := Lib.hid hb0; obtain ⟨a0, a1, a2, a3, a4, a5, a6, a7, a8, a9, a10, a11, a12⟩ := hP.all; clear hP hb0 hz0)
      | (go_at_call 59; refine (C0.out _).mono ?_; rintro e1 w1 ⟨rfl, rfl⟩))
    go_ret
    exact ⟨rfl, HB.out⟩
  by_cases h1 : 0 < e.prevTx
  rotate_left
  · skip
    have hv : (linksTurnB e) = false := by unfold linksTurnB; simp [h0, h1]
    rw [hv]; clear hv
    have C0 : Hid (∀ w, Calls Try.prog 59 #[.int .i64 e.tx] w fun e' w' => e' = .returned (.bool true) ∧ w = w') := Lib.hid (fun w => by have := validTx_any e.tx w; rwa [h0] at this)
    have d1 : decide (0 < e.prevTx) = false := by simpa using h1
    clear h0
    go_enter Try.func47, Try.ntmps47
    go_wp2_with (first
      | (refine wp_boxEntW e rfl rfl rfl ?_; intro w0 hP hb0 hz0; have HC := Lib.hid hP; have HB := Lib.hid hb0; obtain ⟨a0, a1, a2, a3, a4, a5, a6, a7, a8, a9, a10, a11, a12⟩ := hP.all; clear hP hb0 hz0)
      | (go_at_call 59; refine (C0.out _).mono ?_; rintro e1 w1 ⟨rfl, rfl⟩))
    go_ret
    exact ⟨rfl, HB.out⟩
  cases h2 : (e.prevPage == 0)
  · skip
    have hv : (linksTurnB e) = false := by unfold linksTurnB; simp [h0, h1, h2]
    rw [hv]; clear hv
    have C0 : Hid (∀ w, Calls Try.prog 59 #[.int .i64 e.tx] w fun e' w' => e' = .returned (.bool true) ∧ w = w') := Lib.hid (fun w => by have := validTx_any e.tx w; rwa [h0] at this)
    clear h0
    go_enter Try.func47, Try.ntmps47
    go_wp2_with (first
      | (refine wp_boxEntW e rfl rfl rfl ?_; intro w0 hP hb0 hz0; have HC := Lib.hid hP; have HB := Lib.hid hb0; obtain ⟨a0, a1, a2, a3, a4, a5, a6, a7, a8, a9, a10, a11, a12⟩ := hP.all; clear hP hb0 hz0)
      | (go_at_call 59; refine (C0.out _).mono ?_; rintro e1 w1 ⟨rfl, rfl⟩))
    go_ret
    exact ⟨rfl, HB.out⟩
  cases h3 : (e.ref == 0)
  · skip
    have hv : (linksTurnB e) = false := by unfold linksTurnB; simp [h0, h1, h2, h3]
    rw [hv]; clear hv
    have C0 : Hid (∀ w, Calls Try.prog 59 #[.int .i64 e.tx] w fun e' w' => e' = .returned (.bool true) ∧ w = w') := Lib.hid (fun w => by have := validTx_any e.tx w; rwa [h0] at this)
    clear h0
    go_enter Try.func47, Try.ntmps47
    go_wp2_with (first
      | (refine wp_boxEntW e rfl rfl rfl ?_; intro w0 hP hb0 hz0; have HC := Lib.hid hP; have HB := Lib.hid hb0; obtain ⟨a0, a1, a2, a3, a4, a5, a6, a7, a8, a9, a10, a11, a12⟩ := hP.all; clear hP hb0 hz0)
      | (go_at_call 59; refine (C0.out _).mono ?_; rintro e1 w1 ⟨rfl, rfl⟩))
    go_ret
    exact ⟨rfl, HB.out⟩
  have hv : (linksTurnB e) = true := by unfold linksTurnB; simp [h0, h1, h2, h3]
  rw [hv]; clear hv
  have C0 : Hid (∀ w, Calls Try.prog 59 #[.int .i64 e.tx] w fun e' w' => e' = .returned (.bool true) ∧ w = w') := Lib.hid (fun w => by have := validTx_any e.tx w; rwa [h0] at this)
  clear h0
  go_enter Try.func47, Try.ntmps47
  go_wp2_with (first
    | (refine wp_boxEntW e rfl rfl rfl ?_; intro w0 hP hb0 hz0; have HC := Lib.hid hP; have HB := Lib.hid hb0; obtain ⟨a0, a1, a2, a3, a4, a5, a6, a7, a8, a9, a10, a11, a12⟩ := hP.all; clear hP hb0 hz0)
    | (go_at_call 59; refine (C0.out _).mono ?_; rintro e1 w1 ⟨rfl, rfl⟩))
  go_ret
  exact ⟨rfl, HB.out⟩

def linksPageB (e : Ent) : Bool := (e.tx == 0) && ((e.prevTx == 0) && (e.prevPage == 0))
theorem linksPage_any (e : Ent) (w : World) :
    Calls Try.prog 51 #[.agg e.arr] w fun e' w' => e' = .returned (.bool (linksPageB e)) ∧ Below w.heap.size w w' := by
  cases h0 : (e.tx == 0)
  · skip
    have hv : (linksPageB e) = false := by unfold linksPageB; simp [h0]
    rw [hv]; clear hv
    go_enter Try.func51, Try.ntmps51
    go_wp2_with (first
      | (refine wp_boxEntW e rfl rfl rfl ?_; intro w0 hP hb0 hz0; have HC := Lib.hid hP; have HB := Lib.hid hb0; obtain ⟨a0, a1, a2, a3, a4, a5, a6, a7, a8, a9, a10, a11, a12⟩ := hP.all; clear hP hb0 hz0))
    go_ret
    exact ⟨rfl, HB.out⟩
  cases h1 : (e.prevTx == 0)
  · skip
    have hv : (linksPageB e) = false := by unfold linksPageB; simp [h0, h1]
    rw [hv]; clear hv
    go_enter Try.func51, Try.ntmps51
    go_wp2_with (first
      | (refine wp_boxEntW e rfl rfl rfl ?_; intro w0 hP hb0 hz0; have HC := Lib.hid hP; have HB := Lib.hid hb0; obtain ⟨a0, a1, a2, a3, a4, a5, a6, a7, a8, a9, a10, a11, a12⟩ := hP.all; clear hP hb0 hz0))
    go_ret
    exact ⟨rfl, HB.out⟩
  cases h2 : (e.prevPage == 0)
  · skip
    have hv : (linksPageB e) = false := by unfold linksPageB; simp [h0, h1, h2]
    rw [hv]; clear hv
    go_enter Try.func51, Try.ntmps51
    go_wp2_with (first
      | (refine wp_boxEntW e rfl rfl rfl ?_; intro w0 hP hb0 hz0; have HC := Lib.hid hP; have HB := Lib.hid hb0; obtain ⟨a0, a1, a2, a3, a4, a5, a6, a7, a8, a9, a10, a11, a12⟩ := hP.all; clear hP hb0 hz0))
    go_ret
    exact ⟨rfl, HB.out⟩
  have hv : (linksPageB e) = true := by unfold linksPageB; simp [h0, h1, h2]
  rw [hv]; clear hv
  go_enter Try.func51, Try.ntmps51
  go_wp2_with (first
    | (refine wp_boxEntW e rfl rfl rfl ?_; intro w0 hP hb0 hz0; have HC := Lib.hid hP; have HB := Lib.hid hb0; obtain ⟨a0, a1, a2, a3, a4, a5, a6, a7, a8, a9, a10, a11, a12⟩ := hP.all; clear hP hb0 hz0))
  go_ret
  exact ⟨rfl, HB.out⟩

def linksNothingB (e : Ent) : Bool := linksPageB e && (e.ref == 0)
theorem linksNothing_any (e : Ent) (w : World) :
    Calls Try.prog 49 #[.agg e.arr] w fun e' w' => e' = .returned (.bool (linksNothingB e)) ∧ Below w.heap.size w w' := by
  cases h0 : (linksPageB e)
  · skip
    have hv : (linksNothingB e) = false := by unfold linksNothingB; simp [h0]
    rw [hv]; clear hv
    have C0 : Hid (∀ w, Calls Try.prog 51 #[.agg e.arr] w fun e' w' => e' = .returned (.bool false) ∧ Below w.heap.size w w') := Lib.hid (fun w => by have := linksPage_any e w; rwa [h0] at this)
    clear h0
    go_enter Try.func49, Try.ntmps49
    go_wp2_with (first
      | (refine wp_boxEntW e rfl rfl rfl ?_; intro w0 hP hb0 hz0; have HC := Lib.hid hP; have HB := Lib.hid hb0; obtain ⟨a0, a1, a2, a3, a4, a5, a6, a7, a8, a9, a10, a11, a12⟩ := hP.all; clear hP hb0 hz0)
      | (refine wp_loadEnt e HC.out rfl rfl rfl ?_)
      | (go_at_call 51; refine (C0.out _).mono ?_; rintro e1 w1 ⟨rfl, hb1⟩; have HB1 := Lib.hid (HB.out.trans (hb1.mono HB.out.size)); obtain ⟨b0, b1, b2, b3, b4, b5, b6, b7, b8, b9, b10, b11, b12⟩ := EnAt.all (HC.out.keep hb1); clear hb1 a0 a1 a2 a3 a4 a5 a6 a7 a8 a9 a10 a11 a12))
    go_ret
    exact ⟨rfl, HB1.out⟩
  cases h1 : (e.ref == 0)
  · skip
    have hv : (linksNothingB e) = false := by unfold linksNothingB; simp [h0, h1]
    rw [hv]; clear hv
    have C0 : Hid (∀ w, Calls Try.prog 51 #[.agg e.arr] w fun e' w' => e' = .returned (.bool true) ∧ Below w.heap.size w w') := Lib.hid (fun w => by have := linksPage_any e w; rwa [h0] at this)
    clear h0
    go_enter Try.func49, Try.ntmps49
    go_wp2_with (first
      | (refine wp_boxEntW e rfl rfl rfl ?_; intro w0 hP hb0 hz0; have HC := Lib.hid hP; have HB := Lib.hid hb0; obtain ⟨a0, a1, a2, a3, a4, a5, a6, a7, a8, a9, a10, a11, a12⟩ := hP.all; clear hP hb0 hz0)
      | (refine wp_loadEnt e HC.out rfl rfl rfl ?_)
      | (go_at_call 51; refine (C0.out _).mono ?_; rintro e1 w1 ⟨rfl, hb1⟩; have HB1 := Lib.hid (HB.out.trans (hb1.mono HB.out.size)); obtain ⟨b0, b1, b2, b3, b4, b5, b6, b7, b8, b9, b10, b11, b12⟩ := EnAt.all (HC.out.keep hb1); clear hb1 a0 a1 a2 a3 a4 a5 a6 a7 a8 a9 a10 a11 a12))
    go_ret
    exact ⟨rfl, HB1.out⟩
  have hv : (linksNothingB e) = true := by unfold linksNothingB; simp [h0, h1]
  rw [hv]; clear hv
  have C0 : Hid (∀ w, Calls Try.prog 51 #[.agg e.arr] w fun e' w' => e' = .returned (.bool true) ∧ Below w.heap.size w w') := Lib.hid (fun w => by have := linksPage_any e w; rwa [h0] at this)
  clear h0
  go_enter Try.func49, Try.ntmps49
  go_wp2_with (first
    | (refine wp_boxEntW e rfl rfl rfl ?_; intro w0 hP hb0 hz0; have HC := Lib.hid hP; have HB := Lib.hid hb0; obtain ⟨a0, a1, a2, a3, a4, a5, a6, a7, a8, a9, a10, a11, a12⟩ := hP.all; clear hP hb0 hz0)
    | (refine wp_loadEnt e HC.out rfl rfl rfl ?_)
    | (go_at_call 51; refine (C0.out _).mono ?_; rintro e1 w1 ⟨rfl, hb1⟩; have HB1 := Lib.hid (HB.out.trans (hb1.mono HB.out.size)); obtain ⟨b0, b1, b2, b3, b4, b5, b6, b7, b8, b9, b10, b11, b12⟩ := EnAt.all (HC.out.keep hb1); clear hb1 a0 a1 a2 a3 a4 a5 a6 a7 a8 a9 a10 a11 a12))
  go_ret
  exact ⟨rfl, HB1.out⟩

def noBlobB (s : ByteArray) : Bool := s.toList == []
theorem noBlob_any (s : ByteArray) (w : World) : Calls Try.prog 45 #[.string s] w fun e' w' => e' = .returned (.bool (noBlobB s)) ∧ w = w' := by
  go_enter Try.func45, Try.ntmps45
  go_wp2
  go_ret
  exact ⟨ret_bool (by unfold noBlobB; cases s.toList <;> rfl), rfl⟩
def someBlobB (s : ByteArray) : Bool := decide ((s.size : Int) ≤ 8192)
theorem someBlob_any (s : ByteArray) (w : World) (_hs : s.size ≤ 9223372036854775807) : Calls Try.prog 50 #[.string s] w fun e' w' => e' = .returned (.bool (someBlobB s)) ∧ w = w' := by
  go_enter Try.func50, Try.ntmps50
  go_wp2
  go_ret
  exact ⟨ret_bool rfl, rfl⟩
theorem chg_eql (c d : Chg) (W : World) : (binOp .eql 26 (.agg c.arr) (.agg d.arr)).run Try.prog W = .ok (.bool (sameH c d)) W := by
  rw [run_eql_struct, chg_eqIn]; rfl
def noChangeB (c : Chg) : Bool := sameH c chg0
theorem noChange_any (c : Chg) (w : World) : Calls Try.prog 48 #[.agg c.arr] w fun e' w' => e' = .returned (.bool (noChangeB c)) ∧ Below w.heap.size w w' := by
  have he : ∀ W : World, (binOp .eql 26 (.agg c.arr) (.agg #[.int .i64 0, .int .i64 0, .bool false, .string ⟨#[]⟩, .bool false, .string ⟨#[]⟩])).run Try.prog W = .ok (.bool (noChangeB c)) W := fun W => chg_eql c chg0 W
  generalize noChangeB c = z at he
  go_enter Try.func48, Try.ntmps48
  go_wp2_with (first
    | (refine wp_boxChgW c rfl rfl rfl ?_; intro w0 hP hb0 hz0; have HC := Lib.hid hP; have HB := Lib.hid hb0; obtain ⟨a0, a1, a2, a3, a4, a5⟩ := hP.all; clear hP hb0 hz0)
    | (refine wp_loadChg c HC.out rfl rfl rfl ?_))
  go_ret
  exact ⟨rfl, HB.out⟩
def pageAloneB (c : Chg) : Bool := decide (0 ≤ c.page) && (decide (c.page < 64) && sameH c ⟨c.page, 0, noCell, noCell⟩)
theorem pageAlone_any (c : Chg) (w : World) : Calls Try.prog 52 #[.agg c.arr] w fun e' w' => e' = .returned (.bool (pageAloneB c)) ∧ Below w.heap.size w w' := by
  by_cases h0 : 0 ≤ c.page
  rotate_left
  · have hv : pageAloneB c = false := by unfold pageAloneB; simp [h0]
    have d0 : decide (0 ≤ c.page) = false := by simpa using h0
    rw [hv]; clear hv
    go_enter Try.func52, Try.ntmps52
    go_wp2_with (first
      | (refine wp_boxChgW c rfl rfl rfl ?_; intro w0 hP hb0 hz0; have HC := Lib.hid hP; have HB := Lib.hid hb0; obtain ⟨a0, a1, a2, a3, a4, a5⟩ := hP.all; clear hP hb0 hz0))
    go_ret
    exact ⟨rfl, HB.out⟩
  by_cases h1 : c.page < 64
  rotate_left
  · have hv : pageAloneB c = false := by unfold pageAloneB; simp [h1]
    have d0 : decide (c.page < 64) = false := by simpa using h1
    rw [hv]; clear hv
    go_enter Try.func52, Try.ntmps52
    go_wp2_with (first
      | (refine wp_boxChgW c rfl rfl rfl ?_; intro w0 hP hb0 hz0; have HC := Lib.hid hP; have HB := Lib.hid hb0; obtain ⟨a0, a1, a2, a3, a4, a5⟩ := hP.all; clear hP hb0 hz0))
    go_ret
    exact ⟨rfl, HB.out⟩
  have hv : pageAloneB c = sameH c ⟨c.page, 0, noCell, noCell⟩ := by unfold pageAloneB; simp [h0, h1]
  have he : ∀ W : World, (binOp .eql 26 (.agg c.arr) (.agg #[.int .i64 c.page, .int .i64 0, .bool false, .string ⟨#[]⟩, .bool false, .string ⟨#[]⟩])).run Try.prog W = .ok (.bool (sameH c ⟨c.page, 0, noCell, noCell⟩)) W := fun W => chg_eql c ⟨c.page, 0, noCell, noCell⟩ W
  rw [hv]; clear hv
  generalize sameH c ⟨c.page, 0, noCell, noCell⟩ = z at he ⊢
  go_enter Try.func52, Try.ntmps52
  go_wp2_with (first
    | (refine wp_boxChgW c rfl rfl rfl ?_; intro w0 hP hb0 hz0; have HC := Lib.hid hP; have HB := Lib.hid hb0; obtain ⟨a0, a1, a2, a3, a4, a5⟩ := hP.all; clear hP hb0 hz0)
    | (refine wp_loadChg c HC.out rfl rfl rfl ?_))
  go_ret
  exact ⟨rfl, HB.out⟩
def changesB (e : Ent) : Bool := (e.kind == 1) || (e.kind == 2)
theorem ret_or {a b : Bool} (h : a = b) : Ending.returned (.bool a) = .returned (.bool b) := by rw [h]
theorem changes_any (e : Ent) (w : World) : Calls Try.prog 16 #[.agg e.arr] w fun e' w' => e' = .returned (.bool (changesB e)) ∧ Below w.heap.size w w' := by
  unfold changesB
  cases h : (e.kind == 1)
  all_goals
    go_enter Try.func16, Try.ntmps16
    go_wp2_with (first
      | (refine wp_boxEntW e rfl rfl rfl ?_; intro w0 hP hb0 hz0; have HC := Lib.hid hP; have HB := Lib.hid hb0; obtain ⟨a0, a1, a2, a3, a4, a5, a6, a7, a8, a9, a10, a11, a12⟩ := hP.all; clear hP hb0 hz0))
    go_ret
    exact ⟨rfl, HB.out⟩
theorem refChanges_any (e : Ent) (w : World) : Calls Try.prog 17 #[.agg e.arr] w fun e' w' => e' = .returned (.bool (changesB e)) ∧ Below w.heap.size w w' := by
  unfold changesB
  cases h : (e.kind == 1)
  all_goals
    go_enter Try.func17, Try.ntmps17
    go_wp2_with (first
      | (refine wp_boxEntW e rfl rfl rfl ?_; intro w0 hP hb0 hz0; have HC := Lib.hid hP; have HB := Lib.hid hb0; obtain ⟨a0, a1, a2, a3, a4, a5, a6, a7, a8, a9, a10, a11, a12⟩ := hP.all; clear hP hb0 hz0))
    go_ret
    exact ⟨rfl, HB.out⟩
end Go.Proofs.Ytiojpfljnbdonaa.ob
