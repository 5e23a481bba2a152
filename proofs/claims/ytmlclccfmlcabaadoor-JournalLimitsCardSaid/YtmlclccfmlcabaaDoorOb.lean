/- The rules of the program: what each part allows, the table, Valid, Changes. -/
import Derived.Test.YtmlclccfmlcabaaDoorOa
namespace Go.Proofs.YtmlclccfmlcabaaDoor.ob
open Go.ChangeShapes Go.WideShapes Go.ChangeAt Go.RowKit Go.Proofs.YtmlclccfmlcabaaDoor.cx Go.Proofs.YtmlclccfmlcabaaDoor.ra Go.Proofs.YtmlclccfmlcabaaDoor.rb Go.Proofs.YtmlclccfmlcabaaDoor.rc Go.Proofs.YtmlclccfmlcabaaDoor.da Go.Proofs.YtmlclccfmlcabaaDoor.ea Go.Proofs.YtmlclccfmlcabaaDoor.eb Go.Proofs.YtmlclccfmlcabaaDoor.ed Go.Proofs.YtmlclccfmlcabaaDoor.fb Go.Proofs.YtmlclccfmlcabaaDoor.ka Go.Proofs.YtmlclccfmlcabaaDoor.kb Go.Proofs.YtmlclccfmlcabaaDoor.kg Go.Proofs.YtmlclccfmlcabaaDoor.kj Go.Proofs.YtmlclccfmlcabaaDoor.oa

def txB (n : Int) : Bool := decide (1 ≤ n) && decide (n ≤ 1073741824)
theorem validTx_any (n : Int) (w : World) :
    Calls Tryd.prog 47 #[.int .i64 n] w fun e' w' => e' = .returned (.bool (txB n)) ∧ w = w' := by
  by_cases h0 : 1 ≤ n
  rotate_left
  · skip
    have hv : (txB n) = false := by unfold txB; simp [h0]
    rw [hv]; clear hv
    have d0 : decide (1 ≤ n) = false := by simpa using h0
    go_enter Tryd.func47, Tryd.ntmps47
    go_wp2
    go_ret
    exact ⟨rfl, rfl⟩
  by_cases h1 : n ≤ 1073741824
  rotate_left
  · skip
    have hv : (txB n) = false := by unfold txB; simp [h0, h1]
    rw [hv]; clear hv
    have d1 : decide (n ≤ 1073741824) = false := by simpa using h1
    go_enter Tryd.func47, Tryd.ntmps47
    go_wp2
    go_ret
    exact ⟨rfl, rfl⟩
  have hv : (txB n) = true := by unfold txB; simp [h0, h1]
  rw [hv]; clear hv
  go_enter Tryd.func47, Tryd.ntmps47
  go_wp2
  go_ret
  exact ⟨rfl, rfl⟩

def earlyB (n m : Int) : Bool := decide (0 ≤ n) && decide (n < m)
theorem validEarlier_any (n m : Int) (w : World) :
    Calls Tryd.prog 32 #[.int .i64 n, .int .i64 m] w fun e' w' => e' = .returned (.bool (earlyB n m)) ∧ w = w' := by
  by_cases h0 : 0 ≤ n
  rotate_left
  · skip
    have hv : (earlyB n m) = false := by unfold earlyB; simp [h0]
    rw [hv]; clear hv
    have d0 : decide (0 ≤ n) = false := by simpa using h0
    go_enter Tryd.func32, Tryd.ntmps32
    go_wp2
    go_ret
    exact ⟨rfl, rfl⟩
  by_cases h1 : n < m
  rotate_left
  · skip
    have hv : (earlyB n m) = false := by unfold earlyB; simp [h0, h1]
    rw [hv]; clear hv
    have d1 : decide (n < m) = false := by simpa using h1
    go_enter Tryd.func32, Tryd.ntmps32
    go_wp2
    go_ret
    exact ⟨rfl, rfl⟩
  have hv : (earlyB n m) = true := by unfold earlyB; simp [h0, h1]
  rw [hv]; clear hv
  go_enter Tryd.func32, Tryd.ntmps32
  go_wp2
  go_ret
  exact ⟨rfl, rfl⟩

def linksChangeB (e : Ent) : Bool := txB e.tx && (e.ref == 0)
theorem linksChange_any (e : Ent) (w : World) :
    Calls Tryd.prog 33 #[.agg e.arr] w fun e' w' => e' = .returned (.bool (linksChangeB e)) ∧ Below w.heap.size w w' := by
  cases h0 : (txB e.tx)
  · skip
    have hv : (linksChangeB e) = false := by unfold linksChangeB; simp [h0]
    rw [hv]; clear hv
    have C0 : Hid (∀ w, Calls Tryd.prog 47 #[.int .i64 e.tx] w fun e' w' => e' = .returned (.bool false) ∧ w = w') := Lib.hid (fun w => by have := validTx_any e.tx w; rwa [h0] at this)
    clear h0
    go_enter Tryd.func33, Tryd.ntmps33
    go_wp2_with (first
      | (refine wp_boxEntW e rfl rfl rfl ?_; intro w0 hP hb0 hz0; have HC := Lib.hid hP; have HB := Lib.hid hb0; obtain ⟨a0, a1, a2, a3, a4, a5, a6, a7, a8, a9, a10, a11, a12⟩ := hP.all; clear hP hb0 hz0)
      | (go_at_call 47; refine (C0.out _).mono ?_; rintro e1 w1 ⟨rfl, rfl⟩))
    go_ret
    exact ⟨rfl, HB.out⟩
  cases h1 : (e.ref == 0)
  · skip
    have hv : (linksChangeB e) = false := by unfold linksChangeB; simp [h0, h1]
    rw [hv]; clear hv
    have C0 : Hid (∀ w, Calls Tryd.prog 47 #[.int .i64 e.tx] w fun e' w' => e' = .returned (.bool true) ∧ w = w') := Lib.hid (fun w => by have := validTx_any e.tx w; rwa [h0] at this)
    clear h0
    go_enter Tryd.func33, Tryd.ntmps33
    go_wp2_with (first
      | (refine wp_boxEntW e rfl rfl rfl ?_; intro w0 hP hb0 hz0; have HC := Lib.hid hP; have HB := Lib.hid hb0; obtain ⟨a0, a1, a2, a3, a4, a5, a6, a7, a8, a9, a10, a11, a12⟩ := hP.all; clear hP hb0 hz0)
      | (go_at_call 47; refine (C0.out _).mono ?_; rintro e1 w1 ⟨rfl, rfl⟩))
    go_ret
    exact ⟨rfl, HB.out⟩
  have hv : (linksChangeB e) = true := by unfold linksChangeB; simp [h0, h1]
  rw [hv]; clear hv
  have C0 : Hid (∀ w, Calls Tryd.prog 47 #[.int .i64 e.tx] w fun e' w' => e' = .returned (.bool true) ∧ w = w') := Lib.hid (fun w => by have := validTx_any e.tx w; rwa [h0] at this)
  clear h0
  go_enter Tryd.func33, Tryd.ntmps33
  go_wp2_with (first
    | (refine wp_boxEntW e rfl rfl rfl ?_; intro w0 hP hb0 hz0; have HC := Lib.hid hP; have HB := Lib.hid hb0; obtain ⟨a0, a1, a2, a3, a4, a5, a6, a7, a8, a9, a10, a11, a12⟩ := hP.all; clear hP hb0 hz0)
    | (go_at_call 47; refine (C0.out _).mono ?_; rintro e1 w1 ⟨rfl, rfl⟩))
  go_ret
  exact ⟨rfl, HB.out⟩

def linksUndoB (e : Ent) : Bool := txB e.tx && (decide (1 ≤ e.ref) && decide (e.ref ≤ e.prevTx))
theorem linksUndo_any (e : Ent) (w : World) :
    Calls Tryd.prog 36 #[.agg e.arr] w fun e' w' => e' = .returned (.bool (linksUndoB e)) ∧ Below w.heap.size w w' := by
  cases h0 : (txB e.tx)
  · skip
    have hv : (linksUndoB e) = false := by unfold linksUndoB; simp [h0]
    rw [hv]; clear hv
    have C0 : Hid (∀ w, Calls Tryd.prog 47 #[.int .i64 e.tx] w fun e' w' => e' = .returned (.bool false) ∧ w = w') := Lib.hid (fun w => by have := validTx_any e.tx w; rwa [h0] at this)
    clear h0
    go_enter Tryd.func36, Tryd.ntmps36
    go_wp2_with (first
      | (refine wp_boxEntW e rfl rfl rfl ?_; intro w0 hP hb0 hz0; have HC := Lib.hid hP; have HB := Lib.hid hb0; obtain ⟨a0, a1, a2, a3, a4, a5, a6, a7, a8, a9, a10, a11, a12⟩ := hP.all; clear hP hb0 hz0)
      | (go_at_call 47; refine (C0.out _).mono ?_; rintro e1 w1 ⟨rfl, rfl⟩))
    go_ret
    exact ⟨rfl, HB.out⟩
  by_cases h1 : 1 ≤ e.ref
  rotate_left
  · skip
    have hv : (linksUndoB e) = false := by unfold linksUndoB; simp [h0, h1]
    rw [hv]; clear hv
    have C0 : Hid (∀ w, Calls Tryd.prog 47 #[.int .i64 e.tx] w fun e' w' => e' = .returned (.bool true) ∧ w = w') := Lib.hid (fun w => by have := validTx_any e.tx w; rwa [h0] at this)
    have d1 : decide (1 ≤ e.ref) = false := by simpa using h1
    clear h0
    go_enter Tryd.func36, Tryd.ntmps36
    go_wp2_with (first
      | (refine wp_boxEntW e rfl rfl rfl ?_; intro w0 hP hb0 hz0; have HC := Lib.hid hP; have HB := Lib.hid hb0; obtain ⟨a0, a1, a2, a3, a4, a5, a6, a7, a8, a9, a10, a11, a12⟩ := hP.all; clear hP hb0 hz0)
      | (go_at_call 47; refine (C0.out _).mono ?_; rintro e1 w1 ⟨rfl, rfl⟩))
    go_ret
    exact ⟨rfl, HB.out⟩
  by_cases h2 : e.ref ≤ e.prevTx
  rotate_left
  · skip
    have hv : (linksUndoB e) = false := by unfold linksUndoB; simp [h0, h1, h2]
    rw [hv]; clear hv
    have C0 : Hid (∀ w, Calls Tryd.prog 47 #[.int .i64 e.tx] w fun e' w' => e' = .returned (.bool true) ∧ w = w') := Lib.hid (fun w => by have := validTx_any e.tx w; rwa [h0] at this)
    have d2 : decide (e.ref ≤ e.prevTx) = false := by simpa using h2
    clear h0
    go_enter Tryd.func36, Tryd.ntmps36
    go_wp2_with (first
      | (refine wp_boxEntW e rfl rfl rfl ?_; intro w0 hP hb0 hz0; have HC := Lib.hid hP; have HB := Lib.hid hb0; obtain ⟨a0, a1, a2, a3, a4, a5, a6, a7, a8, a9, a10, a11, a12⟩ := hP.all; clear hP hb0 hz0)
      | (go_at_call 47; refine (C0.out _).mono ?_; rintro e1 w1 ⟨rfl, rfl⟩))
    go_ret
    exact ⟨rfl, HB.out⟩
  have hv : (linksUndoB e) = true := by unfold linksUndoB; simp [h0, h1, h2]
  rw [hv]; clear hv
  have C0 : Hid (∀ w, Calls Tryd.prog 47 #[.int .i64 e.tx] w fun e' w' => e' = .returned (.bool true) ∧ w = w') := Lib.hid (fun w => by have := validTx_any e.tx w; rwa [h0] at this)
  clear h0
  go_enter Tryd.func36, Tryd.ntmps36
  go_wp2_with (first
    | (refine wp_boxEntW e rfl rfl rfl ?_; intro w0 hP hb0 hz0; have HC := Lib.hid hP; have HB := Lib.hid hb0; obtain ⟨a0, a1, a2, a3, a4, a5, a6, a7, a8, a9, a10, a11, a12⟩ := hP.all; clear hP hb0 hz0)
    | (go_at_call 47; refine (C0.out _).mono ?_; rintro e1 w1 ⟨rfl, rfl⟩))
  go_ret
  exact ⟨rfl, HB.out⟩

def linksTurnB (e : Ent) : Bool := txB e.tx && (decide (0 < e.prevTx) && ((e.prevPage == 0) && (e.ref == 0)))
theorem linksTurn_any (e : Ent) (w : World) :
    Calls Tryd.prog 37 #[.agg e.arr] w fun e' w' => e' = .returned (.bool (linksTurnB e)) ∧ Below w.heap.size w w' := by
  cases h0 : (txB e.tx)
  · skip
    have hv : (linksTurnB e) = false := by unfold linksTurnB; simp [h0]
    rw [hv]; clear hv
    have C0 : Hid (∀ w, Calls Tryd.prog 47 #[.int .i64 e.tx] w fun e' w' => e' = .returned (.bool false) ∧ w = w') := Lib.hid (fun w => by have := validTx_any e.tx w; rwa [h0] at this)
    clear h0
    go_enter Tryd.func37, Tryd.ntmps37
    go_wp2_with (first
      | (refine wp_boxEntW e rfl rfl rfl ?_; intro w0 hP hb0 hz0; have HC := Lib.hid hP; have HB := Lib.hid hb0; obtain ⟨a0, a1, a2, a3, a4, a5, a6, a7, a8, a9, a10, a11, a12⟩ := hP.all; clear hP hb0 hz0)
      | (go_at_call 47; refine (C0.out _).mono ?_; rintro e1 w1 ⟨rfl, rfl⟩))
    go_ret
    exact ⟨rfl, HB.out⟩
  by_cases h1 : 0 < e.prevTx
  rotate_left
  · skip
    have hv : (linksTurnB e) = false := by unfold linksTurnB; simp [h0, h1]
    rw [hv]; clear hv
    have C0 : Hid (∀ w, Calls Tryd.prog 47 #[.int .i64 e.tx] w fun e' w' => e' = .returned (.bool true) ∧ w = w') := Lib.hid (fun w => by have := validTx_any e.tx w; rwa [h0] at this)
    have d1 : decide (0 < e.prevTx) = false := by simpa using h1
    clear h0
    go_enter Tryd.func37, Tryd.ntmps37
    go_wp2_with (first
      | (refine wp_boxEntW e rfl rfl rfl ?_; intro w0 hP hb0 hz0; have HC := Lib.hid hP; have HB := Lib.hid hb0; obtain ⟨a0, a1, a2, a3, a4, a5, a6, a7, a8, a9, a10, a11, a12⟩ := hP.all; clear hP hb0 hz0)
      | (go_at_call 47; refine (C0.out _).mono ?_; rintro e1 w1 ⟨rfl, rfl⟩))
    go_ret
    exact ⟨rfl, HB.out⟩
  cases h2 : (e.prevPage == 0)
  · skip
    have hv : (linksTurnB e) = false := by unfold linksTurnB; simp [h0, h1, h2]
    rw [hv]; clear hv
    have C0 : Hid (∀ w, Calls Tryd.prog 47 #[.int .i64 e.tx] w fun e' w' => e' = .returned (.bool true) ∧ w = w') := Lib.hid (fun w => by have := validTx_any e.tx w; rwa [h0] at this)
    clear h0
    go_enter Tryd.func37, Tryd.ntmps37
    go_wp2_with (first
      | (refine wp_boxEntW e rfl rfl rfl ?_; intro w0 hP hb0 hz0; have HC := Lib.hid hP; have HB := Lib.hid hb0; obtain ⟨a0, a1, a2, a3, a4, a5, a6, a7, a8, a9, a10, a11, a12⟩ := hP.all; clear hP hb0 hz0)
      | (go_at_call 47; refine (C0.out _).mono ?_; rintro e1 w1 ⟨rfl, rfl⟩))
    go_ret
    exact ⟨rfl, HB.out⟩
  cases h3 : (e.ref == 0)
  · skip
    have hv : (linksTurnB e) = false := by unfold linksTurnB; simp [h0, h1, h2, h3]
    rw [hv]; clear hv
    have C0 : Hid (∀ w, Calls Tryd.prog 47 #[.int .i64 e.tx] w fun e' w' => e' = .returned (.bool true) ∧ w = w') := Lib.hid (fun w => by have := validTx_any e.tx w; rwa [h0] at this)
    clear h0
    go_enter Tryd.func37, Tryd.ntmps37
    go_wp2_with (first
      | (refine wp_boxEntW e rfl rfl rfl ?_; intro w0 hP hb0 hz0; have HC := Lib.hid hP; have HB := Lib.hid hb0; obtain ⟨a0, a1, a2, a3, a4, a5, a6, a7, a8, a9, a10, a11, a12⟩ := hP.all; clear hP hb0 hz0)
      | (go_at_call 47; refine (C0.out _).mono ?_; rintro e1 w1 ⟨rfl, rfl⟩))
    go_ret
    exact ⟨rfl, HB.out⟩
  have hv : (linksTurnB e) = true := by unfold linksTurnB; simp [h0, h1, h2, h3]
  rw [hv]; clear hv
  have C0 : Hid (∀ w, Calls Tryd.prog 47 #[.int .i64 e.tx] w fun e' w' => e' = .returned (.bool true) ∧ w = w') := Lib.hid (fun w => by have := validTx_any e.tx w; rwa [h0] at this)
  clear h0
  go_enter Tryd.func37, Tryd.ntmps37
  go_wp2_with (first
    | (refine wp_boxEntW e rfl rfl rfl ?_; intro w0 hP hb0 hz0; have HC := Lib.hid hP; have HB := Lib.hid hb0; obtain ⟨a0, a1, a2, a3, a4, a5, a6, a7, a8, a9, a10, a11, a12⟩ := hP.all; clear hP hb0 hz0)
    | (go_at_call 47; refine (C0.out _).mono ?_; rintro e1 w1 ⟨rfl, rfl⟩))
  go_ret
  exact ⟨rfl, HB.out⟩

def linksPageB (e : Ent) : Bool := (e.tx == 0) && ((e.prevTx == 0) && (e.prevPage == 0))
theorem linksPage_any (e : Ent) (w : World) :
    Calls Tryd.prog 41 #[.agg e.arr] w fun e' w' => e' = .returned (.bool (linksPageB e)) ∧ Below w.heap.size w w' := by
  cases h0 : (e.tx == 0)
  · skip
    have hv : (linksPageB e) = false := by unfold linksPageB; simp [h0]
    rw [hv]; clear hv
    go_enter Tryd.func41, Tryd.ntmps41
    go_wp2_with (first
      | (refine wp_boxEntW e rfl rfl rfl ?_; intro w0 hP hb0 hz0; have HC := Lib.hid hP; have HB := Lib.hid hb0; obtain ⟨a0, a1, a2, a3, a4, a5, a6, a7, a8, a9, a10, a11, a12⟩ := hP.all; clear hP hb0 hz0))
    go_ret
    exact ⟨rfl, HB.out⟩
  cases h1 : (e.prevTx == 0)
  · skip
    have hv : (linksPageB e) = false := by unfold linksPageB; simp [h0, h1]
    rw [hv]; clear hv
    go_enter Tryd.func41, Tryd.ntmps41
    go_wp2_with (first
      | (refine wp_boxEntW e rfl rfl rfl ?_; intro w0 hP hb0 hz0; have HC := Lib.hid hP; have HB := Lib.hid hb0; obtain ⟨a0, a1, a2, a3, a4, a5, a6, a7, a8, a9, a10, a11, a12⟩ := hP.all; clear hP hb0 hz0))
    go_ret
    exact ⟨rfl, HB.out⟩
  cases h2 : (e.prevPage == 0)
  · skip
    have hv : (linksPageB e) = false := by unfold linksPageB; simp [h0, h1, h2]
    rw [hv]; clear hv
    go_enter Tryd.func41, Tryd.ntmps41
    go_wp2_with (first
      | (refine wp_boxEntW e rfl rfl rfl ?_; intro w0 hP hb0 hz0; have HC := Lib.hid hP; have HB := Lib.hid hb0; obtain ⟨a0, a1, a2, a3, a4, a5, a6, a7, a8, a9, a10, a11, a12⟩ := hP.all; clear hP hb0 hz0))
    go_ret
    exact ⟨rfl, HB.out⟩
  have hv : (linksPageB e) = true := by unfold linksPageB; simp [h0, h1, h2]
  rw [hv]; clear hv
  go_enter Tryd.func41, Tryd.ntmps41
  go_wp2_with (first
    | (refine wp_boxEntW e rfl rfl rfl ?_; intro w0 hP hb0 hz0; have HC := Lib.hid hP; have HB := Lib.hid hb0; obtain ⟨a0, a1, a2, a3, a4, a5, a6, a7, a8, a9, a10, a11, a12⟩ := hP.all; clear hP hb0 hz0))
  go_ret
  exact ⟨rfl, HB.out⟩

def linksNothingB (e : Ent) : Bool := linksPageB e && (e.ref == 0)
theorem linksNothing_any (e : Ent) (w : World) :
    Calls Tryd.prog 39 #[.agg e.arr] w fun e' w' => e' = .returned (.bool (linksNothingB e)) ∧ Below w.heap.size w w' := by
  cases h0 : (linksPageB e)
  · skip
    have hv : (linksNothingB e) = false := by unfold linksNothingB; simp [h0]
    rw [hv]; clear hv
    have C0 : Hid (∀ w, Calls Tryd.prog 41 #[.agg e.arr] w fun e' w' => e' = .returned (.bool false) ∧ Below w.heap.size w w') := Lib.hid (fun w => by have := linksPage_any e w; rwa [h0] at this)
    clear h0
    go_enter Tryd.func39, Tryd.ntmps39
    go_wp2_with (first
      | (refine wp_boxEntW e rfl rfl rfl ?_; intro w0 hP hb0 hz0; have HC := Lib.hid hP; have HB := Lib.hid hb0; obtain ⟨a0, a1, a2, a3, a4, a5, a6, a7, a8, a9, a10, a11, a12⟩ := hP.all; clear hP hb0 hz0)
      | (refine wp_loadEnt e HC.out rfl rfl rfl ?_)
      | (go_at_call 41; refine (C0.out _).mono ?_; rintro e1 w1 ⟨rfl, hb1⟩; have HB1 := Lib.hid (HB.out.trans (hb1.mono HB.out.size)); obtain ⟨b0, b1, b2, b3, b4, b5, b6, b7, b8, b9, b10, b11, b12⟩ := EnAt.all (HC.out.keep hb1); clear hb1 a0 a1 a2 a3 a4 a5 a6 a7 a8 a9 a10 a11 a12))
    go_ret
    exact ⟨rfl, HB1.out⟩
  cases h1 : (e.ref == 0)
  · skip
    have hv : (linksNothingB e) = false := by unfold linksNothingB; simp [h0, h1]
    rw [hv]; clear hv
    have C0 : Hid (∀ w, Calls Tryd.prog 41 #[.agg e.arr] w fun e' w' => e' = .returned (.bool true) ∧ Below w.heap.size w w') := Lib.hid (fun w => by have := linksPage_any e w; rwa [h0] at this)
    clear h0
    go_enter Tryd.func39, Tryd.ntmps39
    go_wp2_with (first
      | (refine wp_boxEntW e rfl rfl rfl ?_; intro w0 hP hb0 hz0; have HC := Lib.hid hP; have HB := Lib.hid hb0; obtain ⟨a0, a1, a2, a3, a4, a5, a6, a7, a8, a9, a10, a11, a12⟩ := hP.all; clear hP hb0 hz0)
      | (refine wp_loadEnt e HC.out rfl rfl rfl ?_)
      | (go_at_call 41; refine (C0.out _).mono ?_; rintro e1 w1 ⟨rfl, hb1⟩; have HB1 := Lib.hid (HB.out.trans (hb1.mono HB.out.size)); obtain ⟨b0, b1, b2, b3, b4, b5, b6, b7, b8, b9, b10, b11, b12⟩ := EnAt.all (HC.out.keep hb1); clear hb1 a0 a1 a2 a3 a4 a5 a6 a7 a8 a9 a10 a11 a12))
    go_ret
    exact ⟨rfl, HB1.out⟩
  have hv : (linksNothingB e) = true := by unfold linksNothingB; simp [h0, h1]
  rw [hv]; clear hv
  have C0 : Hid (∀ w, Calls Tryd.prog 41 #[.agg e.arr] w fun e' w' => e' = .returned (.bool true) ∧ Below w.heap.size w w') := Lib.hid (fun w => by have := linksPage_any e w; rwa [h0] at this)
  clear h0
  go_enter Tryd.func39, Tryd.ntmps39
  go_wp2_with (first
    | (refine wp_boxEntW e rfl rfl rfl ?_; intro w0 hP hb0 hz0; have HC := Lib.hid hP; have HB := Lib.hid hb0; obtain ⟨a0, a1, a2, a3, a4, a5, a6, a7, a8, a9, a10, a11, a12⟩ := hP.all; clear hP hb0 hz0)
    | (refine wp_loadEnt e HC.out rfl rfl rfl ?_)
    | (go_at_call 41; refine (C0.out _).mono ?_; rintro e1 w1 ⟨rfl, hb1⟩; have HB1 := Lib.hid (HB.out.trans (hb1.mono HB.out.size)); obtain ⟨b0, b1, b2, b3, b4, b5, b6, b7, b8, b9, b10, b11, b12⟩ := EnAt.all (HC.out.keep hb1); clear hb1 a0 a1 a2 a3 a4 a5 a6 a7 a8 a9 a10 a11 a12))
  go_ret
  exact ⟨rfl, HB1.out⟩

def noBlobB (s : ByteArray) : Bool := s.toList == []
theorem noBlob_any (s : ByteArray) (w : World) : Calls Tryd.prog 35 #[.string s] w fun e' w' => e' = .returned (.bool (noBlobB s)) ∧ w = w' := by
  go_enter Tryd.func35, Tryd.ntmps35
  go_wp2
  go_ret
  exact ⟨ret_bool (by unfold noBlobB; cases s.toList <;> rfl), rfl⟩
def someBlobB (s : ByteArray) : Bool := decide ((s.size : Int) ≤ 8192)
theorem someBlob_any (s : ByteArray) (w : World) (_hs : s.size ≤ 9223372036854775807) : Calls Tryd.prog 40 #[.string s] w fun e' w' => e' = .returned (.bool (someBlobB s)) ∧ w = w' := by
  go_enter Tryd.func40, Tryd.ntmps40
  go_wp2
  go_ret
  exact ⟨ret_bool rfl, rfl⟩
theorem chg_eql (c d : Chg) (W : World) : (binOp .eql 29 (.agg c.arr) (.agg d.arr)).run Tryd.prog W = .ok (.bool (sameH c d)) W := by
  rw [run_eql_struct, chg_eqIn]; rfl
def noChangeB (c : Chg) : Bool := sameH c chg0
theorem noChange_any (c : Chg) (w : World) : Calls Tryd.prog 38 #[.agg c.arr] w fun e' w' => e' = .returned (.bool (noChangeB c)) ∧ Below w.heap.size w w' := by
  have he : ∀ W : World, (binOp .eql 29 (.agg c.arr) (.agg #[.int .i64 0, .int .i64 0, .bool false, .string ⟨#[]⟩, .bool false, .string ⟨#[]⟩])).run Tryd.prog W = .ok (.bool (noChangeB c)) W := fun W => chg_eql c chg0 W
  generalize noChangeB c = z at he
  go_enter Tryd.func38, Tryd.ntmps38
  go_wp2_with (first
    | (refine wp_boxChgW c rfl rfl rfl ?_; intro w0 hP hb0 hz0; have HC := Lib.hid hP; have HB := Lib.hid hb0; obtain ⟨a0, a1, a2, a3, a4, a5⟩ := hP.all; clear hP hb0 hz0)
    | (refine wp_loadChg c HC.out rfl rfl rfl ?_))
  go_ret
  exact ⟨rfl, HB.out⟩
def pageAloneB (c : Chg) : Bool := decide (0 ≤ c.page) && (decide (c.page < 64) && sameH c ⟨c.page, 0, noCell, noCell⟩)
theorem pageAlone_any (c : Chg) (w : World) : Calls Tryd.prog 42 #[.agg c.arr] w fun e' w' => e' = .returned (.bool (pageAloneB c)) ∧ Below w.heap.size w w' := by
  by_cases h0 : 0 ≤ c.page
  rotate_left
  · have hv : pageAloneB c = false := by unfold pageAloneB; simp [h0]
    have d0 : decide (0 ≤ c.page) = false := by simpa using h0
    rw [hv]; clear hv
    go_enter Tryd.func42, Tryd.ntmps42
    go_wp2_with (first
      | (refine wp_boxChgW c rfl rfl rfl ?_; intro w0 hP hb0 hz0; have HC := Lib.hid hP; have HB := Lib.hid hb0; obtain ⟨a0, a1, a2, a3, a4, a5⟩ := hP.all; clear hP hb0 hz0))
    go_ret
    exact ⟨rfl, HB.out⟩
  by_cases h1 : c.page < 64
  rotate_left
  · have hv : pageAloneB c = false := by unfold pageAloneB; simp [h1]
    have d0 : decide (c.page < 64) = false := by simpa using h1
    rw [hv]; clear hv
    go_enter Tryd.func42, Tryd.ntmps42
    go_wp2_with (first
      | (refine wp_boxChgW c rfl rfl rfl ?_; intro w0 hP hb0 hz0; have HC := Lib.hid hP; have HB := Lib.hid hb0; obtain ⟨a0, a1, a2, a3, a4, a5⟩ := hP.all; clear hP hb0 hz0))
    go_ret
    exact ⟨rfl, HB.out⟩
  have hv : pageAloneB c = sameH c ⟨c.page, 0, noCell, noCell⟩ := by unfold pageAloneB; simp [h0, h1]
  have he : ∀ W : World, (binOp .eql 29 (.agg c.arr) (.agg #[.int .i64 c.page, .int .i64 0, .bool false, .string ⟨#[]⟩, .bool false, .string ⟨#[]⟩])).run Tryd.prog W = .ok (.bool (sameH c ⟨c.page, 0, noCell, noCell⟩)) W := fun W => chg_eql c ⟨c.page, 0, noCell, noCell⟩ W
  rw [hv]; clear hv
  generalize sameH c ⟨c.page, 0, noCell, noCell⟩ = z at he ⊢
  go_enter Tryd.func42, Tryd.ntmps42
  go_wp2_with (first
    | (refine wp_boxChgW c rfl rfl rfl ?_; intro w0 hP hb0 hz0; have HC := Lib.hid hP; have HB := Lib.hid hb0; obtain ⟨a0, a1, a2, a3, a4, a5⟩ := hP.all; clear hP hb0 hz0)
    | (refine wp_loadChg c HC.out rfl rfl rfl ?_))
  go_ret
  exact ⟨rfl, HB.out⟩
def changesB (e : Ent) : Bool := (e.kind == 1) || (e.kind == 2)
theorem ret_or {a b : Bool} (h : a = b) : Ending.returned (.bool a) = .returned (.bool b) := by rw [h]
end Go.Proofs.YtmlclccfmlcabaaDoor.ob
