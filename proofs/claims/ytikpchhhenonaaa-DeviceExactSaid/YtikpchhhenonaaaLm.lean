/- overwrite. -/
import Derived.Test.YtikpchhhenonaaaLl
namespace Go.Proofs.Ytikpchhhenonaaa.lm
open Go.ChangeShapes Go.WideShapes Go.ChangeAt Go.RowKit Go.Proofs.Ytikpchhhenonaaa.cx Go.Proofs.Ytikpchhhenonaaa.ra Go.Proofs.Ytikpchhhenonaaa.la Go.Proofs.Ytikpchhhenonaaa.lb Go.Proofs.Ytikpchhhenonaaa.lc Go.Proofs.Ytikpchhhenonaaa.ld Go.Proofs.Ytikpchhhenonaaa.le Go.Proofs.Ytikpchhhenonaaa.lf Go.Proofs.Ytikpchhhenonaaa.lg Go.Proofs.Ytikpchhhenonaaa.lh Go.Proofs.Ytikpchhhenonaaa.li Go.Proofs.Ytikpchhhenonaaa.lj Go.Proofs.Ytikpchhhenonaaa.lk Go.Proofs.Ytikpchhhenonaaa.ll

/-- The first n bytes of s, then what old has behind them. -/
def mixS (s old : ByteArray) (n : Nat) : ByteArray := s.extract 0 n ++ old.extract n 256
def owrD (d : Dev) (k : Nat) (s : ByteArray) (n : Nat) : Dev := { d with pages := d.pages.set k (mixS s (d.pages.getD k ByteArray.empty) n), unr := d.unr.filter fun x => !(x == (k : Int)) }
set_option maxHeartbeats 4000000 in
set_option maxRecDepth 4000 in
theorem overwrite_any (B : Nat) (X : List Nat) (vp vu vf : Value) (d : Dev) (k : Nat) (s : ByteArray) (n : Nat) (old : ByteArray) (w : World) (h : Dv B X vp vu vf d w) (hk : d.pages[k]? = some old) (hold : old.size = 256) (hs : s.size = 256) (hn : n ≤ 256) (hul : d.unr.length ≤ 1000) :
    Calls Try.prog 55 #[.pointer (some ⟨B, 0, none⟩), .int .i64 (k : Int), .string s, .int .i64 (n : Int)] w fun e w' => e = .returned (.tuple #[]) ∧ ∃ vu', Dv B X vp vu' vf (owrD d k s n) w' ∧ vu'.ownBlock = vu.ownBlock ∧ Kp B X w w' := by
  have hkl : k < d.pages.length := (List.getElem?_eq_some_iff.1 hk).1
  obtain ⟨gp, cp, rfl, hgB, hgp⟩ := h.pages.form (by omega)
  have hcap : d.pages.length ≤ cp := by
    rcases h.pages.2 with ⟨e, _⟩ | ⟨g', cap', cur, e, _, _, h1, _⟩
    · cases e
    · simp only [Value.slice.injEq, true_and] at e
      obtain ⟨_, rfl⟩ := e
      exact h1
  have hneB : gp ≠ B := fun e => h.pB (by rw [e]; rfl)
  have hBw := h.row.lt
  have HUW := Lib.hid (fun g hg => (h.unr.lt g hg).2)
  have HH := Lib.hid h
  have HK := Lib.hid hk
  clear h hk
  have q0 : (0 : Int) ≤ (k : Int) := by omega
  have q1 : (k : Int) < (d.pages.length : Int) := by omega
  have q2 : (0 : Int) ≤ (n : Int) := by omega
  have q3 : (n : Int) ≤ 256 := by omega
  have hsz : (s.size : Int) = 256 := by omega
  have hosz : (old.size : Int) = 256 := by omega
  have eg : ∀ args w, (callFunc 73 args).run Try.prog w = .ok (.enter 73 args) w := fun args w => enters_of Try.func73 (by kernel_rfl) rfl args w
  go_enter Try.func55, Try.ntmps55
  go_wp2_with (first
    | (refine wp_box1W (.int .i64 (k : Int)) 3 rfl rfl rfl rfl ?_; intro w1 hP hb1 hz1; have HC1 := Lib.hid hP; have HH1 := Lib.hid (HH.out.keep hb1); have KP1 := Lib.hid (HH.out.kp hb1); obtain ⟨a0, a1, a2, a3, a4⟩ := HH1.out.row.all5; have c0 := hP.cells 0 _ rfl; have p0 := (HH1.out.pages.cellAt k (by omega)).trans (strL_at HK.out); have p1 := HH1.out.pages.frozenAt k; clear hP hb1 HH))
  apply wp_one
  · go_region
    iterate 40 (try exact ⟨rfl, rfl⟩)
  · have S2 := HH1.out.setPage k (mixS s old n)
    have R2 := Lib.hid (S2.1.keep (Below.refl _ _).drew)
    have KP2 := Lib.hid (KP1.out.trans ⟨S2.2.1.drew, S2.2.2⟩)
    have HC2 := RowAt.setOther HC1.out (a := ⟨gp, k, none⟩) (Nat.ne_of_lt hgp) (.string (mixS s old n))
    have HC2 := Lib.hid HC2.drew
    clear S2 a0 a1 a2 a3 a4 c0 p0 p1
    show Exit.then _ _ _ _ (w1.setCell ⟨gp, k, none⟩ (.string (mixS s old n))).drew
    generalize (w1.setCell ⟨gp, k, none⟩ (.string (mixS s old n))).drew = w2 at *
    obtain ⟨a0, a1, a2, a3, a4⟩ := R2.out.row.all5
    have HU : Hid (_ ∧ _) := Lib.hid (And.intro R2.out.uB (HC2.out.cells 0 _ rfl))
    go_wp2_with (first
      | (go_at_call 72; refine (deleteFunc_int (fun x => x == (k : Int)) 73 w.heap.size (k : Int) eg (page_pred _ _) B vu d.unr _ R2.out.unr HU.out.2 (fun e => Nat.lt_irrefl _ (HUW.out _ e)) (by omega)).mono ?_; rintro e w3 ⟨vu', rfl, hO, hg, hb⟩; have ST := Lib.hid (R2.out.unrStep hg (.inl rfl) hO (fun g e => .inl (by rw [← hb]; exact e))); have O3 := Lib.hid hO; have HB3 := Lib.hid hb; have HD3 := Lib.hid ST.out.1; clear hO hg hb a0 a1 a2 a3 a4)
      | (refine wp_storeFieldW 24 vu' (cells_own O3.out) (one_own O3.out) info_ints1 HD3.out (show 2 < 5 by decide) rfl rfl rfl rfl ?_; intro w4 hP hS; have R4 := Lib.hid (ST.out.2 w4 hS hP); clear hP hS))
    go_end0
    refine ⟨rfl, vu', ?_, HB3.out, KP2.out.trans R4.out.2⟩
    have := R4.out.1
    unfold owrD
    rw [show d.pages.getD k ByteArray.empty = old by simp [List.getD, HK.out]]
    exact this
end Go.Proofs.Ytikpchhhenonaaa.lm
