/- rot. -/
import Derived.Test.YtikpchhhenonaaaLo
namespace Go.Proofs.Ytikpchhhenonaaa.lp
open Go.ChangeShapes Go.WideShapes Go.ChangeAt Go.RowKit Go.Proofs.Ytikpchhhenonaaa.cx Go.Proofs.Ytikpchhhenonaaa.ra Go.Proofs.Ytikpchhhenonaaa.la Go.Proofs.Ytikpchhhenonaaa.lb Go.Proofs.Ytikpchhhenonaaa.lc Go.Proofs.Ytikpchhhenonaaa.ld Go.Proofs.Ytikpchhhenonaaa.le Go.Proofs.Ytikpchhhenonaaa.lf Go.Proofs.Ytikpchhhenonaaa.lg Go.Proofs.Ytikpchhhenonaaa.lh Go.Proofs.Ytikpchhhenonaaa.li Go.Proofs.Ytikpchhhenonaaa.lj Go.Proofs.Ytikpchhhenonaaa.lk Go.Proofs.Ytikpchhhenonaaa.ll Go.Proofs.Ytikpchhhenonaaa.lm Go.Proofs.Ytikpchhhenonaaa.ln Go.Proofs.Ytikpchhhenonaaa.lo
open Go.Lib (bytesWorld bytesCells bytesWorld_at_old bytesWorld_at_new bytesWorld_size bytesWorld_cell)

/-- A page with one byte changed. -/
def rotS (old : ByteArray) (b : Nat) (m : Int) : ByteArray := strOfNums ((numsOf old).set b (bits .xor .u8 ((numsOf old)[b]?.getD 0) m))
theorem rotS_size (old : ByteArray) (b : Nat) (m : Int) (h : old.size = 256) : (rotS old b m).size = 256 := by
  unfold rotS
  rw [strOfNums_size, List.length_set, numsOf_length, h]
def rotD (d : Dev) (f : Flt) : Dev := { d with pages := d.pages.set f.page.toNat (rotS (d.pages.getD f.page.toNat ByteArray.empty) f.byte.toNat f.mask) }
set_option maxHeartbeats 4000000 in
set_option maxRecDepth 4000 in
theorem rot_any (B : Nat) (X : List Nat) (vp vu vf : Value) (d : Dev) (f : Flt) (k b : Nat) (old : ByteArray) (w : World) (h : Dv B X vp vu vf d w) (hk : d.pages[k]? = some old) (hold : old.size = 256) (hfk : f.page = (k : Int)) (hfb : f.byte = (b : Int)) (hb : b < 256) :
    Calls Try.prog 67 #[.pointer (some ⟨B, 0, none⟩), .agg f.arr] w fun e w' => e = .returned (.tuple #[]) ∧ Dv B X vp vu vf (rotD d f) w' ∧ Kp B X w w' := by
  have hkl : k < d.pages.length := (List.getElem?_eq_some_iff.1 hk).1
  obtain ⟨gp, cp, rfl, hgB, hgp⟩ := h.pages.form (by omega)
  have hcap : d.pages.length ≤ cp := by
    rcases h.pages.2 with ⟨e, _⟩ | ⟨g', cap', cur, e, _, _, h1, _⟩
    · cases e
    · simp only [Value.slice.injEq, true_and] at e
      obtain ⟨_, rfl⟩ := e
      exact h1
  have hneB : gp ≠ B := fun e => h.pB (by rw [e]; rfl)
  have hBw := h.row.lt
  have HH := Lib.hid h
  have HK := Lib.hid hk
  have HR : Hid (rotD d f = { d with pages := d.pages.set k (rotS old b f.mask) }) := Lib.hid (by
    unfold rotD
    rw [hfk, hfb, Int.toNat_natCast, Int.toNat_natCast, show d.pages.getD k ByteArray.empty = old by simp [List.getD, hk]])
  clear h hk
  have q0 : (0 : Int) ≤ (k : Int) := by omega
  have q1 : (k : Int) < (d.pages.length : Int) := by omega
  have q2 : (0 : Int) ≤ (b : Int) := by omega
  have q3 : (b : Int) < 256 := by omega
  have hcv : ∀ W : World, (convert 9 22 (.string old)).run Try.prog W = .ok (.slice (some ⟨W.heap.size, 0, none⟩) 256 (grownCap W 256 0 5)) (bytesWorld W 5 old) := fun W => by
    have := Go.Lib.run_convert_string_bytes (P := Try.prog) W 9 22 5 old Try.underlying9 Try.underlying22 Try.underlying5
    rw [hold] at this
    exact this
  go_enter Try.func67, Try.ntmps67
  go_wp2_with (first
    | (refine wp_boxW f.vals _ rfl rfl rfl ?_; intro w1 hP hb1 hz1; have HF1 := Lib.hid hP; have HH1 := Lib.hid (HH.out.keep hb1); have KP1 := Lib.hid (HH.out.kp hb1); obtain ⟨a0, a1, a2, a3, a4⟩ := HH1.out.row.all5; obtain ⟨b0, b1, b2, b3, b4, b5⟩ := HF1.out.all6; rw [hfk] at b2; rw [hfb] at b4; have p0 := (HH1.out.pages.cellAt k (by omega)).trans (strL_at HK.out); have p1 := HH1.out.pages.frozenAt k; clear hP hb1 HH))
  apply wp_one
  · go_region
    iterate 40 (try exact ⟨rfl, rfl⟩)
  · simp only [List.getElem_toArray, List.getElem_cons_zero, List.getElem_cons_succ, Act.put, List.setIfInBounds_toArray, List.set_cons_succ, List.set_cons_zero]
    have W2r := bytesWorld_row w1.drew old hold
    have W2b : Below w1.heap.size w1 (bytesWorld w1.drew 5 old) := (Below.refl _ _).drew.trans (bytesWorld_below w1.drew old)
    have hcg := cap_ge w1.drew
    clear hcv a0 a1 a2 a3 a4 b0 b1 b2 b3 b4 b5 p0 p1
    have W2r' : BRow w1.heap.size (numsOf old) (bytesWorld w1.drew 5 old) := W2r
    clear W2r
    generalize bytesWorld w1.drew 5 old = w2 at *
    generalize grownCap w1.drew 256 0 5 = cap at *
    have HF2 := HF1.out.keep W2b
    have BR2 := Lib.hid W2r'
    have WB2 := Lib.hid W2b
    obtain ⟨b0, b1, b2, b3, b4, b5⟩ := HF2.all6
    rw [hfb] at b4
    have c1 := BR2.out.cells b hb
    have c2 := BR2.out.free b hb
    have hgp1 : gp < w1.heap.size := by omega
    have hB1 : B < w1.heap.size := by omega
    clear W2b W2r' HF2
    go_wp2
    apply wp_one
    · go_region
      iterate 40 (try exact ⟨rfl, rfl⟩)
    · have WB3 := Lib.hid (WB2.out.setCell (p := ⟨w1.heap.size, b, none⟩) (Nat.le_refl _) (.int .u8 (bits .xor .u8 ((numsOf old)[b]?.getD 0) f.mask))).drew
      have BR3 := Lib.hid (BR2.out.set b hb (bits .xor .u8 ((numsOf old)[b]?.getD 0) f.mask)).drew
      clear b0 b1 b2 b3 b4 b5 c1 c2 WB2 BR2
      generalize (w2.setCell ⟨w1.heap.size, b, none⟩ (.int .u8 (bits .xor .u8 ((numsOf old)[b]?.getD 0) f.mask))).drew = w3 at *
      have H3 := Lib.hid (HH1.out.keep WB3.out)
      have K3 := Lib.hid (KP1.out.trans (HH1.out.kp WB3.out))
      obtain ⟨a0, a1, a2, a3, a4⟩ := H3.out.row.all5
      obtain ⟨b0, b1, b2, b3, b4, b5⟩ := (HF1.out.keep WB3.out).all6
      rw [hfk] at b2
      have p0 := (H3.out.pages.cellAt k (by omega)).trans (strL_at HK.out)
      have p1 := H3.out.pages.frozenAt k
      have hcv : (convert 22 9 (.slice (some ⟨w1.heap.size, 0, none⟩) 256 cap)).run Try.prog w3.drew = .ok (.string (rotS old b f.mask)) w3.drew := conv_brow BR3.out.drew
      go_wp2
      apply wp_one
      · go_region
        iterate 40 (try exact ⟨rfl, rfl⟩)
      · have S4 := H3.out.setPage k (rotS old b f.mask)
        have R4 := Lib.hid (S4.1.keep (Below.refl _ _).drew)
        have K4 := Lib.hid (K3.out.trans ⟨S4.2.1.drew, S4.2.2⟩)
        clear S4 a0 a1 a2 a3 a4 b0 b1 b2 b3 b4 b5 p0 p1 hcv
        generalize (w3.setCell ⟨gp, k, none⟩ (.string (rotS old b f.mask))).drew = w4 at *
        go_wp2
        go_end0
        exact ⟨rfl, by rw [HR.out]; exact R4.out, K4.out⟩
end Go.Proofs.Ytikpchhhenonaaa.lp
