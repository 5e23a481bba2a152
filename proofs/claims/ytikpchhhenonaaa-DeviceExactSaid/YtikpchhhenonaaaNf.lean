/- A device variable of the reference, whose lists the call owns. -/
import Derived.Test.YtikpchhhenonaaaNd
namespace Go.Proofs.Ytikpchhhenonaaa.nf
open Go.ChangeShapes Go.WideShapes Go.ChangeAt Go.RowKit Go.Proofs.Ytikpchhhenonaaa.cx Go.Proofs.Ytikpchhhenonaaa.ra Go.Proofs.Ytikpchhhenonaaa.la Go.Proofs.Ytikpchhhenonaaa.lb Go.Proofs.Ytikpchhhenonaaa.lc Go.Proofs.Ytikpchhhenonaaa.ld Go.Proofs.Ytikpchhhenonaaa.le Go.Proofs.Ytikpchhhenonaaa.lf Go.Proofs.Ytikpchhhenonaaa.lg Go.Proofs.Ytikpchhhenonaaa.lh Go.Proofs.Ytikpchhhenonaaa.li Go.Proofs.Ytikpchhhenonaaa.lj Go.Proofs.Ytikpchhhenonaaa.lk Go.Proofs.Ytikpchhhenonaaa.ll Go.Proofs.Ytikpchhhenonaaa.lm Go.Proofs.Ytikpchhhenonaaa.ln Go.Proofs.Ytikpchhhenonaaa.lo Go.Proofs.Ytikpchhhenonaaa.lp Go.Proofs.Ytikpchhhenonaaa.lq Go.Proofs.Ytikpchhhenonaaa.lr Go.Proofs.Ytikpchhhenonaaa.ls Go.Proofs.Ytikpchhhenonaaa.lt Go.Proofs.Ytikpchhhenonaaa.lu Go.Proofs.Ytikpchhhenonaaa.lv Go.Proofs.Ytikpchhhenonaaa.lw Go.Proofs.Ytikpchhhenonaaa.lx Go.Proofs.Ytikpchhhenonaaa.ly Go.Proofs.Ytikpchhhenonaaa.na Go.Proofs.Ytikpchhhenonaaa.nc Go.Proofs.Ytikpchhhenonaaa.nd
set_option linter.unusedSimpArgs false
/-- Block B is a device variable; its lists are owned, lie behind base, apart, and not in B. -/
structure RO (base B : Nat) (vp vu vf : Value) (d : Dev) (w : World) : Prop where
  row : RowAt B (dvals vp d.writes vu d.dead vf) w
  pages : w.ownsRow base 9 1 vp d.pages.length (strL d.pages)
  unr : w.ownsRow base 3 1 vu d.unr.length (intL d.unr)
  faults : w.ownsRow base 29 6 vf d.faults.length (fltL d.faults)
  pB : vp.ownBlock ≠ some B
  uB : vu.ownBlock ≠ some B
  fB : vf.ownBlock ≠ some B
  pu : Apart vp vu
  pf : Apart vp vf
  uf : Apart vu vf
  bB : base ≤ B
section
variable {base B : Nat} {vp vu vf : Value} {d : Dev} {w w' w4 : World}
theorem RO.keep (h : RO base B vp vu vf d w) (hb : Below w.heap.size w w') : RO base B vp vu vf d w' :=
  ⟨h.row.keep hb, own_keep h.pages hb, own_keep h.unr hb, own_keep h.faults hb, h.pB, h.uB, h.fB, h.pu, h.pf, h.uf, h.bB⟩
theorem RO.vals (h : RO base B vp vu vf d w) : DevV (dvals vp d.writes vu d.dead vf) d w := ⟨vp, vu, vf, rfl, Sl.of_own h.pages, Sl.of_own h.unr, Sl.of_own h.faults⟩
theorem RO.grown {row : Option Nat} (h : RO base B vp vu vf d w) (hg : w.grownBy w' row) (hB : row ≠ some B) (hp : ∀ g, vp.ownBlock = some g → row ≠ some g) (hu : ∀ g, vu.ownBlock = some g → row ≠ some g) (hf : ∀ g, vf.ownBlock = some g → row ≠ some g) : RO base B vp vu vf d w' :=
  ⟨h.row.grown hg hB, own_grown h.pages hg hp, own_grown h.unr hg hu, own_grown h.faults hg hf, h.pB, h.uB, h.fB, h.pu, h.pf, h.uf, h.bB⟩
theorem RO.setRow {n : Int} {b : Bool} {d' : Dev} (h : RO base B vp vu vf d w) (hs : StoredAt B w w') (hr : RowAt B (dvals vp n vu b vf) w') (hd : d' = { d with writes := n, dead := b }) : RO base B vp vu vf d' w' := by
  subst hd
  exact ⟨hr, own_storedNe h.pages hs (fun g e e' => h.pB (by rw [e, e'])), own_storedNe h.unr hs (fun g e e' => h.uB (by rw [e, e'])), own_storedNe h.faults hs (fun g e e' => h.fB (by rw [e, e'])), h.pB, h.uB, h.fB, h.pu, h.pf, h.uf, h.bB⟩
theorem RO.noFlt (h : RO base B vp vu vf d w) (hs : StoredAt B w w') (hr : RowAt B (dvals vp d.writes vu d.dead nil3) w') : RO base B vp vu nil3 { d with faults := [] } w' :=
  ⟨hr, own_storedNe h.pages hs (fun g e e' => h.pB (by rw [e, e'])), own_storedNe h.unr hs (fun g e e' => h.uB (by rw [e, e'])), World.ownsRow_nil _ _ _ _, h.pB, h.uB, (fun e => by cases e), h.pu, (fun g _ e => by cases e), (fun g _ e => by cases e), h.bB⟩
/-- The list of faults has grown; then it is stored. -/
theorem RO.fltStep {vf' : Value} {l : List Flt} (h : RO base B vp vu vf d w) (hg : w.grownBy w' vf.ownBlock) (hO : w'.ownsRow base 29 6 vf' l.length (fltL l)) (hb : ∀ g, vf'.ownBlock = some g → vf.ownBlock = some g ∨ w.heap.size ≤ g) :
    RowAt B (dvals vp d.writes vu d.dead vf) w' ∧ ∀ w4, StoredAt B w' w4 → RowAt B (dvals vp d.writes vu d.dead vf') w4 → RO base B vp vu vf' { d with faults := l } w4 := by
  have hb2 : ∀ g, g < w.heap.size → vf.ownBlock ≠ some g → vf'.ownBlock ≠ some g := fun g h1 h2 e => by
    rcases hb g e with h3 | h3
    · exact h2 h3
    · omega
  have hBl := h.row.lt
  refine ⟨h.row.grown hg h.fB, fun w4 hs hr4 => ?_⟩
  have hfB : vf'.ownBlock ≠ some B := hb2 B hBl h.fB
  exact ⟨hr4, own_storedNe (own_grown h.pages hg (fun g e e2 => h.pf g e e2)) hs (fun g e e' => h.pB (by rw [e, e'])), own_storedNe (own_grown h.unr hg (fun g e e2 => h.uf g e e2)) hs (fun g e e' => h.uB (by rw [e, e'])),
    own_storedNe hO hs (fun g e e' => hfB (by rw [e, e'])), h.pB, h.uB, hfB, h.pu, fun g e => hb2 g (h.pages.lt g e).2 (h.pf g e), fun g e => hb2 g (h.unr.lt g e).2 (h.uf g e), h.bB⟩
/-- The list of pages that cannot be read is a new one; then it is stored. -/
theorem RO.unrStep {vu' : Value} {l : List Int} (h : RO base B vp vu vf d w) (hb : Below w.heap.size w w') (hO : w'.ownsRow w.heap.size 3 1 vu' l.length (intL l)) (hs : StoredAt B w' w4) (hr : RowAt B (dvals vp d.writes vu' d.dead vf) w4) : RO base B vp vu' vf { d with unr := l } w4 := by
  have hBl := h.row.lt
  have hn : ∀ g, g < w.heap.size → vu'.ownBlock ≠ some g := fun g hg e => by have := (hO.lt g e).1; omega
  exact ⟨hr, own_storedNe (own_keep h.pages hb) hs (fun g e e' => h.pB (by rw [e, e'])), own_storedNe (own_base hO (Nat.le_trans h.bB (Nat.le_of_lt hBl))) hs (fun g e e' => hn B hBl (by rw [e, e'])),
    own_storedNe (own_keep h.faults hb) hs (fun g e e' => h.fB (by rw [e, e'])), h.pB, hn B hBl, h.fB, fun g e => hn g (h.pages.lt g e).2, h.pf, fun g e e2 => hn g (h.faults.lt g e2).2 e, h.bB⟩
/-- What place hands back is stored. -/
theorem RO.placed {vu' : Value} {k n : Nat} {s : ByteArray} (h : RO base B vp vu vf d w) (hg : w.grownBy w' vp.ownBlock) (hP : w'.ownsRow base 9 1 vp (owrD d k s n).pages.length (strL (owrD d k s n).pages)) (hU : w'.ownsRow w.heap.size 3 1 vu' (owrD d k s n).unr.length (intL (owrD d k s n).unr))
    (hs : StoredAt B w' w4) (hr : RowAt B (dvals vp d.writes vu' d.dead vf) w4) : RO base B vp vu' vf (owrD d k s n) w4 := by
  have hBl := h.row.lt
  have hn : ∀ g, g < w.heap.size → vu'.ownBlock ≠ some g := fun g hg e => by have := (hU.lt g e).1; omega
  exact ⟨hr, own_storedNe hP hs (fun g e e' => h.pB (by rw [e, e'])), own_storedNe (own_base hU (Nat.le_trans h.bB (Nat.le_of_lt hBl))) hs (fun g e e' => hn B hBl (by rw [e, e'])),
    own_storedNe (own_grown h.faults hg (fun g e e2 => h.pf g e2 e)) hs (fun g e e' => h.fB (by rw [e, e'])), h.pB, hn B hBl, h.fB, fun g e => hn g (h.pages.lt g e).2, h.pf, fun g e e2 => hn g (h.faults.lt g e2).2 e, h.bB⟩
theorem RO.setPage {gp cp : Nat} (h : RO base B (.slice (some ⟨gp, 0, none⟩) d.pages.length cp) vu vf d w) (k : Nat) (x : ByteArray) : RO base B (.slice (some ⟨gp, 0, none⟩) d.pages.length cp) vu vf { d with pages := d.pages.set k x } (w.setCell ⟨gp, k, none⟩ (.string x)) ∧
    w.grownBy (w.setCell ⟨gp, k, none⟩ (.string x)) (some gp) := by
  have hO := h.pages.stored k (.string x)
  have hgB : gp ≠ B := fun e => h.pB (by rw [e]; rfl)
  rw [strL_set] at hO
  exact ⟨⟨h.row.setOther (by exact hgB) _, by simpa using hO.1, own_grown h.unr hO.2 (fun g hg e => h.pu gp rfl (by injection e with e; rw [hg, e])), own_grown h.faults hO.2 (fun g hg e => h.pf gp rfl (by injection e with e; rw [hg, e])), h.pB, h.uB, h.fB, h.pu, h.pf, h.uf, h.bB⟩, hO.2⟩
/-- What lies behind base is written: what lies ahead of it stays. -/
theorem below_grown {w2 : World} {row : Option Nat} (h : Below base w2 w) (hg : w.grownBy w' row) (hr : ∀ g, row = some g → base ≤ g) (hw : base ≤ w.heap.size) : Below base w2 w' := h.grown hg hw hr
end
/-- A list of faults that may grow, beside the variable. -/
structure NV (base B : Nat) (vp vu vf vn : Value) (l : List Flt) (w : World) : Prop where
  own : w.ownsRow base 29 6 vn l.length (fltL l)
  nB : vn.ownBlock ≠ some B
  np : Apart vn vp
  nu : Apart vn vu
  nf : Apart vn vf
section
variable {base B : Nat} {vp vu vf vn : Value} {d : Dev} {w w' w4 : World} {l : List Flt}
theorem NV.keep (h : NV base B vp vu vf vn l w) (hb : Below w.heap.size w w') : NV base B vp vu vf vn l w' := ⟨own_keep h.own hb, h.nB, h.np, h.nu, h.nf⟩
theorem nv_nil (w : World) : NV base B vp vu vf nil3 [] w := ⟨World.ownsRow_nil _ _ _ _, (fun e => by cases e), (fun _ e => by cases e), (fun _ e => by cases e), (fun _ e => by cases e)⟩
theorem apart_new {v v' u : Value} {n : Nat} (h : Apart v u) (hv : ∀ g, v'.ownBlock = some g → v.ownBlock = some g ∨ n ≤ g) (hu : ∀ g, u.ownBlock = some g → g < n) : Apart v' u := fun g e e2 => by
  rcases hv g e with h3 | h3
  · exact h g h3 e2
  · have := hu g e2
    omega
/-- The list has grown. -/
theorem NV.step {vn' : Value} {l' : List Flt} (h : NV base B vp vu vf vn l w) (hR : RO base B vp vu vf d w) (hg : w.grownBy w' vn.ownBlock) (hO : w'.ownsRow base 29 6 vn' l'.length (fltL l')) (hb : ∀ g, vn'.ownBlock = some g → vn.ownBlock = some g ∨ w.heap.size ≤ g) :
    NV base B vp vu vf vn' l' w' ∧ RO base B vp vu vf d w' := by
  refine ⟨⟨hO, fun e => ?_, apart_new h.np hb (fun g e => (hR.pages.lt g e).2), apart_new h.nu hb (fun g e => (hR.unr.lt g e).2), apart_new h.nf hb (fun g e => (hR.faults.lt g e).2)⟩, hR.grown hg h.nB (fun g e e2 => h.np g e2 e) (fun g e e2 => h.nu g e2 e) (fun g e e2 => h.nf g e2 e)⟩
  rcases hb B e with h3 | h3
  · exact h.nB h3
  · have := hR.row.lt
    omega
/-- The variable's own list of faults has grown. -/
theorem NV.flt {vf' : Value} (h : NV base B vp vu vf vn l w) (hg : w.grownBy w' vf.ownBlock) (hb : ∀ g, vf'.ownBlock = some g → vf.ownBlock = some g ∨ w.heap.size ≤ g) (hs : StoredAt B w' w4) : NV base B vp vu vf' vn l w4 :=
  ⟨own_storedNe (own_grown h.own hg (fun g e e2 => h.nf g e e2)) hs (fun g e e' => h.nB (by rw [e, e'])), h.nB, h.np, h.nu, fun g e e2 => (apart_new (v := vf) (u := vn) (fun g e e2 => h.nf g e2 e) hb (fun g e => (h.own.lt g e).2)) g e2 e⟩
end
/-- What becomes of a write, found one by one. -/
theorem become_at : ∀ (l : List Flt) (i : Nat) (f : Flt) (x : What), (∀ (j : Nat) (g : Flt), j < i → l[j]? = some g → whatF g = none) → l[i]? = some f → whatF f = some x → becomeF l = x
  | [], _, _, _, _, h, _ => by cases h
  | g :: r, 0, f, x, _, h, hx => by
    obtain rfl : g = f := Option.some.inj h
    unfold becomeF
    rw [hx]; rfl
  | g :: r, i + 1, f, x, hn, h, hx => by
    unfold becomeF
    rw [hn 0 g (Nat.succ_pos _) rfl]
    exact become_at r i f x (fun j g hj hg => hn (j + 1) g (by omega) hg) h hx
theorem become_none : ∀ (l : List Flt), (∀ (j : Nat) (g : Flt), l[j]? = some g → whatF g = none) → becomeF l = .done
  | [], _ => rfl
  | g :: r, hn => by
    unfold becomeF
    rw [hn 0 g rfl]
    exact become_none r (fun j g hg => hn (j + 1) g hg)
end Go.Proofs.Ytikpchhhenonaaa.nf
