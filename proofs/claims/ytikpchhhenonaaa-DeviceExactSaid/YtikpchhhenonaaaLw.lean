/- Devices without faults, as data; valid devices stay valid. -/
import Derived.Test.YtikpchhhenonaaaLv
namespace Go.Proofs.Ytikpchhhenonaaa.lw
open Go.ChangeShapes Go.WideShapes Go.ChangeAt Go.RowKit Go.Proofs.Ytikpchhhenonaaa.cx Go.Proofs.Ytikpchhhenonaaa.ra Go.Proofs.Ytikpchhhenonaaa.la Go.Proofs.Ytikpchhhenonaaa.lb Go.Proofs.Ytikpchhhenonaaa.lc Go.Proofs.Ytikpchhhenonaaa.ld Go.Proofs.Ytikpchhhenonaaa.le Go.Proofs.Ytikpchhhenonaaa.lf Go.Proofs.Ytikpchhhenonaaa.lg Go.Proofs.Ytikpchhhenonaaa.lh Go.Proofs.Ytikpchhhenonaaa.li Go.Proofs.Ytikpchhhenonaaa.lj Go.Proofs.Ytikpchhhenonaaa.lk Go.Proofs.Ytikpchhhenonaaa.ll Go.Proofs.Ytikpchhhenonaaa.lm Go.Proofs.Ytikpchhhenonaaa.ln Go.Proofs.Ytikpchhhenonaaa.lo Go.Proofs.Ytikpchhhenonaaa.lp Go.Proofs.Ytikpchhhenonaaa.lq Go.Proofs.Ytikpchhhenonaaa.lr Go.Proofs.Ytikpchhhenonaaa.ls Go.Proofs.Ytikpchhhenonaaa.lt Go.Proofs.Ytikpchhhenonaaa.lu Go.Proofs.Ytikpchhhenonaaa.lv

theorem extract_all (s : ByteArray) (h : s.size = 256) : s.extract 0 256 = s := by
  rw [← h]; exact ByteArray.extract_zero_size
theorem extract_none (s : ByteArray) (n : Nat) : s.extract n n = ByteArray.empty := by
  apply ByteArray.ext
  simp
theorem mixS_full {s old : ByteArray} (hs : s.size = 256) : mixS s old 256 = s := by
  unfold mixS
  rw [extract_all s hs, extract_none, ByteArray.append_empty]
theorem mixS_zero {s old : ByteArray} (hs : old.size = 256) : mixS s old 0 = old := by
  unfold mixS
  rw [extract_all old hs, extract_none, ByteArray.empty_append]
theorem okUnr_of (m : Nat) : ∀ (l : List Int) (least : Int), Asc l → (∀ x ∈ l, least ≤ x ∧ 0 ≤ x ∧ x < (m : Int)) → okUnr m least l = true
  | [], _, _, _ => rfl
  | x :: r, least, h, hb => by
    obtain ⟨h1, h2⟩ := List.pairwise_cons.1 h
    have hx := hb x (List.mem_cons_self ..)
    unfold okUnr
    have : inR x m = true := decide_eq_true hx.2
    rw [decide_eq_true hx.1, this]
    exact okUnr_of m r (x + 1) h2 fun y hy => ⟨by have := h1 y hy; omega, (hb y (List.mem_cons_of_mem _ hy)).2⟩
theorem is_valid {d : Dev} (hp : (1 ≤ d.pages.length ∧ d.pages.length ≤ 64) ∧ ∀ s ∈ d.pages, s.size = 256) (hw : 0 ≤ d.writes ∧ d.writes ≤ 1099511627776) (hu : Asc d.unr ∧ ∀ x ∈ d.unr, 0 ≤ x ∧ x < (d.pages.length : Int))
    (hf : d.faults.length ≤ 64 ∧ ∀ f ∈ d.faults, okFault d f = true) : validD d = true := by
  unfold validD okFaults
  rw [okPages_iff.2 hp, okUnr_of _ _ _ hu.1 (fun x hx => ⟨(hu.2 x hx).1, hu.2 x hx⟩), decide_eq_true hf.1, show okWrites d.writes = true from decide_eq_true hw]
  simp only [Bool.true_and]
  exact List.all_eq_true.2 hf.2
/-- A device without faults, of which every page can be read. -/
def qDev (ps : List ByteArray) (n : Int) : Dev := ⟨ps, n, [], false, []⟩
def Pages (m : Nat) (ps : List ByteArray) : Prop := ps.length = m ∧ ∀ s ∈ ps, s.size = 256
theorem pages_set {m k : Nat} {ps : List ByteArray} {s : ByteArray} (h : Pages m ps) (hs : s.size = 256) : Pages m (ps.set k s) :=
  ⟨by rw [List.length_set]; exact h.1, fun x hx => by
    rcases mem_set hx with h1 | h1
    · exact h.2 x h1
    · rw [h1]; exact hs⟩
theorem pages_blanks (n : Nat) : Pages n (blanks n) := ⟨by simp [blanks], fun s hs => by rw [List.eq_of_mem_replicate hs]; exact blank_size⟩
theorem asc_nil : Asc [] := List.Pairwise.nil
theorem q_valid {m : Nat} {ps : List ByteArray} {n : Int} (h : Pages m ps) (hm : 1 ≤ m ∧ m ≤ 64) (hn : 0 ≤ n ∧ n ≤ 1099511627776) : validD (qDev ps n) = true :=
  is_valid ⟨by show 1 ≤ ps.length ∧ ps.length ≤ 64; rw [h.1]; exact hm, h.2⟩ hn ⟨asc_nil, fun _ hx => by cases hx⟩ ⟨Nat.zero_le _, fun _ hx => by cases hx⟩
theorem access_of {d : Dev} {page : Int} (hv : validD d = true) (hd : d.dead = false) (hp : 0 ≤ page ∧ page < (d.pages.length : Int)) : accessE d page = 0 := by
  unfold accessE
  rw [if_pos hv, hd, show inR page d.pages.length = true from decide_eq_true hp]
  rfl
theorem writeE_of {d : Dev} {page : Int} {s : ByteArray} (hv : validD d = true) (hd : d.dead = false) (hp : 0 ≤ page ∧ page < (d.pages.length : Int)) (hs : s.size = 256) (hw : d.writes < 1099511627776) : writeE d page s = 0 := by
  unfold writeE
  rw [if_pos (access_of hv hd hp), if_pos hs, if_neg (by omega)]
theorem q_write {ps : List ByteArray} {n : Int} {k : Nat} {s : ByteArray} (hs : s.size = 256) : writeD (qDev ps n) (k : Int) s = qDev (ps.set k s) (n + 1) := by
  unfold writeD carryD
  simp only [countD, dueF, restF, qDev, List.filter_nil, List.foldl_nil, becomeF, owrD, Int.toNat_natCast, mixS_full hs]
theorem q_read {m : Nat} {ps : List ByteArray} {n : Int} {k : Nat} {x : ByteArray} (h : Pages m ps) (hm : 1 ≤ m ∧ m ≤ 64) (hn : 0 ≤ n ∧ n ≤ 1099511627776) (hk : ps[k]? = some x) : readE (qDev ps n) (k : Int) = 0 ∧ readS (qDev ps n) (k : Int) = x := by
  have hkl : k < ps.length := (List.getElem?_eq_some_iff.1 hk).1
  have h1 : readE (qDev ps n) (k : Int) = 0 := by
    unfold readE
    rw [if_pos (access_of (q_valid h hm hn) rfl ⟨by omega, by show (k : Int) < (ps.length : Int); omega⟩)]
    rfl
  refine ⟨h1, ?_⟩
  unfold readS
  rw [if_pos h1, Int.toNat_natCast]
  simp [qDev, List.getD, hk]
theorem fits_pages {m : Nat} {d : Dev} (h : Pages m d.pages) : FitsD d := fun s hs => by have := h.2 s hs; omega
end Go.Proofs.Ytikpchhhenonaaa.lw
