/- Frames and logs as plain bytes: what is opened of the bytes of a log, also of their beginnings, and of bytes of which one is changed. -/
import Derived.Test.YtmlclccfmlcabaaDoorOq
import Derived.Test.YtmlclccfmlcabaaDoorCm
namespace Go.Proofs.YtmlclccfmlcabaaDoor.qa
open Go.ChangeShapes Go.WideShapes Go.ChangeAt Go.RowKit Go.Proofs.YtmlclccfmlcabaaDoor.cm Go.Proofs.YtmlclccfmlcabaaDoor.cp Go.Proofs.YtmlclccfmlcabaaDoor.cg Go.Proofs.YtmlclccfmlcabaaDoor.ch Go.Proofs.YtmlclccfmlcabaaDoor.ck Go.Proofs.YtmlclccfmlcabaaDoor.oa Go.Proofs.YtmlclccfmlcabaaDoor.od Go.Proofs.YtmlclccfmlcabaaDoor.oh Go.Proofs.YtmlclccfmlcabaaDoor.oj Go.Proofs.YtmlclccfmlcabaaDoor.ol Go.Proofs.YtmlclccfmlcabaaDoor.op Go.Proofs.YtmlclccfmlcabaaDoor.oq

def crcS (s : ByteArray) : Nat := crc s.data.toList
theorem crcS_lt (s : ByteArray) : crcS s < 4294967296 := crc_lt _
def lenF (p : ByteArray) : ByteArray := pN p.size 4 ++ p
def frameF (p : ByteArray) : ByteArray := lenF p ++ pN (crcS (lenF p)) 4
theorem lenF_size (p : ByteArray) : (lenF p).size = p.size + 4 := by unfold lenF; rw [ByteArray.size_append, pN_size]; omega
theorem frameF_size (p : ByteArray) : (frameF p).size = p.size + 8 := by unfold frameF; rw [ByteArray.size_append, lenF_size, pN_size]
/-- The payload of a frame and the place behind it. -/
def unfO (s : ByteArray) (a : Nat) : Option (ByteArray × Nat) :=
  if a + 4 ≤ s.size ∧ uget s a 4 ≤ 8392 ∧ a + 8 + uget s a 4 ≤ s.size ∧ uget s (a + 4 + uget s a 4) 4 = crcS (s.extract a (a + 4 + uget s a 4)) then some (s.extract (a + 4) (a + 4 + uget s a 4), a + 8 + uget s a 4) else none
theorem uget_pN (b c : ByteArray) (n : Nat) (hn : n < 4294967296) : uget (b ++ (pN (n : Int) 4 ++ c)) b.size 4 = n := by
  have := uget_put b c (n : Int) 4 (by decide) 4 (by decide)
  unfold putS at this
  rw [app_assoc] at this
  have e : ((uget (b ++ (pN (n : Int) 4 ++ c)) b.size 4 : Nat) : Int) = (n : Int) % 4294967296 := this
  omega
theorem ext_mid (b x c : ByteArray) : (b ++ (x ++ c)).extract b.size (b.size + x.size) = x := by
  apply ba_ext
  have hb : b.data.toList.length = b.size := by simp
  have hx : x.data.toList.length = x.size := by simp
  rw [list_extract, ByteArray.data_append, ByteArray.data_append, Array.toList_append, Array.toList_append, ← hb, ← hx, List.take_length_add_append, List.drop_left, List.take_left]
/-- A frame is read. -/
theorem unfO_frame (b p c : ByteArray) (hp : p.size ≤ 8392) : unfO (b ++ (frameF p ++ c)) b.size = some (p, b.size + 8 + p.size) := by
  have e1 : b ++ (frameF p ++ c) = b ++ (pN p.size 4 ++ (p ++ (pN (crcS (lenF p)) 4 ++ c))) := by unfold frameF lenF; simp only [app_assoc]
  have e2 : b ++ (frameF p ++ c) = b ++ (lenF p ++ (pN (crcS (lenF p)) 4 ++ c)) := by unfold frameF; simp only [app_assoc]
  have e3 : b ++ (frameF p ++ c) = (b ++ lenF p) ++ (pN (crcS (lenF p)) 4 ++ c) := by rw [e2, app_assoc]
  have e4 : b ++ (frameF p ++ c) = (b ++ pN p.size 4) ++ (p ++ (pN (crcS (lenF p)) 4 ++ c)) := by rw [e1, app_assoc]
  have hn : uget (b ++ (frameF p ++ c)) b.size 4 = p.size := by rw [e1]; exact uget_pN _ _ _ (by omega)
  have hz : (b ++ (frameF p ++ c)).size = b.size + (p.size + 8) + c.size := by rw [ByteArray.size_append, ByteArray.size_append, frameF_size]; omega
  have hl := lenF_size p
  have hc : uget (b ++ (frameF p ++ c)) (b.size + 4 + p.size) 4 = crcS (lenF p) := by
    have := uget_pN (b ++ lenF p) c (crcS (lenF p)) (crcS_lt _)
    rw [← e3, ByteArray.size_append, hl] at this
    rwa [show b.size + 4 + p.size = b.size + (p.size + 4) from by omega]
  have hx : (b ++ (frameF p ++ c)).extract b.size (b.size + 4 + p.size) = lenF p := by
    have := ext_mid b (lenF p) (pN (crcS (lenF p)) 4 ++ c)
    rw [← e2, hl] at this
    rwa [show b.size + 4 + p.size = b.size + (p.size + 4) from by omega]
  have hy : (b ++ (frameF p ++ c)).extract (b.size + 4) (b.size + 4 + p.size) = p := by
    have := ext_mid (b ++ pN p.size 4) p (pN (crcS (lenF p)) 4 ++ c)
    rwa [← e4, ByteArray.size_append, pN_size] at this
  unfold unfO
  rw [hn, hc, hx, hy, if_pos ⟨by omega, hp, by omega, rfl⟩]
/-- The beginning of a frame alone is none. -/
theorem unfO_short (b p : ByteArray) (hp : p.size ≤ 8392) (k : Nat) (hk : k < (frameF p).size) : unfO (b ++ (frameF p).extract 0 k) b.size = none := by
  have hf := frameF_size p
  have hs : (b ++ (frameF p).extract 0 k).size = b.size + k := by rw [ByteArray.size_append, pre_size (by omega)]
  unfold unfO
  rw [if_neg]
  rintro ⟨h1, h2, h3, h4⟩
  rw [hs] at h1 h3
  have hn : uget (b ++ (frameF p).extract 0 k) b.size 4 = p.size := by
    have e : (frameF p).extract 0 k = pN p.size 4 ++ (frameF p).extract 4 k := by
      have e1 := ext_app (frameF p) (a := 0) (b := 4) (c := k) (by omega) (by omega) (by omega)
      have e2 : (frameF p).extract 0 4 = pN p.size 4 := by
        have := ext_mid ⟨#[]⟩ (pN p.size 4) (p ++ pN (crcS (lenF p)) 4)
        rw [nil_app] at this
        have e3 : frameF p = pN p.size 4 ++ (p ++ pN (crcS (lenF p)) 4) := by unfold frameF lenF; simp only [app_assoc]
        rw [← e3, pN_size] at this
        exact this
      rw [← e1, e2]
    rw [e]
    exact uget_pN _ _ _ (by omega)
  rw [hn] at h3
  omega
theorem unfO_end (b : ByteArray) : unfO b b.size = none := by
  unfold unfO
  rw [if_neg]
  rintro ⟨h1, -⟩
  omega
/-- The entries that are read from place a on, the first one with the number n; at most f. -/
def readL (s : ByteArray) : Nat → Nat → Int → List Ent
  | 0, _, _ => []
  | f + 1, a, n =>
    match unfO s a with
    | none => []
    | some (p, a') => if (decR p).2 = 0 ∧ (decR p).1.lsn = n then (decR p).1 :: readL s f a' (n + 1) else []
def frameE (e : Ent) : ByteArray := frameF (bytesE e)
def logF : List Ent → ByteArray
  | [] => ⟨#[]⟩
  | e :: l => frameE e ++ logF l
theorem logF_append : ∀ (l m : List Ent), logF (l ++ m) = logF l ++ logF m
  | [], m => (nil_app _).symm
  | e :: l, m => by
    show frameE e ++ logF (l ++ m) = (frameE e ++ logF l) ++ logF m
    rw [logF_append l m, app_assoc]
/-- Entries that are valid and have the numbers n, n + 1 and so on. -/
def Row : List Ent → Int → Prop
  | [], _ => True
  | e :: l, n => validE e = true ∧ e.lsn = n ∧ Row l (n + 1)
theorem row_append : ∀ (l m : List Ent) (n : Int), Row (l ++ m) n ↔ Row l n ∧ Row m (n + l.length)
  | [], m, n => by simp [Row]
  | e :: l, m, n => by
    show (validE e = true ∧ e.lsn = n ∧ Row (l ++ m) (n + 1)) ↔ (validE e = true ∧ e.lsn = n ∧ Row l (n + 1)) ∧ Row m (n + (l.length + 1 : Nat))
    rw [row_append l m (n + 1), show n + 1 + (l.length : Int) = n + (l.length + 1 : Nat) from by omega]
    constructor
    · rintro ⟨a, b, c, d⟩; exact ⟨⟨a, b, c⟩, d⟩
    · rintro ⟨⟨a, b, c⟩, d⟩; exact ⟨a, b, c, d⟩
theorem bytes_max {e : Ent} (h : validE e = true) : (bytesE e).size ≤ 8392 := by
  have h1 := bytes_size h
  have h2 := valid_fits h
  obtain ⟨a, b, c⟩ := h2
  omega
theorem frameE_size {e : Ent} : (frameE e).size = (bytesE e).size + 8 := frameF_size _
/-- The frames of right entries are read, one after the other. -/
theorem readL_row (c : ByteArray) : ∀ (l : List Ent) (n : Int) (b : ByteArray) (f : Nat), Row l n → l.length ≤ f →
    readL (b ++ (logF l ++ c)) f b.size n = l ++ readL (b ++ (logF l ++ c)) (f - l.length) (b.size + (logF l).size) (n + l.length)
  | [], n, b, f, _, _ => by
    show readL _ f b.size n = readL _ (f - 0) (b.size + 0) (n + (0 : Nat))
    rw [Nat.sub_zero, Nat.add_zero, Int.natCast_zero, Int.add_zero]
  | e :: l, n, b, 0, _, h => absurd h (by simp)
  | e :: l, n, b, f + 1, hr, hf => by
    obtain ⟨hv, hl, hr⟩ := hr
    have e1 : b ++ (logF (e :: l) ++ c) = b ++ (frameF (bytesE e) ++ (logF l ++ c)) := by
      show b ++ ((frameE e ++ logF l) ++ c) = _
      rw [app_assoc]; rfl
    have e2 : b ++ (logF (e :: l) ++ c) = (b ++ frameE e) ++ (logF l ++ c) := by rw [e1, app_assoc]; rfl
    have hu : unfO (b ++ (logF (e :: l) ++ c)) b.size = some (bytesE e, b.size + 8 + (bytesE e).size) := by rw [e1]; exact unfO_frame _ _ _ (bytes_max hv)
    have hd := decR_forth hv
    have ih := readL_row c l (n + 1) (b ++ frameE e) f hr (by simpa using hf)
    rw [← e2, ByteArray.size_append, frameE_size] at ih
    rw [readL, hu]
    simp only
    rw [hd]
    simp only [hl, and_self, if_true]
    have a1 : f + 1 - (e :: l).length = f - l.length := by simp
    have a2 : b.size + (logF (e :: l)).size = b.size + ((bytesE e).size + 8) + (logF l).size := by
      show b.size + (frameE e ++ logF l).size = _
      rw [ByteArray.size_append, frameE_size]; omega
    have a3 : n + ((e :: l).length : Int) = n + 1 + l.length := by simp only [List.length_cons]; omega
    rw [show b.size + 8 + (bytesE e).size = b.size + ((bytesE e).size + 8) from by omega, ih, List.cons_append, a1, a2, a3]
/-- A beginning of the frames of some entries: whole frames, and the beginning of one. -/
theorem logF_pre : ∀ (l : List Ent) (k : Nat), k ≤ (logF l).size → ∃ (m : Nat), m ≤ l.length ∧ ((m = l.length ∧ (logF l).extract 0 k = logF l) ∨ ∃ (e : Ent) (j : Nat), l[m]? = some e ∧ j < (frameE e).size ∧ (logF l).extract 0 k = logF (l.take m) ++ (frameE e).extract 0 j)
  | [], k, h => ⟨0, Nat.le_refl _, .inl ⟨rfl, by
      have h0 : k = 0 := by have : (logF []).size = 0 := rfl; omega
      subst h0
      exact ext_all (logF [])⟩⟩
  | e :: l, k, h => by
    have hz : (logF (e :: l)).size = (frameE e).size + (logF l).size := ByteArray.size_append
    by_cases hk : k < (frameE e).size
    · refine ⟨0, Nat.zero_le _, .inr ⟨e, k, rfl, hk, ?_⟩⟩
      show (frameE e ++ logF l).extract 0 k = ⟨#[]⟩ ++ (frameE e).extract 0 k
      rw [nil_app]
      apply ba_ext
      have hl : (frameE e).data.toList.length = (frameE e).size := by simp
      rw [list_extract, list_extract, ByteArray.data_append, Array.toList_append, List.take_append_of_le_length (by omega)]
    · obtain ⟨m, hm, hh⟩ := logF_pre l (k - (frameE e).size) (by omega)
      have hx : (logF (e :: l)).extract 0 k = frameE e ++ (logF l).extract 0 (k - (frameE e).size) := by
        show (frameE e ++ logF l).extract 0 k = _
        apply ba_ext
        have hl : (frameE e).data.toList.length = (frameE e).size := by simp
        rw [ByteArray.data_append, Array.toList_append, list_extract, list_extract, ByteArray.data_append, Array.toList_append, List.drop_zero, List.drop_zero, List.take_append, List.take_of_length_le (by omega), hl]
      rcases hh with ⟨rfl, h1⟩ | ⟨e', j, h1, h2, h3⟩
      · refine ⟨l.length + 1, Nat.le_refl _, .inl ⟨rfl, ?_⟩⟩
        rw [hx, h1]; rfl
      · refine ⟨m + 1, by simpa using hm, .inr ⟨e', j, by simpa using h1, h2, ?_⟩⟩
        rw [hx, h3]
        show _ = (frameE e ++ logF (l.take m)) ++ _
        rw [app_assoc]
theorem row_at : ∀ (l : List Ent) (n : Int) (m : Nat) (e : Ent), Row l n → l[m]? = some e → validE e = true ∧ e.lsn = n + m
  | [], _, _, _, _, h => by cases h
  | e :: l, n, 0, e', hr, h => by
    have h : e = e' := by simpa using h
    subst h
    exact ⟨hr.1, by rw [hr.2.1]; simp⟩
  | e :: l, n, m + 1, e', hr, h => by
    obtain ⟨h1, h2⟩ := row_at l (n + 1) m e' hr.2.2 (by simpa using h)
    exact ⟨h1, by rw [h2]; omega⟩
theorem row_take {l : List Ent} {n : Int} (h : Row l n) (m : Nat) : Row (l.take m) n := by
  have := h
  rw [← List.take_append_drop m l, row_append] at this
  exact this.1
/-- What is read of a beginning of the frames of right entries is a beginning of the entries. -/
theorem readL_pre (b : ByteArray) (l : List Ent) (n : Int) (k f : Nat) (hr : Row l n) (hf : l.length ≤ f) (hk : k ≤ (logF l).size) :
    ∃ m, m ≤ l.length ∧ readL (b ++ (logF l).extract 0 k) f b.size n = l.take m := by
  obtain ⟨m, hm, ⟨rfl, hx⟩ | ⟨e, j, he, hj, hx⟩⟩ := logF_pre l k hk
  · refine ⟨l.length, Nat.le_refl _, ?_⟩
    have := readL_row ⟨#[]⟩ l n b f hr hf
    rw [app_nil] at this
    have h0 : readL (b ++ logF l) (f - l.length) (b.size + (logF l).size) (n + l.length) = [] := by
      have hz : (b ++ logF l).size = b.size + (logF l).size := ByteArray.size_append
      rw [← hz]
      cases f - l.length with
      | zero => rfl
      | succ g => rw [readL, unfO_end]
    rw [h0, List.append_nil] at this
    rw [hx, this, List.take_of_length_le (Nat.le_refl _)]
  · refine ⟨m, hm, ?_⟩
    obtain ⟨hv, -⟩ := row_at l n m e hr he
    have hlm : (l.take m).length = m := by rw [List.length_take]; omega
    have := readL_row ((frameE e).extract 0 j) (l.take m) n b f (row_take hr m) (by omega)
    have h0 : readL (b ++ (logF (l.take m) ++ (frameE e).extract 0 j)) (f - (l.take m).length) (b.size + (logF (l.take m)).size) (n + (l.take m).length) = [] := by
      have hs := unfO_short (b ++ logF (l.take m)) (bytesE e) (bytes_max hv) j hj
      rw [ByteArray.size_append, app_assoc] at hs
      cases f - (l.take m).length with
      | zero => rfl
      | succ g =>
        rw [readL]
        have hs' : unfO (b ++ (logF (l.take m) ++ (frameE e).extract 0 j)) (b.size + (logF (l.take m)).size) = none := hs
        rw [hs']
    rw [h0, List.append_nil] at this
    rw [hx, this]
end Go.Proofs.YtmlclccfmlcabaaDoor.qa
