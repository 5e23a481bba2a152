/- Bytes of a log of which one is changed: what is opened ends ahead of the entry that was changed. -/
import Derived.Test.YtmlclccfmlcabaaDoorQa
namespace Go.Proofs.YtmlclccfmlcabaaDoor.qb
open Go.ChangeShapes Go.WideShapes Go.ChangeAt Go.RowKit Go.Proofs.YtmlclccfmlcabaaDoor.cm Go.Proofs.YtmlclccfmlcabaaDoor.cp Go.Proofs.YtmlclccfmlcabaaDoor.cg Go.Proofs.YtmlclccfmlcabaaDoor.ch Go.Proofs.YtmlclccfmlcabaaDoor.ck Go.Proofs.YtmlclccfmlcabaaDoor.oa Go.Proofs.YtmlclccfmlcabaaDoor.od Go.Proofs.YtmlclccfmlcabaaDoor.oh Go.Proofs.YtmlclccfmlcabaaDoor.oj Go.Proofs.YtmlclccfmlcabaaDoor.ok Go.Proofs.YtmlclccfmlcabaaDoor.ol Go.Proofs.YtmlclccfmlcabaaDoor.op Go.Proofs.YtmlclccfmlcabaaDoor.oq Go.Proofs.YtmlclccfmlcabaaDoor.qa

theorem burst_one (l : List UInt8) (k : Nat) (hk : k < l.length) (b : UInt8) (h : crc l = crc (l.set k b)) : b = l[k] := by
  have e1 : l = l.take k ++ [l[k]] ++ l.drop (k + 1) := by
    rw [List.append_assoc, List.singleton_append, ← List.drop_eq_getElem_cons hk, List.take_append_drop]
  have e2 : l.set k b = l.take k ++ [b] ++ l.drop (k + 1) := by rw [List.set_eq_take_append_cons_drop, if_pos hk]; simp
  have h' : crc (l.take k ++ [l[k]] ++ l.drop (k + 1)) = crc (l.take k ++ [b] ++ l.drop (k + 1)) := by rw [← e1, ← e2]; exact h
  have := crc_burst _ _ (x := [l[k]]) (y := [b]) rfl (by simp) h'
  exact (List.cons.inj this).1.symm
/-- Byte k becomes x. -/
def setB (s : ByteArray) (k : Nat) (x : UInt8) : ByteArray := ⟨(s.data.toList.set k x).toArray⟩
theorem setB_list (s : ByteArray) (k : Nat) (x : UInt8) : (setB s k x).data.toList = s.data.toList.set k x := rfl
theorem setB_size (s : ByteArray) (k : Nat) (x : UInt8) : (setB s k x).size = s.size := by
  show (s.data.toList.set k x).toArray.size = s.data.size
  simp
theorem lsize (s : ByteArray) : s.data.toList.length = s.size := by simp
theorem setB_right (a b : ByteArray) (k j : Nat) (hk : k = a.size + j) (x : UInt8) : setB (a ++ b) k x = a ++ setB b j x := by
  apply ba_ext
  have := lsize a
  rw [setB_list, ByteArray.data_append, Array.toList_append, ByteArray.data_append, Array.toList_append, setB_list, List.set_append_right _ _ (by omega), this, hk, Nat.add_sub_cancel_left]
theorem setB_left (a b : ByteArray) (k : Nat) (hk : k < a.size) (x : UInt8) : setB (a ++ b) k x = setB a k x ++ b := by
  apply ba_ext
  have := lsize a
  rw [setB_list, ByteArray.data_append, Array.toList_append, ByteArray.data_append, Array.toList_append, setB_list, List.set_append_left _ _ (by omega)]
theorem uget_shift {s t : ByteArray} (a a' : Nat) : ∀ k : Nat, (∀ i, i < k → s.data.toList.getD (a + i) 0 = t.data.toList.getD (a' + i) 0) → uget s a k = uget t a' k
  | 0, _ => rfl
  | k + 1, h => by rw [uget, uget, uget_shift a a' k (fun i hi => h i (by omega)), h k (by omega)]
theorem uget_mid (b l c : ByteArray) (k : Nat) (hk : k ≤ l.size) : uget (b ++ (l ++ c)) b.size k = uget l 0 k := uget_shift _ _ k fun i hi => by
  have hb := lsize b
  have hl := lsize l
  rw [ByteArray.data_append, ByteArray.data_append, Array.toList_append, Array.toList_append, List.getD_eq_getElem?_getD, List.getD_eq_getElem?_getD, List.getElem?_append_right (by omega), List.getElem?_append_left (by omega), Nat.zero_add, hb, Nat.add_sub_cancel_left]
theorem uget_pN0 (n : Nat) (hn : n < 4294967296) : uget (pN (n : Int) 4) 0 4 = n := by
  have := uget_pN ⟨#[]⟩ ⟨#[]⟩ n hn
  rw [nil_app, app_nil] at this
  exact this
/-- A number of four bytes of which one is changed is another number. -/
theorem uget_set (n : Nat) (hn : n < 4294967296) (j : Nat) (hj : j < 4) (x : UInt8) (hx : x ≠ (pN (n : Int) 4).data.toList.getD j 0) : uget (setB (pN (n : Int) 4) j x) 0 4 ≠ n := by
  intro h
  have h2 := uget_pN0 n hn
  have h3 := uget_inj 0 4 (h.trans h2.symm) j hj
  have hl : (pN (n : Int) 4).data.toList.length = 4 := by rw [lsize, pN_size]
  rw [Nat.zero_add, setB_list, List.getD_eq_getElem?_getD, List.getElem?_set_self (by omega)] at h3
  exact hx h3
theorem ext_from (b t : ByteArray) (i j : Nat) : (b ++ t).extract (b.size + i) (b.size + j) = t.extract i j := by
  apply ba_ext
  have hb := lsize b
  rw [list_extract, list_extract, ByteArray.data_append, Array.toList_append, ← hb, List.take_length_add_append, List.drop_length_add_append]
/-- A frame of which one byte is changed is none, or has another length. -/
theorem unfO_set (b p c : ByteArray) (hp : p.size ≤ 8392) (j : Nat) (hj : j < (frameF p).size) (x : UInt8) (hx : x ≠ (frameF p).data.toList.getD j 0) :
    unfO (b ++ (setB (frameF p) j x ++ c)) b.size = none ∨ ∃ n', n' ≠ p.size ∧ n' + 4 ≤ (p ++ (pN (crcS (lenF p)) 4 ++ c)).size ∧ unfO (b ++ (setB (frameF p) j x ++ c)) b.size = some ((p ++ (pN (crcS (lenF p)) 4 ++ c)).extract 0 n', b.size + 8 + n') := by
  have hf := frameF_size p
  have hl := lenF_size p
  have f1 : frameF p = pN p.size 4 ++ (p ++ pN (crcS (lenF p)) 4) := by unfold frameF lenF; simp only [app_assoc]
  by_cases h4 : j < 4
  · have e1 : setB (frameF p) j x = setB (pN p.size 4) j x ++ (p ++ pN (crcS (lenF p)) 4) := by rw [f1]; exact setB_left _ _ _ (by rw [pN_size]; exact h4) _
    have hx' : x ≠ (pN (p.size : Int) 4).data.toList.getD j 0 := by
      intro h
      apply hx
      rw [h, f1, ByteArray.data_append, Array.toList_append, List.getD_eq_getElem?_getD, List.getD_eq_getElem?_getD, List.getElem?_append_left (by rw [lsize, pN_size]; exact h4)]
    have hn := uget_set p.size (by omega) j h4 x hx'
    generalize hL : setB (pN (p.size : Int) 4) j x = L at e1 hn
    have hLs : L.size = 4 := by rw [← hL, setB_size, pN_size]
    have e2 : b ++ (setB (frameF p) j x ++ c) = b ++ (L ++ (p ++ (pN (crcS (lenF p)) 4 ++ c))) := by rw [e1]; simp only [app_assoc]
    have e3 : b ++ (setB (frameF p) j x ++ c) = (b ++ L) ++ (p ++ (pN (crcS (lenF p)) 4 ++ c)) := by rw [e2, app_assoc]
    have hu : uget (b ++ (setB (frameF p) j x ++ c)) b.size 4 = uget L 0 4 := by rw [e2]; exact uget_mid _ _ _ _ (by omega)
    by_cases hO : unfO (b ++ (setB (frameF p) j x ++ c)) b.size = none
    · exact .inl hO
    · right
      refine ⟨uget L 0 4, hn, ?_, ?_⟩
      · unfold unfO at hO
        rw [hu] at hO
        by_cases hc : b.size + 4 ≤ (b ++ (setB (frameF p) j x ++ c)).size ∧ uget L 0 4 ≤ 8392 ∧ b.size + 8 + uget L 0 4 ≤ (b ++ (setB (frameF p) j x ++ c)).size ∧ uget (b ++ (setB (frameF p) j x ++ c)) (b.size + 4 + uget L 0 4) 4 = crcS ((b ++ (setB (frameF p) j x ++ c)).extract b.size (b.size + 4 + uget L 0 4))
        · have := hc.2.2.1
          rw [e3, ByteArray.size_append, ByteArray.size_append, hLs] at this
          omega
        · rw [if_neg hc] at hO
          exact absurd rfl hO
      · unfold unfO at hO ⊢
        rw [hu] at hO ⊢
        by_cases hc : b.size + 4 ≤ (b ++ (setB (frameF p) j x ++ c)).size ∧ uget L 0 4 ≤ 8392 ∧ b.size + 8 + uget L 0 4 ≤ (b ++ (setB (frameF p) j x ++ c)).size ∧ uget (b ++ (setB (frameF p) j x ++ c)) (b.size + 4 + uget L 0 4) 4 = crcS ((b ++ (setB (frameF p) j x ++ c)).extract b.size (b.size + 4 + uget L 0 4))
        · rw [if_pos hc]
          have hz : (b ++ L).size = b.size + 4 := by rw [ByteArray.size_append, hLs]
          have := ext_from (b ++ L) (p ++ (pN (crcS (lenF p)) 4 ++ c)) 0 (uget L 0 4)
          rw [← e3, hz, Nat.add_zero] at this
          rw [this]
        · rw [if_neg hc] at hO
          exact absurd rfl hO
  · left
    have hjl : 4 ≤ j := by omega
    by_cases h5 : j < (lenF p).size
    · -- a byte of the payload
      have e1 : setB (frameF p) j x = setB (lenF p) j x ++ pN (crcS (lenF p)) 4 := setB_left _ _ _ h5 _
      have e2 : setB (lenF p) j x = pN p.size 4 ++ setB p (j - 4) x := setB_right _ _ _ _ (by rw [pN_size]; omega) _
      have hq : (setB (lenF p) j x).size = p.size + 4 := by rw [setB_size, hl]
      have g1 : b ++ (setB (frameF p) j x ++ c) = b ++ (pN p.size 4 ++ (setB p (j - 4) x ++ (pN (crcS (lenF p)) 4 ++ c))) := by rw [e1, e2]; simp only [app_assoc]
      have g2 : b ++ (setB (frameF p) j x ++ c) = b ++ (setB (lenF p) j x ++ (pN (crcS (lenF p)) 4 ++ c)) := by rw [e1]; simp only [app_assoc]
      have g3 : b ++ (setB (frameF p) j x ++ c) = (b ++ setB (lenF p) j x) ++ (pN (crcS (lenF p)) 4 ++ c) := by rw [g2, app_assoc]
      have hu : uget (b ++ (setB (frameF p) j x ++ c)) b.size 4 = p.size := by rw [g1]; exact uget_pN _ _ _ (by omega)
      have hc : uget (b ++ (setB (frameF p) j x ++ c)) (b.size + 4 + p.size) 4 = crcS (lenF p) := by
        have := uget_pN (b ++ setB (lenF p) j x) c (crcS (lenF p)) (crcS_lt _)
        rw [← g3, ByteArray.size_append, hq] at this
        rwa [show b.size + 4 + p.size = b.size + (p.size + 4) from by omega]
      have hxx : (b ++ (setB (frameF p) j x ++ c)).extract b.size (b.size + 4 + p.size) = setB (lenF p) j x := by
        have := ext_mid b (setB (lenF p) j x) (pN (crcS (lenF p)) 4 ++ c)
        rw [← g2, hq] at this
        rwa [show b.size + 4 + p.size = b.size + (p.size + 4) from by omega]
      unfold unfO
      rw [hu, hc, hxx, if_neg]
      rintro ⟨-, -, -, hh⟩
      have hlt : j < (lenF p).data.toList.length := by rw [lsize]; exact h5
      have := burst_one (lenF p).data.toList j hlt x (by
        have h1 : crcS (lenF p) = crcS (setB (lenF p) j x) := hh
        exact h1)
      apply hx
      rw [this]
      unfold frameF
      rw [ByteArray.data_append, Array.toList_append, List.getD_eq_getElem?_getD, List.getElem?_append_left hlt, List.getElem?_eq_getElem hlt]
      rfl
    · -- a byte of the checksum
      have e1 : setB (frameF p) j x = lenF p ++ setB (pN (crcS (lenF p)) 4) (j - (lenF p).size) x := setB_right _ _ _ _ (by omega) _
      have hx' : x ≠ (pN ((crcS (lenF p) : Nat) : Int) 4).data.toList.getD (j - (lenF p).size) 0 := by
        intro h
        apply hx
        rw [h]
        unfold frameF
        rw [ByteArray.data_append, Array.toList_append, List.getD_eq_getElem?_getD, List.getD_eq_getElem?_getD, List.getElem?_append_right (by rw [lsize]; omega), lsize]
      have hn := uget_set (crcS (lenF p)) (crcS_lt _) (j - (lenF p).size) (by omega) x hx'
      generalize hL : setB (pN ((crcS (lenF p) : Nat) : Int) 4) (j - (lenF p).size) x = L at e1 hn
      have hLs : L.size = 4 := by rw [← hL, setB_size, pN_size]
      have g1 : b ++ (setB (frameF p) j x ++ c) = b ++ (pN p.size 4 ++ (p ++ (L ++ c))) := by rw [e1]; unfold lenF; simp only [app_assoc]
      have g2 : b ++ (setB (frameF p) j x ++ c) = b ++ (lenF p ++ (L ++ c)) := by rw [e1]; simp only [app_assoc]
      have g3 : b ++ (setB (frameF p) j x ++ c) = (b ++ lenF p) ++ (L ++ c) := by rw [g2, app_assoc]
      have hu : uget (b ++ (setB (frameF p) j x ++ c)) b.size 4 = p.size := by rw [g1]; exact uget_pN _ _ _ (by omega)
      have hc : uget (b ++ (setB (frameF p) j x ++ c)) (b.size + 4 + p.size) 4 = uget L 0 4 := by
        have := uget_mid (b ++ lenF p) L c 4 (by omega)
        rw [← g3, ByteArray.size_append, hl] at this
        rwa [show b.size + 4 + p.size = b.size + (p.size + 4) from by omega]
      have hxx : (b ++ (setB (frameF p) j x ++ c)).extract b.size (b.size + 4 + p.size) = lenF p := by
        have := ext_mid b (lenF p) (L ++ c)
        rw [← g2, hl] at this
        rwa [show b.size + 4 + p.size = b.size + (p.size + 4) from by omega]
      unfold unfO
      rw [hu, hc, hxx, if_neg]
      rintro ⟨-, -, -, hh⟩
      exact hn hh
/-- An entry with more bytes behind it is none. -/
theorem decR_more {e : Ent} (h : validE e = true) (q : ByteArray) (hq : 0 < q.size) : decR (bytesE e ++ q) = (ent0, 4) := by
  have hf := nest_codec.forth (ofEnt e) (valid_dom h) ⟨#[]⟩ q
  rw [nil_app] at hf
  have h2 : nest (bytesN e ++ q) r00 = (ofEnt e, ⟨(bytesN e).size, 0⟩) := by
    have e1 : (⟨#[]⟩ : ByteArray) ++ bytesN e = bytesN e := nil_app _
    have h3 : nest (bytesN e ++ q) ⟨0, 0⟩ = (ofEnt e, ⟨((⟨#[]⟩ : ByteArray) ++ bytesN e).size, 0⟩) := hf
    rw [e1] at h3
    exact h3
  have h3 : entR (bytesE e ++ q) r00 = (e, ⟨(bytesE e).size, 0⟩) := by
    rw [bytes_is, entR_nest, h2]
    rfl
  unfold decR
  rw [h3, if_pos rfl, if_pos (by rw [ByteArray.size_append]; show (bytesE e).size < _; omega)]
/-- An entry whose frame was changed is not read. -/
theorem readL_set (b c : ByteArray) {e : Ent} (hv : validE e = true) (j : Nat) (hj : j < (frameE e).size) (x : UInt8) (hx : x ≠ (frameE e).data.toList.getD j 0) (f : Nat) (n : Int) : readL (b ++ (setB (frameE e) j x ++ c)) f b.size n = [] := by
  cases f with
  | zero => rfl
  | succ f =>
    rw [readL]
    rcases unfO_set b (bytesE e) c (bytes_max hv) j hj x hx with h | ⟨n', h1, h2, h3⟩
    · have h : unfO (b ++ (setB (frameE e) j x ++ c)) b.size = none := h
      rw [h]
    · have h3 : unfO (b ++ (setB (frameE e) j x ++ c)) b.size = _ := h3
      rw [h3]
      simp only
      by_cases hn : n' < (bytesE e).size
      · have e1 : (bytesE e ++ (pN (crcS (lenF (bytesE e))) 4 ++ c)).extract 0 n' = (bytesE e).extract 0 n' := by
          apply ba_ext
          have := lsize (bytesE e)
          rw [list_extract, list_extract, ByteArray.data_append, Array.toList_append, List.take_append_of_le_length (by omega)]
        rw [e1, decR_short hv hn]
        rfl
      · have e1 : (bytesE e ++ (pN (crcS (lenF (bytesE e))) 4 ++ c)).extract 0 n' = bytesE e ++ (pN (crcS (lenF (bytesE e))) 4 ++ c).extract 0 (n' - (bytesE e).size) := by
          apply ba_ext
          have := lsize (bytesE e)
          rw [ByteArray.data_append, Array.toList_append, list_extract, list_extract, ByteArray.data_append, Array.toList_append, List.drop_zero, List.drop_zero, List.take_append, List.take_of_length_le (by omega), this]
        rw [ByteArray.size_append] at h2
        rw [e1, decR_more hv _ (by rw [ByteArray.size_extract]; omega)]
        rfl
/-- Of the bytes of right entries of which one is changed, the entries ahead of the changed one are read. -/
theorem readL_damaged (b : ByteArray) : ∀ (l : List Ent) (n : Int) (f k : Nat) (x : UInt8), Row l n → l.length ≤ f → k < (logF l).size → x ≠ (logF l).data.toList.getD k 0 →
    ∃ m, m < l.length ∧ readL (b ++ setB (logF l) k x) f b.size n = l.take m ∧ (logF (l.take m)).size ≤ k ∧ k < (logF (l.take (m + 1))).size := by
  intro l
  induction l generalizing b with
  | nil => intro n f k x _ _ hk; exact absurd hk (Nat.not_lt_zero _)
  | cons e l ih =>
    intro n f k x hr hf hk hx
    obtain ⟨hv, hl, hr⟩ := hr
    have hz : (logF (e :: l)).size = (frameE e).size + (logF l).size := ByteArray.size_append
    have hfl := lsize (frameE e)
    by_cases hkf : k < (frameE e).size
    · refine ⟨0, by simp, ?_, Nat.zero_le _, ?_⟩
      · have e1 : setB (logF (e :: l)) k x = setB (frameE e) k x ++ logF l := setB_left _ _ _ hkf _
        rw [e1]
        refine readL_set b (logF l) hv k hkf x ?_ f n
        intro h
        apply hx
        rw [h]
        show _ = (frameE e ++ logF l).data.toList.getD k 0
        rw [ByteArray.data_append, Array.toList_append, List.getD_eq_getElem?_getD, List.getD_eq_getElem?_getD, List.getElem?_append_left (by omega)]
      · show k < (frameE e ++ ⟨#[]⟩).size
        rw [app_nil]; exact hkf
    · cases f with
      | zero => exact absurd hf (by simp)
      | succ f =>
        have e1 : setB (logF (e :: l)) k x = frameE e ++ setB (logF l) (k - (frameE e).size) x := setB_right _ _ _ _ (by omega) _
        have hx2 : x ≠ (logF l).data.toList.getD (k - (frameE e).size) 0 := by
          intro h
          apply hx
          rw [h]
          show _ = (frameE e ++ logF l).data.toList.getD k 0
          rw [ByteArray.data_append, Array.toList_append, List.getD_eq_getElem?_getD, List.getD_eq_getElem?_getD, List.getElem?_append_right (by omega), hfl]
        obtain ⟨m, hm, h1, h2, h3⟩ := ih (b ++ frameE e) (n + 1) f (k - (frameE e).size) x hr (by simpa using hf) (by omega) hx2
        refine ⟨m + 1, by simpa using hm, ?_, ?_, ?_⟩
        · rw [e1, readL]
          have hu : unfO (b ++ (frameE e ++ setB (logF l) (k - (frameE e).size) x)) b.size = some (bytesE e, b.size + 8 + (bytesE e).size) := unfO_frame b (bytesE e) _ (bytes_max hv)
          rw [hu]
          simp only
          rw [decR_forth hv]
          simp only [hl, and_self, if_true]
          have hsz : (b ++ frameE e).size = b.size + ((bytesE e).size + 8) := by rw [ByteArray.size_append, frameE_size]
          rw [app_assoc, hsz] at h1
          rw [show b.size + 8 + (bytesE e).size = b.size + ((bytesE e).size + 8) from by omega, h1]
          rfl
        · show (frameE e ++ logF (l.take m)).size ≤ k
          rw [ByteArray.size_append]; omega
        · show k < (frameE e ++ logF (l.take (m + 1))).size
          rw [ByteArray.size_append]; omega
end Go.Proofs.YtmlclccfmlcabaaDoor.qb
