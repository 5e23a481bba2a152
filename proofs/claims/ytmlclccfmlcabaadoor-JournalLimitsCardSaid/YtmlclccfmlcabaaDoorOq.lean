/- Entries and their bytes: the facts of the statements. -/
import Derived.Test.YtmlclccfmlcabaaDoorOp
import Derived.Test.YtmlclccfmlcabaaDoorOn
namespace Go.Proofs.YtmlclccfmlcabaaDoor.oq
open Go.ChangeShapes Go.WideShapes Go.ChangeAt Go.RowKit Go.Proofs.YtmlclccfmlcabaaDoor.cp Go.Proofs.YtmlclccfmlcabaaDoor.cg Go.Proofs.YtmlclccfmlcabaaDoor.ch Go.Proofs.YtmlclccfmlcabaaDoor.ck Go.Proofs.YtmlclccfmlcabaaDoor.da Go.Proofs.YtmlclccfmlcabaaDoor.ed Go.Proofs.YtmlclccfmlcabaaDoor.ka Go.Proofs.YtmlclccfmlcabaaDoor.kb Go.Proofs.YtmlclccfmlcabaaDoor.kg Go.Proofs.YtmlclccfmlcabaaDoor.oa Go.Proofs.YtmlclccfmlcabaaDoor.ob Go.Proofs.YtmlclccfmlcabaaDoor.od Go.Proofs.YtmlclccfmlcabaaDoor.oh Go.Proofs.YtmlclccfmlcabaaDoor.oj Go.Proofs.YtmlclccfmlcabaaDoor.ok Go.Proofs.YtmlclccfmlcabaaDoor.ol Go.Proofs.YtmlclccfmlcabaaDoor.on Go.Proofs.YtmlclccfmlcabaaDoor.op

abbrev nR (k : Nat) (s : ByteArray) (r : RS) : Int × RS := numR s k r
def nest : ByteArray → RS → (Int × Int × Int × Int × Int × Int × Int × Int × CellM × CellM × ByteArray) × RS :=
  two (nR 8) (two (nR 1) (two (nR 4) (two (nR 8) (two (nR 8) (two (nR 8) (two (nR 4) (two (nR 1) (two celR (two celR lenR)))))))))
def toEnt (x : Int × Int × Int × Int × Int × Int × Int × Int × CellM × CellM × ByteArray) : Ent :=
  ⟨x.1, x.2.1, x.2.2.1, x.2.2.2.1, x.2.2.2.2.1, x.2.2.2.2.2.1, ⟨x.2.2.2.2.2.2.1, x.2.2.2.2.2.2.2.1, x.2.2.2.2.2.2.2.2.1, x.2.2.2.2.2.2.2.2.2.1⟩, x.2.2.2.2.2.2.2.2.2.2⟩
def ofEnt (e : Ent) : Int × Int × Int × Int × Int × Int × Int × Int × CellM × CellM × ByteArray := (e.lsn, e.kind, e.tx, e.prevTx, e.prevPage, e.ref, e.change.page, e.change.slot, e.change.before, e.change.after, e.blob)
theorem entR_nest (s : ByteArray) (r : RS) : entR s r = (toEnt (nest s r).1, (nest s r).2) := by
  simp only [entR, chgR, nest, two, lenR, nR, toEnt]
def bytesN (e : Ent) : ByteArray := pN e.lsn 8 ++ (pN e.kind 1 ++ (pN e.tx 4 ++ (pN e.prevTx 8 ++ (pN e.prevPage 8 ++ (pN e.ref 8 ++ (pN e.change.page 4 ++ (pN e.change.slot 1 ++ (cellP e.change.before ++ (cellP e.change.after ++ (pN e.blob.size 4 ++ e.blob))))))))))
def DomE (e : Ent) : Prop := backN e.lsn 8 = e.lsn ∧ backN e.kind 1 = e.kind ∧ backN e.tx 4 = e.tx ∧ backN e.prevTx 8 = e.prevTx ∧ backN e.prevPage 8 = e.prevPage ∧ backN e.ref 8 = e.ref ∧ backN e.change.page 4 = e.change.page ∧ backN e.change.slot 1 = e.change.slot ∧ cellB e.change.before = true ∧ cellB e.change.after = true ∧ e.blob.size < 4294967296
theorem nest_codec : Codec nest (fun x => bytesN (toEnt x)) (fun x => DomE (toEnt x)) := (num_codec 8 (by decide)).two ((num_codec 1 (by decide)).two ((num_codec 4 (by decide)).two ((num_codec 8 (by decide)).two ((num_codec 8 (by decide)).two ((num_codec 8 (by decide)).two ((num_codec 4 (by decide)).two ((num_codec 1 (by decide)).two (cel_codec.two (cel_codec.two len_codec)))))))))
theorem bytes_is (e : Ent) : bytesE e = bytesN e := by
  have e1 : ∀ (s : ByteArray) (n : Int) (k : Nat), putS s n k = s ++ pN n k := fun _ _ _ => rfl
  unfold bytesE headS bytesN
  simp only [e1, cellS_is, app_assoc, nil_app]
theorem ent_back {s : ByteArray} {r : RS} (h : (entR s r).2.err = 0) : (entR s r).2.pos ≤ s.size ∧ s.extract r.pos (entR s r).2.pos = bytesE (entR s r).1 := by
  rw [entR_nest] at h ⊢
  have := nest_codec.back s r h
  refine ⟨this.2.2.1, ?_⟩
  rw [bytes_is]
  exact this.2.2.2
theorem ent_forth (e : Ent) (h : DomE e) : entR (bytesE e) r00 = (e, ⟨(bytesE e).size, 0⟩) := by
  have := nest_codec.forth (ofEnt e) h ⟨#[]⟩ ⟨#[]⟩
  rw [nil_app, app_nil, nil_app] at this
  have h2 : nest (bytesN e) ⟨0, 0⟩ = (ofEnt e, ⟨(bytesN e).size, 0⟩) := this
  rw [bytes_is, entR_nest]
  show (toEnt (nest (bytesN e) ⟨0, 0⟩).1, (nest (bytesN e) ⟨0, 0⟩).2) = _
  rw [h2]
  rfl
/-- What is decoded from bytes has these bytes. -/
theorem decR_back {s : ByteArray} (h : (decR s).2 = 0) : validE (decR s).1 = true ∧ bytesE (decR s).1 = s := by
  unfold decR at h ⊢
  by_cases h0 : (entR s r00).2.err = 0
  · rw [if_pos h0] at h ⊢
    by_cases h1 : (entR s r00).2.pos < s.size
    · rw [if_pos h1] at h
      cases h
    · rw [if_neg h1] at h ⊢
      by_cases h2 : validE (entR s r00).1 = true
      · rw [if_pos h2]
        obtain ⟨b1, b2⟩ := ent_back h0
        refine ⟨h2, ?_⟩
        rw [← b2, show (entR s r00).2.pos = s.size from by omega]
        exact ext_all s
      · rw [if_neg h2] at h
        cases h
  · rw [if_neg h0] at h
    exact absurd h h0
theorem back8 {n : Int} (h0 : 0 ≤ n) (h1 : n ≤ 1099511627776) : backN n 8 = n := backN_8 n (by omega) (by omega)
theorem back4i {n : Int} (h0 : 0 ≤ n) (h1 : n < 4294967296) : backN n 4 = n := by
  obtain ⟨k, rfl⟩ := Int.eq_ofNat_of_zero_le h0
  exact back4 k (by omega)
theorem back1i {n : Int} (h0 : 0 ≤ n) (h1 : n < 256) : backN n 1 = n := by
  obtain ⟨k, rfl⟩ := Int.eq_ofNat_of_zero_le h0
  exact back1 k (by omega)
/-- Numbers, cells and the blob of a valid entry fit into its bytes. -/
theorem valid_dom {e : Ent} (h : validE e = true) : DomE e := by
  have hw := valid_fits h
  unfold validE at h
  simp only [Bool.and_eq_true] at h
  obtain ⟨hk, hn, ha⟩ := h
  unfold kindB at hk
  unfold numsB earlyB at hn
  simp only [Bool.and_eq_true, decide_eq_true_eq] at hk hn
  obtain ⟨n1, n2, ⟨n3, n4⟩, ⟨n5, n6⟩, n7, n8⟩ := hn
  have c0 : cellB noCell = true := by decide +kernel
  have key : (0 ≤ e.tx ∧ e.tx < 4294967296) ∧ (0 ≤ e.change.page ∧ e.change.page < 4294967296) ∧ (0 ≤ e.change.slot ∧ e.change.slot < 256) ∧ cellB e.change.before = true ∧ cellB e.change.after = true := by
    have hv : validH e.change = true → (0 ≤ e.change.page ∧ e.change.page < 4294967296) ∧ (0 ≤ e.change.slot ∧ e.change.slot < 256) ∧ cellB e.change.before = true ∧ cellB e.change.after = true := fun hv => by
      unfold validH idB slotB at hv
      simp only [Bool.and_eq_true, decide_eq_true_eq] at hv
      refine ⟨?_, ?_, ?_, ?_⟩
      · omega
      · omega
      · simp_all
      · simp_all
    have hz : sameH e.change chg0 = true → (0 ≤ e.change.page ∧ e.change.page < 4294967296) ∧ (0 ≤ e.change.slot ∧ e.change.slot < 256) ∧ cellB e.change.before = true ∧ cellB e.change.after = true := fun hc => by
      rw [sameH_iff] at hc
      rw [hc]
      exact ⟨⟨Int.le_refl _, by decide⟩, ⟨Int.le_refl _, by decide⟩, c0, c0⟩
    have ht : txB e.tx = true → 0 ≤ e.tx ∧ e.tx < 4294967296 := fun ht => by
      unfold txB at ht
      simp only [Bool.and_eq_true, decide_eq_true_eq] at ht
      omega
    have hp : linksPageB e = true → 0 ≤ e.tx ∧ e.tx < 4294967296 := fun ht => by
      unfold linksPageB at ht
      simp only [Bool.and_eq_true, beq_iff_eq] at ht
      omega
    unfold allowB at ha
    split at ha
    · simp only [Bool.and_eq_true, linksChangeB] at ha
      exact ⟨ht ha.1.1, hv ha.2.1⟩
    split at ha
    · simp only [Bool.and_eq_true, linksUndoB] at ha
      exact ⟨ht ha.1.1, hv ha.2.1⟩
    split at ha
    · simp only [Bool.and_eq_true, linksTurnB] at ha
      exact ⟨ht ha.1.1, hz ha.2.1⟩
    split at ha
    · simp only [Bool.and_eq_true, pageAloneB, decide_eq_true_eq] at ha
      obtain ⟨l1, ⟨p1, p2, p3⟩, -⟩ := ha
      rw [sameH_iff] at p3
      refine ⟨hp l1, by omega, ?_⟩
      rw [p3]
      exact ⟨⟨Int.le_refl _, show (0 : Int) < 256 from by decide⟩, c0, c0⟩
    · simp only [Bool.and_eq_true, linksNothingB] at ha
      exact ⟨hp ha.1.1, hz ha.2.1⟩
  obtain ⟨⟨t1, t2⟩, ⟨p1, p2⟩, ⟨s1, s2⟩, cb, ca⟩ := key
  exact ⟨back8 (by omega) n2, back1i (by omega) (by omega), back4i t1 t2, back8 n3 (by omega), back8 n5 (by omega), back8 n7 (by omega), back4i p1 p2, back1i s1 s2, cb, ca, by have := hw.2.2; omega⟩
theorem decR_forth {e : Ent} (h : validE e = true) : decR (bytesE e) = (e, 0) := by
  unfold decR
  rw [ent_forth e (valid_dom h)]
  simp only [Nat.lt_irrefl, if_true, if_false, h]
/-- Bytes that end early. -/
structure Good {α : Type} (f : ByteArray → RS → α × RS) : Prop where
  stick : ∀ s r, r.err = 5 → (f s r).2.err = 5
  pre : ∀ (s : ByteArray) (k : Nat), k ≤ s.size → ∀ r : RS, r.pos ≤ k → (f (s.extract 0 k) r).2.err = 5 ∨ (f (s.extract 0 k) r = f s r ∧ (f s r).2.pos ≤ k)
theorem pre_size {s : ByteArray} {k : Nat} (hk : k ≤ s.size) : (s.extract 0 k).size = k := by rw [ByteArray.size_extract]; omega
theorem pre_get {s : ByteArray} {k a n : Nat} (h : a + n ≤ k) (_hk : k ≤ s.size) : getN (s.extract 0 k) a n = getN s a n := by
  unfold getN
  have e : uget (s.extract 0 k) a n = uget s a n := uget_congr a n (fun i hi => by
    rw [list_extract, List.drop_zero, List.getD_eq_getElem?_getD, List.getD_eq_getElem?_getD, List.getElem?_take, if_pos (by omega)])
  rw [e]
theorem pre_ext {s : ByteArray} {k a b : Nat} (h : b ≤ k) : (s.extract 0 k).extract a b = s.extract a b := by
  apply ba_ext
  rw [list_extract, list_extract, list_extract, List.drop_zero, List.take_take, Nat.min_eq_left h]
theorem num_good (n : Nat) : Good (nR n) where
  stick := fun s r h => by
    show (numR s n r).2.err = 5
    unfold numR
    rw [if_neg (by omega)]
    exact h
  pre := fun s k hk r hp => by
    show (numR (s.extract 0 k) n r).2.err = 5 ∨ (numR (s.extract 0 k) n r = numR s n r ∧ (numR s n r).2.pos ≤ k)
    unfold numR
    rw [pre_size hk]
    by_cases h0 : r.err = 0
    · simp only [if_pos h0]
      by_cases h1 : r.pos + n ≤ k
      · right
        rw [if_pos h1, if_pos (show r.pos + n ≤ s.size by omega), pre_get h1 hk]
        exact ⟨rfl, h1⟩
      · left
        rw [if_neg h1]
    · right
      rw [if_neg h0, if_neg h0]
      exact ⟨rfl, hp⟩
theorem txt_pre (n : Nat) (s : ByteArray) (k : Nat) (hk : k ≤ s.size) (r : RS) (hp : r.pos ≤ k) : (txtR (s.extract 0 k) n r).2.err = 5 ∨ (txtR (s.extract 0 k) n r = txtR s n r ∧ (txtR s n r).2.pos ≤ k) := by
  unfold txtR
  rw [pre_size hk]
  by_cases h0 : r.err = 0
  · simp only [if_pos h0]
    by_cases h1 : r.pos + n ≤ k
    · right
      rw [if_pos h1, if_pos (show r.pos + n ≤ s.size by omega), pre_ext h1]
      exact ⟨rfl, h1⟩
    · left
      rw [if_neg h1]
  · right
    rw [if_neg h0, if_neg h0]
    exact ⟨rfl, hp⟩
theorem txt_stick (n : Nat) (s : ByteArray) (r : RS) (h : r.err = 5) : (txtR s n r).2.err = 5 := by
  unfold txtR
  rw [if_neg (by omega)]
  exact h
theorem Good.two {α β : Type} {f : ByteArray → RS → α × RS} {g : ByteArray → RS → β × RS} (hf : Good f) (hg : Good g) : Good (op.two f g) where
  stick := fun s r h => hg.stick _ _ (hf.stick s r h)
  pre := fun s k hk r hp => by
    rcases hf.pre s k hk r hp with h | ⟨h, hp1⟩
    · exact .inl (hg.stick _ _ h)
    · rcases hg.pre s k hk (f s r).2 hp1 with h2 | ⟨h2, hp2⟩
      · left
        show (g (s.extract 0 k) (f (s.extract 0 k) r).2).2.err = 5
        rw [h]
        exact h2
      · right
        refine ⟨?_, hp2⟩
        unfold op.two
        rw [h, h2]
theorem len_good : Good lenR where
  stick := fun s r h => txt_stick _ _ _ ((num_good 4).stick s r h)
  pre := fun s k hk r hp => by
    rcases (num_good 4).pre s k hk r hp with h | ⟨h, hp1⟩
    · exact .inl (txt_stick _ _ _ h)
    · have h' : numR (s.extract 0 k) 4 r = numR s 4 r := h
      rcases txt_pre (numR s 4 r).1.toNat s k hk (numR s 4 r).2 hp1 with h2 | ⟨h2, hp2⟩
      · left
        unfold lenR
        rw [h']
        exact h2
      · right
        unfold lenR
        rw [h', h2]
        exact ⟨rfl, hp2⟩
theorem cel_good : Good celR where
  stick := fun s r h => by
    have := (num_good 1).stick s r h
    unfold celR
    simp only
    have h1 : (numR s 1 r).2.err = 5 := this
    rw [if_neg (by omega)]
    exact h1
  pre := fun s k hk r hp => by
    rcases (num_good 1).pre s k hk r hp with h | ⟨h, hp1⟩
    · left
      have h1 : (numR (s.extract 0 k) 1 r).2.err = 5 := h
      unfold celR
      simp only
      rw [if_neg (by omega)]
      exact h1
    · have h' : numR (s.extract 0 k) 1 r = numR s 1 r := h
      have hp' : (numR s 1 r).2.pos ≤ k := hp1
      unfold celR
      simp only
      rw [h']
      by_cases h0 : (numR s 1 r).2.err = 0
      rotate_left
      · simp only [if_neg h0]; exact .inr ⟨trivial, hp'⟩
      simp only [if_pos h0]
      by_cases h1 : (numR s 1 r).1 = 255
      · simp only [if_pos h1]; exact .inr ⟨trivial, hp'⟩
      simp only [if_neg h1]
      by_cases h2 : 12 < (numR s 1 r).1
      · simp only [if_pos h2]; exact .inr ⟨trivial, hp'⟩
      simp only [if_neg h2]
      rcases txt_pre (numR s 1 r).1.toNat s k hk (numR s 1 r).2 hp' with h3 | ⟨h3, hp3⟩
      · exact .inl h3
      · rw [h3]; exact .inr ⟨rfl, hp3⟩
theorem nest_good : Good nest := (num_good 8).two ((num_good 1).two ((num_good 4).two ((num_good 8).two ((num_good 8).two ((num_good 8).two ((num_good 4).two ((num_good 1).two (cel_good.two (cel_good.two len_good)))))))))
theorem decR_short {e : Ent} (h : validE e = true) {k : Nat} (hk : k < (bytesE e).size) : decR ((bytesE e).extract 0 k) = (ent0, 5) := by
  have hf := ent_forth e (valid_dom h)
  have h5 : (entR ((bytesE e).extract 0 k) r00).2.err = 5 := by
    rcases nest_good.pre (bytesE e) k (by omega) r00 (Nat.zero_le _) with h1 | ⟨h1, h2⟩
    · rw [entR_nest]; exact h1
    · have : (nest (bytesE e) r00).2 = (entR (bytesE e) r00).2 := by rw [entR_nest]
      rw [this, hf] at h2
      exact absurd h2 (by simp only; omega)
  unfold decR
  rw [if_neg (by rw [h5]; decide), h5]
/-- How many bytes an entry has. -/
theorem cellP_size {c : CellM} (h : cellB c = true) : (cellP c).size = 1 + c.data.size := by
  obtain ⟨st, d⟩ := c
  unfold cellB at h
  simp only [decide_eq_true_eq] at h
  cases st
  · obtain rfl : d = ⟨#[]⟩ := h.2 rfl
    show (pN 255 1).size = 1 + 0
    rw [pN_size]
  · show (pN d.size 1 ++ d).size = 1 + d.size
    rw [ByteArray.size_append, pN_size]
theorem bytes_size {e : Ent} (h : validE e = true) : (bytesE e).size = 48 + e.change.before.data.size + e.change.after.data.size + e.blob.size := by
  obtain ⟨-, -, -, -, -, -, -, -, cb, ca, -⟩ := valid_dom h
  rw [bytes_is]
  unfold bytesN
  simp only [ByteArray.size_append, pN_size, cellP_size cb, cellP_size ca]
  omega
theorem drawn_chg {c : Chg} (h : Drawn c) : validH c = true := by
  obtain ⟨h1, h2, h3, h4, h5, h6⟩ := h
  have i1 : idB c.page = true := by unfold idB; exact decide_eq_true (by omega)
  have i2 : slotB c.slot = true := by unfold slotB; exact decide_eq_true (by omega)
  unfold validH
  rw [i1, i2, h5, h6]
  rfl
/-- What Entry draws is valid. -/
theorem drawn_valid {e : Ent} (h : DrawnE e) : validE e = true := by
  obtain ⟨l1, l2, h⟩ := h
  have nb0 : noBlobB ⟨#[]⟩ = true := by decide +kernel
  have nc0 : noChangeB chg0 = true := sameH_self _
  rcases h with ⟨hk, t1, t2, p1, p2, g1, g2, hc, hb, r1, r2⟩ | ⟨hk, t1, t2, p1, p2, g1, r1, hc, hb⟩ | ⟨hk, t1, p1, g1, r1, hc, hb⟩ | ⟨hk, t1, p1, g1, r1, r2, ⟨n, n1, n2, hc⟩, hb⟩
  · have hv := drawn_chg hc
    have ht : txB e.tx = true := by unfold txB; simp only [Bool.and_eq_true, decide_eq_true_eq]; omega
    rcases hk with hk | hk
    · have hr := r1 hk
      unfold validE kindB numsB earlyB allowB linksChangeB
      simp only [hk, hr, hb, ht, hv, nb0, if_true, Bool.and_eq_true, decide_eq_true_eq, beq_self_eq_true, and_true]
      omega
    · have hr := r2 hk
      unfold validE kindB numsB earlyB allowB linksUndoB
      simp only [hk, hb, ht, hv, nb0, if_true, if_false, show ¬ ((2:Int) = 1) from by decide, Bool.and_eq_true, decide_eq_true_eq, and_true, true_and]
      omega
  · have ht : txB e.tx = true := by unfold txB; simp only [Bool.and_eq_true, decide_eq_true_eq]; omega
    have k1 : ¬ e.kind = 1 := by omega
    have k2 : ¬ e.kind = 2 := by omega
    unfold validE kindB numsB earlyB allowB linksTurnB
    simp only [k1, k2, hk, if_true, if_false, r1, g1, hb, hc, ht, nb0, nc0, Bool.and_eq_true, decide_eq_true_eq, beq_self_eq_true, and_true, true_and]
    omega
  · have k1 : ¬ e.kind = 1 := by omega
    have k2 : ¬ e.kind = 2 := by omega
    have k3 : ¬ (e.kind = 3 ∨ e.kind = 4 ∨ e.kind = 5) := by omega
    have k7 : ¬ e.kind = 7 := by omega
    unfold validE kindB numsB earlyB allowB linksNothingB linksPageB someBlobB
    simp only [k1, k2, k3, k7, if_false, t1, p1, r1, g1, hc, nc0, Bool.and_eq_true, decide_eq_true_eq, beq_self_eq_true, and_true, true_and]
    omega
  · have hpa : pageAloneB e.change = true := by
      unfold pageAloneB
      rw [hc]
      simp only [Bool.and_eq_true, decide_eq_true_eq]
      exact ⟨n1, by omega, sameH_self _⟩
    unfold validE kindB numsB earlyB allowB linksPageB
    simp only [hk, t1, p1, g1, hb, hpa, nb0, if_true, if_false, show ¬ ((7:Int) = 1) from by decide, show ¬ ((7:Int) = 2) from by decide, show ¬ ((7:Int) = 3 ∨ (7:Int) = 4 ∨ (7:Int) = 5) from by decide, Bool.and_eq_true, decide_eq_true_eq, beq_self_eq_true, and_true]
    omega
theorem drawn_fitsE {e : Ent} (h : DrawnE e) : FitsE e := by
  have hw := valid_fits (drawn_valid h)
  exact ⟨⟨Nat.le_trans hw.1 (by decide), Nat.le_trans hw.2.1 (by decide)⟩, Nat.le_trans hw.2.2 (by decide)⟩
theorem enc_drawn {e : Ent} (h : DrawnE e) : encS e = bytesE e ∧ encE e = 0 := by
  unfold encS encE
  rw [drawn_valid h]
  exact ⟨rfl, rfl⟩
end Go.Proofs.YtmlclccfmlcabaaDoor.oq
