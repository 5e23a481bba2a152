/- PageReturns: the walk. -/
import Derived.Test.YtlfcnjnfnfimmaaDoorGb
import Derived.Deep.RegionHeld
import Derived.Test.YtlfcnjnfnfimmaaDoorFe
namespace Go.Proofs.YtlfcnjnfnfimmaaDoor.gc
open Go.ChangeShapes Go.WideShapes Go.ChangeAt Go.RowKit Go.Proofs.YtlfcnjnfnfimmaaDoor.cm Go.Proofs.YtlfcnjnfnfimmaaDoor.cw Go.Proofs.YtlfcnjnfnfimmaaDoor.cp Go.Proofs.YtlfcnjnfnfimmaaDoor.cg Go.Proofs.YtlfcnjnfnfimmaaDoor.ch Go.Proofs.YtlfcnjnfnfimmaaDoor.ck Go.Proofs.YtlfcnjnfnfimmaaDoor.cx Go.Proofs.YtlfcnjnfnfimmaaDoor.ra Go.Proofs.YtlfcnjnfnfimmaaDoor.rb Go.Proofs.YtlfcnjnfnfimmaaDoor.rc Go.Proofs.YtlfcnjnfnfimmaaDoor.da Go.Proofs.YtlfcnjnfnfimmaaDoor.db Go.Proofs.YtlfcnjnfnfimmaaDoor.dc Go.Proofs.YtlfcnjnfnfimmaaDoor.dd Go.Proofs.YtlfcnjnfnfimmaaDoor.de Go.Proofs.YtlfcnjnfnfimmaaDoor.df Go.Proofs.YtlfcnjnfnfimmaaDoor.dg Go.Proofs.YtlfcnjnfnfimmaaDoor.dh Go.Proofs.YtlfcnjnfnfimmaaDoor.di Go.Proofs.YtlfcnjnfnfimmaaDoor.dj Go.Proofs.YtlfcnjnfnfimmaaDoor.dk Go.Proofs.YtlfcnjnfnfimmaaDoor.dl Go.Proofs.YtlfcnjnfnfimmaaDoor.ea Go.Proofs.YtlfcnjnfnfimmaaDoor.eb Go.Proofs.YtlfcnjnfnfimmaaDoor.ec Go.Proofs.YtlfcnjnfnfimmaaDoor.ed Go.Proofs.YtlfcnjnfnfimmaaDoor.fa Go.Proofs.YtlfcnjnfnfimmaaDoor.fb Go.Proofs.YtlfcnjnfnfimmaaDoor.fd Go.Proofs.YtlfcnjnfnfimmaaDoor.fe Go.Proofs.YtlfcnjnfnfimmaaDoor.ga Go.Proofs.YtlfcnjnfnfimmaaDoor.gb

/-- The variables of several cells that live, and the world since the law began. -/
def St (l : List (Nat × List Value)) (w W : World) : Prop := (∀ x ∈ l, RowAt x.1 x.2 W) ∧ Below w.heap.size w W
theorem St.keep {l : List (Nat × List Value)} {w W W' : World} (h : St l w W) (hb : Below W.heap.size W W') : St l w W' :=
  ⟨fun x hx => (h.1 x hx).keep hb, h.2.trans (hb.mono h.2.size)⟩
theorem St.push {l : List (Nat × List Value)} {w W W' W2 : World} {q : Pg} (h : St l w W) (hb : Below W.heap.size W W') (hP : PgAt W.heap.size q W2) (hS : Stored W.heap.size W' W2) : St ((W.heap.size, q.vals) :: l) w W2 := by
  refine ⟨fun x hx => ?_, hS.below (h.2.trans (hb.mono h.2.size)) h.2.size⟩
  rcases List.mem_cons.1 hx with rfl | hx
  · exact hP
  · have hl := (h.1 x hx).lt
    exact hS.row ((h.1 x hx).keep hb) (by omega)
theorem St.tab {l : List (Nat × List Value)} {w W : World} (h : St l w W) (hw : TabOk w) (hz : 0 < w.heap.size) : TabOk W := tab_below hw h.2 hz
theorem St.pg {l : List (Nat × List Value)} {w W : World} (h : St l w W) {b : Nat} {q : Pg} (hx : (b, q.vals) ∈ l) : PgAt b q W := h.1 _ hx
theorem idn_enc {p : Pg} (h : encE p = 0) : idnE (encS p) p.id = 0 ∧ (idnP (encS p) p.id).arr = p.arr := by
  obtain ⟨hd, hs⟩ := dec_enc h
  have hid : idB p.id = true := by
    obtain ⟨⟨a, b, _, _⟩, _⟩ := encE_parts h
    unfold idB
    exact decide_eq_true ⟨a, b⟩
  have hr := read_enc h
  have hi := (sameP_iff.1 hr).1
  have h0 : idnE (encS p) p.id = 0 := by
    unfold idnE
    rw [if_pos hid, hd, if_neg (by decide), if_pos rfl, if_pos hi]
  refine ⟨h0, ?_⟩
  unfold idnP
  rw [if_neg (by rw [hd]; rintro ⟨_, h⟩; cases h), if_pos h0]
  exact sameP_arr hr
theorem idn_other {p : Pg} (h : encE p = 0) {k : Int} (hk : idB k = true) (hne : k ≠ p.id) : idnE (encS p) k = 6 := by
  obtain ⟨hd, hs⟩ := dec_enc h
  have hi := (sameP_iff.1 (read_enc h)).1
  unfold idnE
  rw [if_pos hk, hd, if_neg (by decide), if_pos rfl, if_neg (by rw [hi]; exact fun e => hne e.symm)]
theorem dec_zero : decE (zeroS 256) = 7 := by
  unfold decE
  have hc : checkE (zeroS 256) = 7 := by
    unfold checkE
    rw [if_neg (by rw [zeroS_size]; simp), if_pos rfl]
  rw [hc, if_neg (by decide)]
theorem idn_zero {k : Int} (hk : idB k = true) : idnE (zeroS 256) k = 0 ∧ idnP (zeroS 256) k = newPg k := by
  have h0 : idnE (zeroS 256) k = 0 := by
    unfold idnE
    rw [if_pos hk, if_pos dec_zero]
  refine ⟨h0, ?_⟩
  unfold idnP
  rw [if_pos ⟨hk, dec_zero⟩]
theorem decode_arr (s : ByteArray) (p : Pg) (n : Int) (hp : (decP s).arr = p.arr) (hn : decE s = n) (w : World) (hw : TabOk w) :
    Calls Tryd.prog 25 #[.string s] w fun e w' => e = .returned (.tuple #[.agg p.arr, .int .i64 n]) ∧ Below w.heap.size w w' := by
  have := decode_any s w hw
  unfold decT at this
  rwa [hp, hn] at this
theorem identify_arr (s : ByteArray) (id : Int) (p : Pg) (n : Int) (hp : (idnP s id).arr = p.arr) (hn : idnE s id = n) (w : World) (hw : TabOk w) :
    Calls Tryd.prog 27 #[.string s, .int .i64 id] w fun e w' => e = .returned (.tuple #[.agg p.arr, .int .i64 n]) ∧ Below w.heap.size w w' := by
  have := identify_any s id w hw
  unfold idnT at this
  rwa [hp, hn] at this

set_option maxRecDepth 4000 in
set_option maxHeartbeats 8000000 in
theorem returns_walk (so : Option Addr) (len cap : Nat) (a : Int) (w : World) (hw : TabOk w) (ha0 : 0 ≤ a) (ha1 : a ≤ 255) (hin : BytesIn so len w) (hl : len ≤ 9223372036854775807) (hc : len ≤ cap) :
    Calls Tryd.prog 6 #[.slice so len cap, .int .u8 a] w fun e w' => e = .returned (.bool true) ∧ Below w.heap.size w w' := by
  have hz := tab_size hw
  have HIN := Lib.hid hin
  clear hin
  go_enter Tryd.func6, Tryd.ntmps6
  go_wp2_with fail
  go_at_call 10
  refine (awake_any _ hw).mono ?_
  rintro e w1 ⟨rfl, hb1⟩
  have B1 := Lib.hid hb1
  have hle := hb1.size
  clear hb1
  go_wp2_with fail
  go_at_call 11
  refine (new_is so len cap 100 _ (by decide) _ (bytesIn_below HIN.out B1.out) hl hc (by decide)).mono ?_
  rintro e w2 ⟨rfl, hC2, hb2, hz2⟩
  have C2 := Lib.hid hC2
  have B2 := Lib.hid (B1.out.trans (hb2.mono B1.out.size))
  clear hC2 hb2 hz2
  go_wp2_with fail
  go_at_call 13
  refine (next_any w1.heap.size 64 _ C2.out (by decide)).mono ?_
  rintro e w3 ⟨r, rfl, hr0, hr1, _, hC3, hg3⟩
  have hr64 := hr1 (by decide)
  have C3 := Lib.hid hC3
  have B3 := Lib.hid (B2.out.grown hg3 B2.out.size (fun k e => by injection e with e; omega))
  clear hC3 hg3 hr1 C2
  go_wp2_with fail
  go_at_call 12
  refine (page_any w1.heap.size r _ C3.out).mono ?_
  rintro e w4 ⟨p, rfl, hp1, hp2, hp3, hp4, hC4, hg4⟩
  have HEP : Hid (encE p = 0) := Lib.hid (encE_drawn (by omega) (by omega) hp2 hp3 hp4)
  have S4 : Hid (St [] w w4) := Lib.hid ⟨fun x hx => (by cases hx), B3.out.grown hg4 B3.out.size (fun k e => by injection e with e; omega)⟩
  clear hC4 hg4 hp4 hp1 hp2 hp3 C3 hr0 hr64
  obtain ⟨k, hk⟩ : ∃ k, k = a % 64 := ⟨_, rfl⟩
  have hkid : idB k = true := by unfold idB; exact decide_eq_true (by omega)
  have HD : Hid (∀ W, TabOk W → Calls Tryd.prog 25 #[.string (encS p)] W fun e w' => e = .returned (.tuple #[.agg p.arr, .int .i64 0]) ∧ Below W.heap.size W w') := Lib.hid fun W hW =>
    decode_arr _ p 0 (sameP_arr (dec_enc HEP.out).2) (dec_enc HEP.out).1 W hW
  have H1 : Hid (∀ W, TabOk W → Calls Tryd.prog 27 #[.string (encS p), .int .i64 p.id] W fun e w' => e = .returned (.tuple #[.agg p.arr, .int .i64 0]) ∧ Below W.heap.size W w') := Lib.hid fun W hW =>
    identify_arr _ _ p 0 (idn_enc HEP.out).2 (idn_enc HEP.out).1 W hW
  have H3 : Hid (∀ W, TabOk W → Calls Tryd.prog 27 #[.string (zeroS 256), .int .i64 (a % 64)] W fun e w' => e = .returned (.tuple #[.agg (newPg (a % 64)).arr, .int .i64 0]) ∧ Below W.heap.size W w') := Lib.hid fun W hW => by
    rw [← hk]
    exact identify_b _ _ (newPg k) 0 (idn_zero hkid).2 (idn_zero hkid).1 W hW
  obtain ⟨y, n, H2, hn⟩ : ∃ (y : Pg) (n : Int), Hid (∀ W, TabOk W → Calls Tryd.prog 27 #[.string (encS p), .int .i64 (a % 64)] W fun e w' => e = .returned (.tuple #[.agg y.arr, .int .i64 n]) ∧ Below W.heap.size W w') ∧ ((a % 64 = p.id ∧ n = 0) ∨ (a % 64 ≠ p.id ∧ n = 6)) := by
    rw [← hk]
    by_cases e : k = p.id
    · exact ⟨p, 0, by rw [e]; exact H1, .inl ⟨e, rfl⟩⟩
    · exact ⟨_, _, Lib.hid fun W hW => identify_b _ _ _ 6 rfl (idn_other HEP.out hkid e) W hW, .inr ⟨e, rfl⟩⟩
  clear hk hkid k
  go_wp2_with (first
    | (refine wp_newPageW rfl rfl ?_; have _t := S4.out; intro w5 hP hb _; have N5 := Lib.hid hP; have H5 := Lib.hid hb; clear hP hb _t)
    | (refine wp_storePageW p N5.out (vals_length _) rfl rfl rfl rfl ?_; intro w6 hP hS; have S6 := Lib.hid (S4.out.push H5.out hP hS); clear hP hS S4 H5 N5)
    | (refine wp_loadPage p (S6.out.pg (List.mem_cons_self ..)) rfl rfl rfl ?_)
    | (go_at_call 15; (with_reducible refine (encode_ok p HEP.out _ (S6.out.tab hw hz)).mono ?_); rintro e w7 ⟨rfl, hb⟩; have S7 := Lib.hid (S6.out.keep hb); clear hb S6)
    | (go_at_call 25; (with_reducible refine (HD.out _ (S7.out.tab hw hz)).mono ?_); rintro e w8 ⟨rfl, hb⟩; have S8 := Lib.hid (S7.out.keep hb); clear hb S7)
    | (refine wp_newPageW rfl rfl ?_; have _t := S8.out; intro w9 hP hb _; have N9 := Lib.hid hP; have H9 := Lib.hid hb; clear hP hb _t)
    | (refine wp_storePageW p N9.out (vals_length _) rfl rfl rfl rfl ?_; intro w10 hP hS; have SA := Lib.hid (S8.out.push H9.out hP hS); have ca := PgAt.idAt (SA.out.pg (q := p) (List.mem_cons_of_mem _ (List.mem_cons_self ..))); clear hP hS S8 H9 N9)
    | (go_at_call 27; (with_reducible refine (H1.out _ (SA.out.tab hw hz)).mono ?_); rintro e w11 ⟨rfl, hb⟩; have SB := Lib.hid (SA.out.keep hb); clear hb SA ca)
    | (refine wp_newPageW rfl rfl ?_; have _t := SB.out; intro w12 hP hb _; have NC := Lib.hid hP; have HC := Lib.hid hb; clear hP hb _t)
    | (refine wp_storePageW p NC.out (vals_length _) rfl rfl rfl rfl ?_; intro w13 hP hS; have SC := Lib.hid (SB.out.push HC.out hP hS); clear hP hS SB HC NC)
    | (go_at_call 27; (with_reducible refine (H2.out _ (SC.out.tab hw hz)).mono ?_); rintro e w14 ⟨rfl, hb⟩; have SD := Lib.hid (SC.out.keep hb); clear hb SC)
    | (refine wp_newPageW rfl rfl ?_; have _t := SD.out; intro w15 hP hb _; have NE := Lib.hid hP; have HE := Lib.hid hb; clear hP hb _t)
    | (refine wp_storePageW y NE.out (vals_length _) rfl rfl rfl rfl ?_; intro w16 hP hS; have SE := Lib.hid (SD.out.push HE.out hP hS); clear hP hS SD HE NE)
    | (go_at_call 21; (with_reducible refine (blank_any _).mono ?_); rintro e w17 ⟨rfl, hb⟩; have SF := Lib.hid (SE.out.keep hb); clear hb SE)
    | (go_at_call 27; (with_reducible refine (H3.out _ (SF.out.tab hw hz)).mono ?_); rintro e w18 ⟨rfl, hb⟩; have SG := Lib.hid (SF.out.keep hb); clear hb SF)
    | (refine wp_newPageW rfl rfl ?_; have _t := SG.out; intro w19 hP hb _; have NH := Lib.hid hP; have HH := Lib.hid hb; clear hP hb _t)
    | (refine wp_storePageW (newPg (a % 64)) NH.out (vals_length _) rfl rfl rfl rfl ?_; intro w20 hP hS; have SH := Lib.hid (SG.out.push HH.out hP hS); clear hP hS SG HH NH))
  have D := Lib.hid SH.out.2
  have HP6 := Lib.hid (SH.out.pg (b := w4.heap.size) (q := p) (by simp))
  have HP9 := Lib.hid (SH.out.pg (b := w8.heap.size) (q := p) (by simp))
  have HP11 := Lib.hid (SH.out.pg (b := w11.heap.size) (q := p) (by simp))
  have HP16 := Lib.hid (SH.out.pg (b := w18.heap.size) (q := newPg (a % 64)) (by simp))
  clear SH
  generalize a % 64 = k at hn HP16 ⊢
  have peq := page_eql
  have e1 := sameP_self p
  have e2 := sameP_self (newPg k)
  rcases hn with ⟨hk, rfl⟩ | ⟨hk, rfl⟩
  · have k0 : (k == p.id) = true := by simpa using hk
    clear hk
    refine wp_region_held_drew (S := fun W => PgAt w4.heap.size p W ∧ PgAt w8.heap.size p W ∧ PgAt w11.heap.size p W ∧ PgAt w18.heap.size (newPg k) W ∧ Below w.heap.size w W ∧ W.cell? ⟨w4.heap.size, 0, none⟩ = some (.int .i64 p.id)) (by kernel_rfl) ⟨HP6.out.drew, HP9.out.drew, HP11.out.drew, HP16.out.drew, D.out.drew, PgAt.idAt HP6.out.drew⟩ (fun hHeld => ?_)
    refine wpAnyH_take (i := 0) (v := ?_) rfl (by kernel_rfl) (by kernel_rfl) (by kernel_rfl) (fun _ _ _ h => h) (Or.inl ⟨by rfl, ?_⟩) (by assumption) ?_
    rotate_left
    · (intro W hSw; replace hSw := hSw.2.2.2.2.2; (try dsimp only at hSw); go_simp; try with_reducible rfl)
    try simp only [Act.put, List.getElem_toArray, List.getElem_cons_zero, List.setIfInBounds_toArray, List.set_cons_zero, List.set_cons_succ]
    refine wpAnyH_take (i := 1) (v := ?_) rfl (by kernel_rfl) (by kernel_rfl) (by kernel_rfl) (fun _ _ _ h => h) (Or.inl ⟨by rfl, ?_⟩) (by assumption) ?_
    rotate_left
    · (intro W hSw; replace hSw := hSw.2.2.2.2.2; (try dsimp only at hSw); go_simp; try with_reducible rfl)
    try simp only [Act.put, List.getElem_toArray, List.getElem_cons_zero, List.getElem_cons_succ, List.setIfInBounds_toArray, List.set_cons_zero, List.set_cons_succ]
    refine wpAnyH_take (i := 2) (v := ?_) rfl (by kernel_rfl) (by kernel_rfl) (by kernel_rfl) (fun _ _ _ h => h) (Or.inl ⟨by rfl, ?_⟩) (by assumption) ?_
    rotate_left
    · (intro W hSw; replace hSw := hSw.2.2.2.2.2; (try dsimp only at hSw); go_simp; try with_reducible rfl)
    try simp only [Act.put, List.getElem_toArray, List.getElem_cons_zero, List.getElem_cons_succ, List.setIfInBounds_toArray, List.set_cons_zero, List.set_cons_succ]
    refine wpAnyH_take (i := 3) (v := ?_) rfl (by kernel_rfl) (by kernel_rfl) (by kernel_rfl) (fun _ _ _ h => h) (Or.inl ⟨by rfl, ?_⟩) (by assumption) ?_
    rotate_left
    · (intro W hSw; replace hSw := hSw.2.2.2.2.2; (try dsimp only at hSw); go_simp; try with_reducible rfl)
    try simp only [Act.put, List.getElem_toArray, List.getElem_cons_zero, List.getElem_cons_succ, List.setIfInBounds_toArray, List.set_cons_zero, List.set_cons_succ]
    refine wpAnyH_take (i := 4) (v := ?_) rfl (by kernel_rfl) (by kernel_rfl) (by kernel_rfl) (fun _ _ _ h => h) (Or.inl ⟨by rfl, ?_⟩) (by assumption) ?_
    rotate_left
    · (intro W hSw; replace hSw := hSw.2.2.2.2.2; (try dsimp only at hSw); go_simp; try with_reducible rfl)
    try simp only [Act.put, List.getElem_toArray, List.getElem_cons_zero, List.getElem_cons_succ, List.setIfInBounds_toArray, List.set_cons_zero, List.set_cons_succ]
    refine wpAnyH_take (i := 5) (v := ?_) rfl (by kernel_rfl) (by kernel_rfl) (by kernel_rfl) (fun _ _ _ h => h) (Or.inl ⟨by rfl, ?_⟩) (by assumption) ?_
    rotate_left
    · (intro W hSw; replace hSw := hSw.2.2.2.2.2; (try dsimp only at hSw); go_simp; try with_reducible rfl)
    try simp only [Act.put, List.getElem_toArray, List.getElem_cons_zero, List.getElem_cons_succ, List.setIfInBounds_toArray, List.set_cons_zero, List.set_cons_succ]
    refine wpAnyH_take (i := 6) (v := ?_) rfl (by kernel_rfl) (by kernel_rfl) (by kernel_rfl) (fun _ _ _ h => h) (Or.inl ⟨by rfl, ?_⟩) (by assumption) ?_
    rotate_left
    · (intro W hSw; replace hSw := hSw.2.2.2.2.2; (try dsimp only at hSw); go_simp; try with_reducible rfl)
    try simp only [Act.put, List.getElem_toArray, List.getElem_cons_zero, List.getElem_cons_succ, List.setIfInBounds_toArray, List.set_cons_zero, List.set_cons_succ]
    refine wpAnyH_take (i := 7) (v := ?_) rfl (by kernel_rfl) (by kernel_rfl) (by kernel_rfl) (fun _ _ _ h => h) (Or.inl ⟨by rfl, ?_⟩) (by assumption) ?_
    rotate_left
    · (intro W hSw; replace hSw := hSw.2.2.2.2.2; (try dsimp only at hSw); go_simp; try with_reducible rfl)
    try simp only [Act.put, List.getElem_toArray, List.getElem_cons_zero, List.getElem_cons_succ, List.setIfInBounds_toArray, List.set_cons_zero, List.set_cons_succ]
    refine wpAnyH_take (i := 8) (v := ?_) rfl (by kernel_rfl) (by kernel_rfl) (by kernel_rfl) (fun _ _ _ h => h) (Or.inl ⟨by rfl, ?_⟩) (by assumption) ?_
    rotate_left
    · (intro W hSw; replace hSw := hSw.2.2.2.2.2; (try dsimp only at hSw); go_simp; try with_reducible rfl)
    try simp only [Act.put, List.getElem_toArray, List.getElem_cons_zero, List.getElem_cons_succ, List.setIfInBounds_toArray, List.set_cons_zero, List.set_cons_succ]
    refine wpAnyH_take (i := 9) (v := ?_) rfl (by kernel_rfl) (by kernel_rfl) (by kernel_rfl) (fun _ _ _ h => h) (Or.inl ⟨by rfl, ?_⟩) (by assumption) ?_
    rotate_left
    · (intro W hSw; replace hSw := hSw.2.2.2.2.2; (try dsimp only at hSw); go_simp; try with_reducible rfl)
    try simp only [Act.put, List.getElem_toArray, List.getElem_cons_zero, List.getElem_cons_succ, List.setIfInBounds_toArray, List.set_cons_zero, List.set_cons_succ]
    refine wpAnyH_take (i := 10) (v := ?_) rfl (by kernel_rfl) (by kernel_rfl) (by kernel_rfl) (fun _ _ _ h => h) (Or.inl ⟨by rfl, ?_⟩) (by assumption) ?_
    rotate_left
    · (intro W hSw; replace hSw := hSw.2.2.2.2.2; (try dsimp only at hSw); go_simp; try with_reducible rfl)
    try simp only [Act.put, List.getElem_toArray, List.getElem_cons_zero, List.getElem_cons_succ, List.setIfInBounds_toArray, List.set_cons_zero, List.set_cons_succ]
    refine wpAnyH_take (i := 11) (v := .agg (Pg.arr p)) rfl (by kernel_rfl) (by kernel_rfl) (by kernel_rfl) (fun _ _ _ h => h) (yieldsIf_load_mid (by rfl) 27 _ rfl w4.heap.size 0 rfl (Pg.vals p) _ (fun W hSw => RowAt.range hSw.1 0 (fun j v hv => by rw [Nat.zero_add]; exact hv)) Tryd.underlying27 rfl (by rw [vals_length]; exact info_page)) (by assumption) ?_
    try simp only [Act.put, List.getElem_toArray, List.getElem_cons_zero, List.getElem_cons_succ, List.setIfInBounds_toArray, List.set_cons_zero, List.set_cons_succ]
    refine wpAnyH_take (i := 12) (v := .agg (Pg.arr p)) rfl (by kernel_rfl) (by kernel_rfl) (by kernel_rfl) (fun _ _ _ h => h) (yieldsIf_load_mid (by rfl) 27 _ rfl w8.heap.size 0 rfl (Pg.vals p) _ (fun W hSw => RowAt.range hSw.2.1 0 (fun j v hv => by rw [Nat.zero_add]; exact hv)) Tryd.underlying27 rfl (by rw [vals_length]; exact info_page)) (by assumption) ?_
    try simp only [Act.put, List.getElem_toArray, List.getElem_cons_zero, List.getElem_cons_succ, List.setIfInBounds_toArray, List.set_cons_zero, List.set_cons_succ]
    refine wpAnyH_take (i := 13) (v := ?_) rfl (by kernel_rfl) (by kernel_rfl) (by kernel_rfl) (fun _ _ _ h => h) (Or.inl ⟨by rfl, ?_⟩) (by assumption) ?_
    rotate_left
    · (intro W hSw; replace hSw := hSw.2.2.2.2.2; (try dsimp only at hSw); go_simp; try with_reducible rfl)
    try simp only [Act.put, List.getElem_toArray, List.getElem_cons_zero, List.getElem_cons_succ, List.setIfInBounds_toArray, List.set_cons_zero, List.set_cons_succ]
    refine wpAnyH_take (i := 14) (v := ?_) rfl (by kernel_rfl) (by kernel_rfl) (by kernel_rfl) (fun _ _ _ h => h) (Or.inl ⟨by rfl, ?_⟩) (by assumption) ?_
    rotate_left
    · (intro W hSw; replace hSw := hSw.2.2.2.2.2; (try dsimp only at hSw); go_simp; try with_reducible rfl)
    try simp only [Act.put, List.getElem_toArray, List.getElem_cons_zero, List.getElem_cons_succ, List.setIfInBounds_toArray, List.set_cons_zero, List.set_cons_succ]
    refine wpAnyH_take (i := 15) (v := ?_) rfl (by kernel_rfl) (by kernel_rfl) (by kernel_rfl) (fun _ _ _ h => h) (Or.inl ⟨by rfl, ?_⟩) (by assumption) ?_
    rotate_left
    · (intro W hSw; replace hSw := hSw.2.2.2.2.2; (try dsimp only at hSw); go_simp; try with_reducible rfl)
    try simp only [Act.put, List.getElem_toArray, List.getElem_cons_zero, List.getElem_cons_succ, List.setIfInBounds_toArray, List.set_cons_zero, List.set_cons_succ]
    refine wpAnyH_take (i := 16) (v := .agg (Pg.arr p)) rfl (by kernel_rfl) (by kernel_rfl) (by kernel_rfl) (fun _ _ _ h => h) (yieldsIf_load_mid (by rfl) 27 _ rfl w4.heap.size 0 rfl (Pg.vals p) _ (fun W hSw => RowAt.range hSw.1 0 (fun j v hv => by rw [Nat.zero_add]; exact hv)) Tryd.underlying27 rfl (by rw [vals_length]; exact info_page)) (by assumption) ?_
    try simp only [Act.put, List.getElem_toArray, List.getElem_cons_zero, List.getElem_cons_succ, List.setIfInBounds_toArray, List.set_cons_zero, List.set_cons_succ]
    refine wpAnyH_take (i := 17) (v := .agg (Pg.arr p)) rfl (by kernel_rfl) (by kernel_rfl) (by kernel_rfl) (fun _ _ _ h => h) (yieldsIf_load_mid (by rfl) 27 _ rfl w11.heap.size 0 rfl (Pg.vals p) _ (fun W hSw => RowAt.range hSw.2.2.1 0 (fun j v hv => by rw [Nat.zero_add]; exact hv)) Tryd.underlying27 rfl (by rw [vals_length]; exact info_page)) (by assumption) ?_
    try simp only [Act.put, List.getElem_toArray, List.getElem_cons_zero, List.getElem_cons_succ, List.setIfInBounds_toArray, List.set_cons_zero, List.set_cons_succ]
    refine wpAnyH_take (i := 18) (v := ?_) rfl (by kernel_rfl) (by kernel_rfl) (by kernel_rfl) (fun _ _ _ h => h) (Or.inl ⟨by rfl, ?_⟩) (by assumption) ?_
    rotate_left
    · (intro W hSw; replace hSw := hSw.2.2.2.2.2; (try dsimp only at hSw); go_simp; try with_reducible rfl)
    try simp only [Act.put, List.getElem_toArray, List.getElem_cons_zero, List.getElem_cons_succ, List.setIfInBounds_toArray, List.set_cons_zero, List.set_cons_succ]
    refine wpAnyH_take (i := 19) (v := ?_) rfl (by kernel_rfl) (by kernel_rfl) (by kernel_rfl) (fun _ _ _ h => h) (Or.inl ⟨by rfl, ?_⟩) (by assumption) ?_
    rotate_left
    · (intro W hSw; replace hSw := hSw.2.2.2.2.2; (try dsimp only at hSw); go_simp; try with_reducible rfl)
    try simp only [Act.put, List.getElem_toArray, List.getElem_cons_zero, List.getElem_cons_succ, List.setIfInBounds_toArray, List.set_cons_zero, List.set_cons_succ]
    refine wpAnyH_take (i := 20) (v := ?_) rfl (by kernel_rfl) (by kernel_rfl) (by kernel_rfl) (fun _ _ _ h => h) (Or.inl ⟨by rfl, ?_⟩) (by assumption) ?_
    rotate_left
    · (intro W hSw; replace hSw := hSw.2.2.2.2.2; (try dsimp only at hSw); go_simp; try with_reducible rfl)
    try simp only [Act.put, List.getElem_toArray, List.getElem_cons_zero, List.getElem_cons_succ, List.setIfInBounds_toArray, List.set_cons_zero, List.set_cons_succ]
    refine wpAnyH_take (i := 21) (v := ?_) rfl (by kernel_rfl) (by kernel_rfl) (by kernel_rfl) (fun _ _ _ h => h) (Or.inl ⟨by rfl, ?_⟩) (by assumption) ?_
    rotate_left
    · (intro W hSw; replace hSw := hSw.2.2.2.2.2; (try dsimp only at hSw); go_simp; try with_reducible rfl)
    try simp only [Act.put, List.getElem_toArray, List.getElem_cons_zero, List.getElem_cons_succ, List.setIfInBounds_toArray, List.set_cons_zero, List.set_cons_succ]
    refine wpAnyH_take (i := 22) (v := ?_) rfl (by kernel_rfl) (by kernel_rfl) (by kernel_rfl) (fun _ _ _ h => h) (Or.inl ⟨by rfl, ?_⟩) (by assumption) ?_
    rotate_left
    · (intro W hSw; replace hSw := hSw.2.2.2.2.2; (try dsimp only at hSw); go_simp; try with_reducible rfl)
    try simp only [Act.put, List.getElem_toArray, List.getElem_cons_zero, List.getElem_cons_succ, List.setIfInBounds_toArray, List.set_cons_zero, List.set_cons_succ]
    refine wpAnyH_take (i := 23) (v := ?_) rfl (by kernel_rfl) (by kernel_rfl) (by kernel_rfl) (fun _ _ _ h => h) (Or.inl ⟨by rfl, ?_⟩) (by assumption) ?_
    rotate_left
    · (intro W hSw; replace hSw := hSw.2.2.2.2.2; (try dsimp only at hSw); go_simp; try with_reducible rfl)
    try simp only [Act.put, List.getElem_toArray, List.getElem_cons_zero, List.getElem_cons_succ, List.setIfInBounds_toArray, List.set_cons_zero, List.set_cons_succ]
    refine wpAnyH_take (i := 24) (v := ?_) rfl (by kernel_rfl) (by kernel_rfl) (by kernel_rfl) (fun _ _ _ h => h) (Or.inl ⟨by rfl, ?_⟩) (by assumption) ?_
    rotate_left
    · (intro W hSw; replace hSw := hSw.2.2.2.2.2; (try dsimp only at hSw); go_simp; try with_reducible rfl)
    try simp only [Act.put, List.getElem_toArray, List.getElem_cons_zero, List.getElem_cons_succ, List.setIfInBounds_toArray, List.set_cons_zero, List.set_cons_succ]
    refine wpAnyH_take (i := 25) (v := ?_) rfl (by kernel_rfl) (by kernel_rfl) (by kernel_rfl) (fun _ _ _ h => h) (Or.inl ⟨by rfl, ?_⟩) (by assumption) ?_
    rotate_left
    · (intro W hSw; replace hSw := hSw.2.2.2.2.2; (try dsimp only at hSw); go_simp; try with_reducible rfl)
    try simp only [Act.put, List.getElem_toArray, List.getElem_cons_zero, List.getElem_cons_succ, List.setIfInBounds_toArray, List.set_cons_zero, List.set_cons_succ]
    refine wpAnyH_take (i := 26) (v := ?_) rfl (by kernel_rfl) (by kernel_rfl) (by kernel_rfl) (fun _ _ _ h => h) (Or.inl ⟨by rfl, ?_⟩) (by assumption) ?_
    rotate_left
    · (intro W hSw; replace hSw := hSw.2.2.2.2.2; (try dsimp only at hSw); go_simp; try with_reducible rfl)
    try simp only [Act.put, List.getElem_toArray, List.getElem_cons_zero, List.getElem_cons_succ, List.setIfInBounds_toArray, List.set_cons_zero, List.set_cons_succ]
    refine wpAnyH_take (i := 27) (v := ?_) rfl (by kernel_rfl) (by kernel_rfl) (by kernel_rfl) (fun _ _ _ h => h) (Or.inl ⟨by rfl, ?_⟩) (by assumption) ?_
    rotate_left
    · (intro W hSw; replace hSw := hSw.2.2.2.2.2; (try dsimp only at hSw); go_simp; try with_reducible rfl)
    try simp only [Act.put, List.getElem_toArray, List.getElem_cons_zero, List.getElem_cons_succ, List.setIfInBounds_toArray, List.set_cons_zero, List.set_cons_succ]
    refine wpAnyH_take (i := 28) (v := ?_) rfl (by kernel_rfl) (by kernel_rfl) (by kernel_rfl) (fun _ _ _ h => h) (Or.inl ⟨by rfl, ?_⟩) (by assumption) ?_
    rotate_left
    · (intro W hSw; replace hSw := hSw.2.2.2.2.2; (try dsimp only at hSw); go_simp; try with_reducible rfl)
    try simp only [Act.put, List.getElem_toArray, List.getElem_cons_zero, List.getElem_cons_succ, List.setIfInBounds_toArray, List.set_cons_zero, List.set_cons_succ]
    refine wpAnyH_take (i := 29) (v := ?_) rfl (by kernel_rfl) (by kernel_rfl) (by kernel_rfl) (fun _ _ _ h => h) (Or.inl ⟨by rfl, ?_⟩) (by assumption) ?_
    rotate_left
    · (intro W hSw; replace hSw := hSw.2.2.2.2.2; (try dsimp only at hSw); go_simp; try with_reducible rfl)
    try simp only [Act.put, List.getElem_toArray, List.getElem_cons_zero, List.getElem_cons_succ, List.setIfInBounds_toArray, List.set_cons_zero, List.set_cons_succ]
    refine wpAnyH_take (i := 30) (v := ?_) rfl (by kernel_rfl) (by kernel_rfl) (by kernel_rfl) (fun _ _ _ h => h) (Or.inl ⟨by rfl, ?_⟩) (by assumption) ?_
    rotate_left
    · (intro W hSw; replace hSw := hSw.2.2.2.2.2; (try dsimp only at hSw); go_simp; try with_reducible rfl)
    try simp only [Act.put, List.getElem_toArray, List.getElem_cons_zero, List.getElem_cons_succ, List.setIfInBounds_toArray, List.set_cons_zero, List.set_cons_succ]
    refine wpAnyH_take (i := 31) (v := ?_) rfl (by kernel_rfl) (by kernel_rfl) (by kernel_rfl) (fun _ _ _ h => h) (Or.inl ⟨by rfl, ?_⟩) (by assumption) ?_
    rotate_left
    · (intro W hSw; replace hSw := hSw.2.2.2.2.2; (try dsimp only at hSw); go_simp; try with_reducible rfl)
    try simp only [Act.put, List.getElem_toArray, List.getElem_cons_zero, List.getElem_cons_succ, List.setIfInBounds_toArray, List.set_cons_zero, List.set_cons_succ]
    refine wpAnyH_take (i := 32) (v := ?_) rfl (by kernel_rfl) (by kernel_rfl) (by kernel_rfl) (fun _ _ _ h => h) (Or.inl ⟨by rfl, ?_⟩) (by assumption) ?_
    rotate_left
    · (intro W hSw; replace hSw := hSw.2.2.2.2.2; (try dsimp only at hSw); go_simp; try with_reducible rfl)
    try simp only [Act.put, List.getElem_toArray, List.getElem_cons_zero, List.getElem_cons_succ, List.setIfInBounds_toArray, List.set_cons_zero, List.set_cons_succ]
    refine wpAnyH_take (i := 33) (v := ?_) rfl (by kernel_rfl) (by kernel_rfl) (by kernel_rfl) (fun _ _ _ h => h) (Or.inl ⟨by rfl, ?_⟩) (by assumption) ?_
    rotate_left
    · (intro W hSw; replace hSw := hSw.2.2.2.2.2; (try dsimp only at hSw); go_simp; try with_reducible rfl)
    try simp only [Act.put, List.getElem_toArray, List.getElem_cons_zero, List.getElem_cons_succ, List.setIfInBounds_toArray, List.set_cons_zero, List.set_cons_succ]
    refine wpAnyH_take (i := 34) (v := ?_) rfl (by kernel_rfl) (by kernel_rfl) (by kernel_rfl) (fun _ _ _ h => h) (Or.inl ⟨by rfl, ?_⟩) (by assumption) ?_
    rotate_left
    · (intro W hSw; replace hSw := hSw.2.2.2.2.2; (try dsimp only at hSw); go_simp; try with_reducible rfl)
    try simp only [Act.put, List.getElem_toArray, List.getElem_cons_zero, List.getElem_cons_succ, List.setIfInBounds_toArray, List.set_cons_zero, List.set_cons_succ]
    refine wpAnyH_take (i := 35) (v := undef) rfl (by kernel_rfl) (by kernel_rfl) (by kernel_rfl) (fun _ _ _ h => h) (Or.inr ⟨by rfl, rfl⟩) (by assumption) ?_
    try simp only [Act.put, List.getElem_toArray, List.getElem_cons_zero, List.getElem_cons_succ, List.setIfInBounds_toArray, List.set_cons_zero, List.set_cons_succ]
    refine wpAnyH_take (i := 36) (v := undef) rfl (by kernel_rfl) (by kernel_rfl) (by kernel_rfl) (fun _ _ _ h => h) (Or.inr ⟨by rfl, rfl⟩) (by assumption) ?_
    try simp only [Act.put, List.getElem_toArray, List.getElem_cons_zero, List.getElem_cons_succ, List.setIfInBounds_toArray, List.set_cons_zero, List.set_cons_succ]
    refine wpAnyH_take (i := 37) (v := ?_) rfl (by kernel_rfl) (by kernel_rfl) (by kernel_rfl) (fun _ _ _ h => h) (Or.inl ⟨by rfl, ?_⟩) (by assumption) ?_
    rotate_left
    · (intro W hSw; replace hSw := hSw.2.2.2.2.2; (try dsimp only at hSw); go_simp; try with_reducible rfl)
    try simp only [Act.put, List.getElem_toArray, List.getElem_cons_zero, List.getElem_cons_succ, List.setIfInBounds_toArray, List.set_cons_zero, List.set_cons_succ]
    refine wpAnyH_take (i := 38) (v := ?_) rfl (by kernel_rfl) (by kernel_rfl) (by kernel_rfl) (fun _ _ _ h => h) (Or.inl ⟨by rfl, ?_⟩) (by assumption) ?_
    rotate_left
    · (intro W hSw; replace hSw := hSw.2.2.2.2.2; (try dsimp only at hSw); go_simp; try with_reducible rfl)
    try simp only [Act.put, List.getElem_toArray, List.getElem_cons_zero, List.getElem_cons_succ, List.setIfInBounds_toArray, List.set_cons_zero, List.set_cons_succ]
    refine wpAnyH_take (i := 39) (v := ?_) rfl (by kernel_rfl) (by kernel_rfl) (by kernel_rfl) (fun _ _ _ h => h) (Or.inl ⟨by rfl, ?_⟩) (by assumption) ?_
    rotate_left
    · (intro W hSw; replace hSw := hSw.2.2.2.2.2; (try dsimp only at hSw); go_simp; try with_reducible rfl)
    try simp only [Act.put, List.getElem_toArray, List.getElem_cons_zero, List.getElem_cons_succ, List.setIfInBounds_toArray, List.set_cons_zero, List.set_cons_succ]
    refine wpAnyH_take (i := 40) (v := ?_) rfl (by kernel_rfl) (by kernel_rfl) (by kernel_rfl) (fun _ _ _ h => h) (Or.inl ⟨by rfl, ?_⟩) (by assumption) ?_
    rotate_left
    · (intro W hSw; replace hSw := hSw.2.2.2.2.2; (try dsimp only at hSw); go_simp; try with_reducible rfl)
    try simp only [Act.put, List.getElem_toArray, List.getElem_cons_zero, List.getElem_cons_succ, List.setIfInBounds_toArray, List.set_cons_zero, List.set_cons_succ]
    refine wpAnyH_take (i := 41) (v := ?_) rfl (by kernel_rfl) (by kernel_rfl) (by kernel_rfl) (fun _ _ _ h => h) (Or.inl ⟨by rfl, ?_⟩) (by assumption) ?_
    rotate_left
    · (intro W hSw; replace hSw := hSw.2.2.2.2.2; (try dsimp only at hSw); go_simp; try with_reducible rfl)
    try simp only [Act.put, List.getElem_toArray, List.getElem_cons_zero, List.getElem_cons_succ, List.setIfInBounds_toArray, List.set_cons_zero, List.set_cons_succ]
    refine wpAnyH_take (i := 42) (v := ?_) rfl (by kernel_rfl) (by kernel_rfl) (by kernel_rfl) (fun _ _ _ h => h) (Or.inl ⟨by rfl, ?_⟩) (by assumption) ?_
    rotate_left
    · (intro W hSw; replace hSw := hSw.2.2.2.2.2; (try dsimp only at hSw); go_simp; try with_reducible rfl)
    try simp only [Act.put, List.getElem_toArray, List.getElem_cons_zero, List.getElem_cons_succ, List.setIfInBounds_toArray, List.set_cons_zero, List.set_cons_succ]
    refine wpAnyH_take (i := 43) (v := ?_) rfl (by kernel_rfl) (by kernel_rfl) (by kernel_rfl) (fun _ _ _ h => h) (Or.inl ⟨by rfl, ?_⟩) (by assumption) ?_
    rotate_left
    · (intro W hSw; replace hSw := hSw.2.2.2.2.2; (try dsimp only at hSw); go_simp; try with_reducible rfl)
    try simp only [Act.put, List.getElem_toArray, List.getElem_cons_zero, List.getElem_cons_succ, List.setIfInBounds_toArray, List.set_cons_zero, List.set_cons_succ]
    refine wpAnyH_take (i := 44) (v := .agg (Pg.arr (newPg k))) rfl (by kernel_rfl) (by kernel_rfl) (by kernel_rfl) (fun _ _ _ h => h) (yieldsIf_load_mid (by rfl) 27 _ rfl w18.heap.size 0 rfl (Pg.vals (newPg k)) _ (fun W hSw => RowAt.range hSw.2.2.2.1 0 (fun j v hv => by rw [Nat.zero_add]; exact hv)) Tryd.underlying27 rfl (by rw [vals_length]; exact info_page)) (by assumption) ?_
    try simp only [Act.put, List.getElem_toArray, List.getElem_cons_zero, List.getElem_cons_succ, List.setIfInBounds_toArray, List.set_cons_zero, List.set_cons_succ]
    refine wpAnyH_take (i := 45) (v := ?_) rfl (by kernel_rfl) (by kernel_rfl) (by kernel_rfl) (fun _ _ _ h => h) (Or.inl ⟨by rfl, ?_⟩) (by assumption) ?_
    rotate_left
    · (intro W hSw; replace hSw := hSw.2.2.2.2.2; (try dsimp only at hSw); go_simp; try with_reducible rfl)
    try simp only [Act.put, List.getElem_toArray, List.getElem_cons_zero, List.getElem_cons_succ, List.setIfInBounds_toArray, List.set_cons_zero, List.set_cons_succ]
    refine wpAnyH_ready (rs := [46]) (by kernel_rfl) (by simp) (AllReadyH.cons rfl (fun K hK => ?_) AllReadyH.nil)
    go_simp
    go_wp2_with (go_at_call 19; (with_reducible refine (new_any k _).mono ?_); rintro e w21 ⟨rfl, hbN⟩)
    refine hK.out _ _ ⟨HP6.out.drew.keep hbN, HP9.out.drew.keep hbN, HP11.out.drew.keep hbN, HP16.out.drew.keep hbN, thru D.out.drew (by exact D.out.size) hbN, PgAt.idAt (HP6.out.drew.keep hbN)⟩ (fun hHeld2 => ?_)
    clear hK K
    refine wpAnyH_take (i := 47) (v := ?_) rfl (by kernel_rfl) (by kernel_rfl) (by kernel_rfl) (fun _ _ _ h => h) (Or.inl ⟨by rfl, ?_⟩) (by assumption) ?_
    rotate_left
    · (intro W hSw; replace hSw := hSw.2.2.2.2.2; (try dsimp only at hSw); go_simp; try with_reducible rfl)
    try simp only [Act.put, List.getElem_toArray, List.getElem_cons_zero, List.getElem_cons_succ, List.setIfInBounds_toArray, List.set_cons_zero, List.set_cons_succ]
    refine wpAnyH_take (i := 48) (v := ?_) rfl (by kernel_rfl) (by kernel_rfl) (by kernel_rfl) (fun _ _ _ h => h) (Or.inl ⟨by rfl, ?_⟩) (by assumption) ?_
    rotate_left
    · (intro W hSw; replace hSw := hSw.2.2.2.2.2; (try dsimp only at hSw); go_simp; try with_reducible rfl)
    try simp only [Act.put, List.getElem_toArray, List.getElem_cons_zero, List.getElem_cons_succ, List.setIfInBounds_toArray, List.set_cons_zero, List.set_cons_succ]
    refine wpAnyH_take (i := 49) (v := ?_) rfl (by kernel_rfl) (by kernel_rfl) (by kernel_rfl) (fun _ _ _ h => h) (Or.inl ⟨by rfl, ?_⟩) (by assumption) ?_
    rotate_left
    · (intro W hSw; replace hSw := hSw.2.2.2.2.2; (try dsimp only at hSw); go_simp; try with_reducible rfl)
    try simp only [Act.put, List.getElem_toArray, List.getElem_cons_zero, List.getElem_cons_succ, List.setIfInBounds_toArray, List.set_cons_zero, List.set_cons_succ]
    refine wpAnyH_done (by kernel_rfl) ?_ _
    go_wp2_with fail
    go_ret
    exact ⟨by simp, hHeld2.2.2.2.2.1⟩
  · have k0 : (k == p.id) = false := by simpa using hk
    clear hk
    refine wp_region_held_drew (S := fun W => PgAt w4.heap.size p W ∧ PgAt w8.heap.size p W ∧ PgAt w11.heap.size p W ∧ PgAt w18.heap.size (newPg k) W ∧ Below w.heap.size w W ∧ W.cell? ⟨w4.heap.size, 0, none⟩ = some (.int .i64 p.id)) (by kernel_rfl) ⟨HP6.out.drew, HP9.out.drew, HP11.out.drew, HP16.out.drew, D.out.drew, PgAt.idAt HP6.out.drew⟩ (fun hHeld => ?_)
    refine wpAnyH_take (i := 0) (v := ?_) rfl (by kernel_rfl) (by kernel_rfl) (by kernel_rfl) (fun _ _ _ h => h) (Or.inl ⟨by rfl, ?_⟩) (by assumption) ?_
    rotate_left
    · (intro W hSw; replace hSw := hSw.2.2.2.2.2; (try dsimp only at hSw); go_simp; try with_reducible rfl)
    try simp only [Act.put, List.getElem_toArray, List.getElem_cons_zero, List.setIfInBounds_toArray, List.set_cons_zero, List.set_cons_succ]
    refine wpAnyH_take (i := 1) (v := ?_) rfl (by kernel_rfl) (by kernel_rfl) (by kernel_rfl) (fun _ _ _ h => h) (Or.inl ⟨by rfl, ?_⟩) (by assumption) ?_
    rotate_left
    · (intro W hSw; replace hSw := hSw.2.2.2.2.2; (try dsimp only at hSw); go_simp; try with_reducible rfl)
    try simp only [Act.put, List.getElem_toArray, List.getElem_cons_zero, List.getElem_cons_succ, List.setIfInBounds_toArray, List.set_cons_zero, List.set_cons_succ]
    refine wpAnyH_take (i := 2) (v := ?_) rfl (by kernel_rfl) (by kernel_rfl) (by kernel_rfl) (fun _ _ _ h => h) (Or.inl ⟨by rfl, ?_⟩) (by assumption) ?_
    rotate_left
    · (intro W hSw; replace hSw := hSw.2.2.2.2.2; (try dsimp only at hSw); go_simp; try with_reducible rfl)
    try simp only [Act.put, List.getElem_toArray, List.getElem_cons_zero, List.getElem_cons_succ, List.setIfInBounds_toArray, List.set_cons_zero, List.set_cons_succ]
    refine wpAnyH_take (i := 3) (v := ?_) rfl (by kernel_rfl) (by kernel_rfl) (by kernel_rfl) (fun _ _ _ h => h) (Or.inl ⟨by rfl, ?_⟩) (by assumption) ?_
    rotate_left
    · (intro W hSw; replace hSw := hSw.2.2.2.2.2; (try dsimp only at hSw); go_simp; try with_reducible rfl)
    try simp only [Act.put, List.getElem_toArray, List.getElem_cons_zero, List.getElem_cons_succ, List.setIfInBounds_toArray, List.set_cons_zero, List.set_cons_succ]
    refine wpAnyH_take (i := 4) (v := ?_) rfl (by kernel_rfl) (by kernel_rfl) (by kernel_rfl) (fun _ _ _ h => h) (Or.inl ⟨by rfl, ?_⟩) (by assumption) ?_
    rotate_left
    · (intro W hSw; replace hSw := hSw.2.2.2.2.2; (try dsimp only at hSw); go_simp; try with_reducible rfl)
    try simp only [Act.put, List.getElem_toArray, List.getElem_cons_zero, List.getElem_cons_succ, List.setIfInBounds_toArray, List.set_cons_zero, List.set_cons_succ]
    refine wpAnyH_take (i := 5) (v := ?_) rfl (by kernel_rfl) (by kernel_rfl) (by kernel_rfl) (fun _ _ _ h => h) (Or.inl ⟨by rfl, ?_⟩) (by assumption) ?_
    rotate_left
    · (intro W hSw; replace hSw := hSw.2.2.2.2.2; (try dsimp only at hSw); go_simp; try with_reducible rfl)
    try simp only [Act.put, List.getElem_toArray, List.getElem_cons_zero, List.getElem_cons_succ, List.setIfInBounds_toArray, List.set_cons_zero, List.set_cons_succ]
    refine wpAnyH_take (i := 6) (v := ?_) rfl (by kernel_rfl) (by kernel_rfl) (by kernel_rfl) (fun _ _ _ h => h) (Or.inl ⟨by rfl, ?_⟩) (by assumption) ?_
    rotate_left
    · (intro W hSw; replace hSw := hSw.2.2.2.2.2; (try dsimp only at hSw); go_simp; try with_reducible rfl)
    try simp only [Act.put, List.getElem_toArray, List.getElem_cons_zero, List.getElem_cons_succ, List.setIfInBounds_toArray, List.set_cons_zero, List.set_cons_succ]
    refine wpAnyH_take (i := 7) (v := ?_) rfl (by kernel_rfl) (by kernel_rfl) (by kernel_rfl) (fun _ _ _ h => h) (Or.inl ⟨by rfl, ?_⟩) (by assumption) ?_
    rotate_left
    · (intro W hSw; replace hSw := hSw.2.2.2.2.2; (try dsimp only at hSw); go_simp; try with_reducible rfl)
    try simp only [Act.put, List.getElem_toArray, List.getElem_cons_zero, List.getElem_cons_succ, List.setIfInBounds_toArray, List.set_cons_zero, List.set_cons_succ]
    refine wpAnyH_take (i := 8) (v := ?_) rfl (by kernel_rfl) (by kernel_rfl) (by kernel_rfl) (fun _ _ _ h => h) (Or.inl ⟨by rfl, ?_⟩) (by assumption) ?_
    rotate_left
    · (intro W hSw; replace hSw := hSw.2.2.2.2.2; (try dsimp only at hSw); go_simp; try with_reducible rfl)
    try simp only [Act.put, List.getElem_toArray, List.getElem_cons_zero, List.getElem_cons_succ, List.setIfInBounds_toArray, List.set_cons_zero, List.set_cons_succ]
    refine wpAnyH_take (i := 9) (v := ?_) rfl (by kernel_rfl) (by kernel_rfl) (by kernel_rfl) (fun _ _ _ h => h) (Or.inl ⟨by rfl, ?_⟩) (by assumption) ?_
    rotate_left
    · (intro W hSw; replace hSw := hSw.2.2.2.2.2; (try dsimp only at hSw); go_simp; try with_reducible rfl)
    try simp only [Act.put, List.getElem_toArray, List.getElem_cons_zero, List.getElem_cons_succ, List.setIfInBounds_toArray, List.set_cons_zero, List.set_cons_succ]
    refine wpAnyH_take (i := 10) (v := ?_) rfl (by kernel_rfl) (by kernel_rfl) (by kernel_rfl) (fun _ _ _ h => h) (Or.inl ⟨by rfl, ?_⟩) (by assumption) ?_
    rotate_left
    · (intro W hSw; replace hSw := hSw.2.2.2.2.2; (try dsimp only at hSw); go_simp; try with_reducible rfl)
    try simp only [Act.put, List.getElem_toArray, List.getElem_cons_zero, List.getElem_cons_succ, List.setIfInBounds_toArray, List.set_cons_zero, List.set_cons_succ]
    refine wpAnyH_take (i := 11) (v := .agg (Pg.arr p)) rfl (by kernel_rfl) (by kernel_rfl) (by kernel_rfl) (fun _ _ _ h => h) (yieldsIf_load_mid (by rfl) 27 _ rfl w4.heap.size 0 rfl (Pg.vals p) _ (fun W hSw => RowAt.range hSw.1 0 (fun j v hv => by rw [Nat.zero_add]; exact hv)) Tryd.underlying27 rfl (by rw [vals_length]; exact info_page)) (by assumption) ?_
    try simp only [Act.put, List.getElem_toArray, List.getElem_cons_zero, List.getElem_cons_succ, List.setIfInBounds_toArray, List.set_cons_zero, List.set_cons_succ]
    refine wpAnyH_take (i := 12) (v := .agg (Pg.arr p)) rfl (by kernel_rfl) (by kernel_rfl) (by kernel_rfl) (fun _ _ _ h => h) (yieldsIf_load_mid (by rfl) 27 _ rfl w8.heap.size 0 rfl (Pg.vals p) _ (fun W hSw => RowAt.range hSw.2.1 0 (fun j v hv => by rw [Nat.zero_add]; exact hv)) Tryd.underlying27 rfl (by rw [vals_length]; exact info_page)) (by assumption) ?_
    try simp only [Act.put, List.getElem_toArray, List.getElem_cons_zero, List.getElem_cons_succ, List.setIfInBounds_toArray, List.set_cons_zero, List.set_cons_succ]
    refine wpAnyH_take (i := 13) (v := ?_) rfl (by kernel_rfl) (by kernel_rfl) (by kernel_rfl) (fun _ _ _ h => h) (Or.inl ⟨by rfl, ?_⟩) (by assumption) ?_
    rotate_left
    · (intro W hSw; replace hSw := hSw.2.2.2.2.2; (try dsimp only at hSw); go_simp; try with_reducible rfl)
    try simp only [Act.put, List.getElem_toArray, List.getElem_cons_zero, List.getElem_cons_succ, List.setIfInBounds_toArray, List.set_cons_zero, List.set_cons_succ]
    refine wpAnyH_take (i := 14) (v := ?_) rfl (by kernel_rfl) (by kernel_rfl) (by kernel_rfl) (fun _ _ _ h => h) (Or.inl ⟨by rfl, ?_⟩) (by assumption) ?_
    rotate_left
    · (intro W hSw; replace hSw := hSw.2.2.2.2.2; (try dsimp only at hSw); go_simp; try with_reducible rfl)
    try simp only [Act.put, List.getElem_toArray, List.getElem_cons_zero, List.getElem_cons_succ, List.setIfInBounds_toArray, List.set_cons_zero, List.set_cons_succ]
    refine wpAnyH_take (i := 15) (v := ?_) rfl (by kernel_rfl) (by kernel_rfl) (by kernel_rfl) (fun _ _ _ h => h) (Or.inl ⟨by rfl, ?_⟩) (by assumption) ?_
    rotate_left
    · (intro W hSw; replace hSw := hSw.2.2.2.2.2; (try dsimp only at hSw); go_simp; try with_reducible rfl)
    try simp only [Act.put, List.getElem_toArray, List.getElem_cons_zero, List.getElem_cons_succ, List.setIfInBounds_toArray, List.set_cons_zero, List.set_cons_succ]
    refine wpAnyH_take (i := 16) (v := .agg (Pg.arr p)) rfl (by kernel_rfl) (by kernel_rfl) (by kernel_rfl) (fun _ _ _ h => h) (yieldsIf_load_mid (by rfl) 27 _ rfl w4.heap.size 0 rfl (Pg.vals p) _ (fun W hSw => RowAt.range hSw.1 0 (fun j v hv => by rw [Nat.zero_add]; exact hv)) Tryd.underlying27 rfl (by rw [vals_length]; exact info_page)) (by assumption) ?_
    try simp only [Act.put, List.getElem_toArray, List.getElem_cons_zero, List.getElem_cons_succ, List.setIfInBounds_toArray, List.set_cons_zero, List.set_cons_succ]
    refine wpAnyH_take (i := 17) (v := .agg (Pg.arr p)) rfl (by kernel_rfl) (by kernel_rfl) (by kernel_rfl) (fun _ _ _ h => h) (yieldsIf_load_mid (by rfl) 27 _ rfl w11.heap.size 0 rfl (Pg.vals p) _ (fun W hSw => RowAt.range hSw.2.2.1 0 (fun j v hv => by rw [Nat.zero_add]; exact hv)) Tryd.underlying27 rfl (by rw [vals_length]; exact info_page)) (by assumption) ?_
    try simp only [Act.put, List.getElem_toArray, List.getElem_cons_zero, List.getElem_cons_succ, List.setIfInBounds_toArray, List.set_cons_zero, List.set_cons_succ]
    refine wpAnyH_take (i := 18) (v := ?_) rfl (by kernel_rfl) (by kernel_rfl) (by kernel_rfl) (fun _ _ _ h => h) (Or.inl ⟨by rfl, ?_⟩) (by assumption) ?_
    rotate_left
    · (intro W hSw; replace hSw := hSw.2.2.2.2.2; (try dsimp only at hSw); go_simp; try with_reducible rfl)
    try simp only [Act.put, List.getElem_toArray, List.getElem_cons_zero, List.getElem_cons_succ, List.setIfInBounds_toArray, List.set_cons_zero, List.set_cons_succ]
    refine wpAnyH_take (i := 19) (v := ?_) rfl (by kernel_rfl) (by kernel_rfl) (by kernel_rfl) (fun _ _ _ h => h) (Or.inl ⟨by rfl, ?_⟩) (by assumption) ?_
    rotate_left
    · (intro W hSw; replace hSw := hSw.2.2.2.2.2; (try dsimp only at hSw); go_simp; try with_reducible rfl)
    try simp only [Act.put, List.getElem_toArray, List.getElem_cons_zero, List.getElem_cons_succ, List.setIfInBounds_toArray, List.set_cons_zero, List.set_cons_succ]
    refine wpAnyH_take (i := 20) (v := ?_) rfl (by kernel_rfl) (by kernel_rfl) (by kernel_rfl) (fun _ _ _ h => h) (Or.inl ⟨by rfl, ?_⟩) (by assumption) ?_
    rotate_left
    · (intro W hSw; replace hSw := hSw.2.2.2.2.2; (try dsimp only at hSw); go_simp; try with_reducible rfl)
    try simp only [Act.put, List.getElem_toArray, List.getElem_cons_zero, List.getElem_cons_succ, List.setIfInBounds_toArray, List.set_cons_zero, List.set_cons_succ]
    refine wpAnyH_take (i := 21) (v := ?_) rfl (by kernel_rfl) (by kernel_rfl) (by kernel_rfl) (fun _ _ _ h => h) (Or.inl ⟨by rfl, ?_⟩) (by assumption) ?_
    rotate_left
    · (intro W hSw; replace hSw := hSw.2.2.2.2.2; (try dsimp only at hSw); go_simp; try with_reducible rfl)
    try simp only [Act.put, List.getElem_toArray, List.getElem_cons_zero, List.getElem_cons_succ, List.setIfInBounds_toArray, List.set_cons_zero, List.set_cons_succ]
    refine wpAnyH_take (i := 22) (v := ?_) rfl (by kernel_rfl) (by kernel_rfl) (by kernel_rfl) (fun _ _ _ h => h) (Or.inl ⟨by rfl, ?_⟩) (by assumption) ?_
    rotate_left
    · (intro W hSw; replace hSw := hSw.2.2.2.2.2; (try dsimp only at hSw); go_simp; try with_reducible rfl)
    try simp only [Act.put, List.getElem_toArray, List.getElem_cons_zero, List.getElem_cons_succ, List.setIfInBounds_toArray, List.set_cons_zero, List.set_cons_succ]
    refine wpAnyH_take (i := 23) (v := ?_) rfl (by kernel_rfl) (by kernel_rfl) (by kernel_rfl) (fun _ _ _ h => h) (Or.inl ⟨by rfl, ?_⟩) (by assumption) ?_
    rotate_left
    · (intro W hSw; replace hSw := hSw.2.2.2.2.2; (try dsimp only at hSw); go_simp; try with_reducible rfl)
    try simp only [Act.put, List.getElem_toArray, List.getElem_cons_zero, List.getElem_cons_succ, List.setIfInBounds_toArray, List.set_cons_zero, List.set_cons_succ]
    refine wpAnyH_take (i := 24) (v := ?_) rfl (by kernel_rfl) (by kernel_rfl) (by kernel_rfl) (fun _ _ _ h => h) (Or.inl ⟨by rfl, ?_⟩) (by assumption) ?_
    rotate_left
    · (intro W hSw; replace hSw := hSw.2.2.2.2.2; (try dsimp only at hSw); go_simp; try with_reducible rfl)
    try simp only [Act.put, List.getElem_toArray, List.getElem_cons_zero, List.getElem_cons_succ, List.setIfInBounds_toArray, List.set_cons_zero, List.set_cons_succ]
    refine wpAnyH_take (i := 25) (v := ?_) rfl (by kernel_rfl) (by kernel_rfl) (by kernel_rfl) (fun _ _ _ h => h) (Or.inl ⟨by rfl, ?_⟩) (by assumption) ?_
    rotate_left
    · (intro W hSw; replace hSw := hSw.2.2.2.2.2; (try dsimp only at hSw); go_simp; try with_reducible rfl)
    try simp only [Act.put, List.getElem_toArray, List.getElem_cons_zero, List.getElem_cons_succ, List.setIfInBounds_toArray, List.set_cons_zero, List.set_cons_succ]
    refine wpAnyH_take (i := 26) (v := ?_) rfl (by kernel_rfl) (by kernel_rfl) (by kernel_rfl) (fun _ _ _ h => h) (Or.inl ⟨by rfl, ?_⟩) (by assumption) ?_
    rotate_left
    · (intro W hSw; replace hSw := hSw.2.2.2.2.2; (try dsimp only at hSw); go_simp; try with_reducible rfl)
    try simp only [Act.put, List.getElem_toArray, List.getElem_cons_zero, List.getElem_cons_succ, List.setIfInBounds_toArray, List.set_cons_zero, List.set_cons_succ]
    refine wpAnyH_take (i := 27) (v := ?_) rfl (by kernel_rfl) (by kernel_rfl) (by kernel_rfl) (fun _ _ _ h => h) (Or.inl ⟨by rfl, ?_⟩) (by assumption) ?_
    rotate_left
    · (intro W hSw; replace hSw := hSw.2.2.2.2.2; (try dsimp only at hSw); go_simp; try with_reducible rfl)
    try simp only [Act.put, List.getElem_toArray, List.getElem_cons_zero, List.getElem_cons_succ, List.setIfInBounds_toArray, List.set_cons_zero, List.set_cons_succ]
    refine wpAnyH_take (i := 28) (v := ?_) rfl (by kernel_rfl) (by kernel_rfl) (by kernel_rfl) (fun _ _ _ h => h) (Or.inl ⟨by rfl, ?_⟩) (by assumption) ?_
    rotate_left
    · (intro W hSw; replace hSw := hSw.2.2.2.2.2; (try dsimp only at hSw); go_simp; try with_reducible rfl)
    try simp only [Act.put, List.getElem_toArray, List.getElem_cons_zero, List.getElem_cons_succ, List.setIfInBounds_toArray, List.set_cons_zero, List.set_cons_succ]
    refine wpAnyH_take (i := 29) (v := ?_) rfl (by kernel_rfl) (by kernel_rfl) (by kernel_rfl) (fun _ _ _ h => h) (Or.inl ⟨by rfl, ?_⟩) (by assumption) ?_
    rotate_left
    · (intro W hSw; replace hSw := hSw.2.2.2.2.2; (try dsimp only at hSw); go_simp; try with_reducible rfl)
    try simp only [Act.put, List.getElem_toArray, List.getElem_cons_zero, List.getElem_cons_succ, List.setIfInBounds_toArray, List.set_cons_zero, List.set_cons_succ]
    refine wpAnyH_take (i := 30) (v := ?_) rfl (by kernel_rfl) (by kernel_rfl) (by kernel_rfl) (fun _ _ _ h => h) (Or.inl ⟨by rfl, ?_⟩) (by assumption) ?_
    rotate_left
    · (intro W hSw; replace hSw := hSw.2.2.2.2.2; (try dsimp only at hSw); go_simp; try with_reducible rfl)
    try simp only [Act.put, List.getElem_toArray, List.getElem_cons_zero, List.getElem_cons_succ, List.setIfInBounds_toArray, List.set_cons_zero, List.set_cons_succ]
    refine wpAnyH_take (i := 31) (v := ?_) rfl (by kernel_rfl) (by kernel_rfl) (by kernel_rfl) (fun _ _ _ h => h) (Or.inl ⟨by rfl, ?_⟩) (by assumption) ?_
    rotate_left
    · (intro W hSw; replace hSw := hSw.2.2.2.2.2; (try dsimp only at hSw); go_simp; try with_reducible rfl)
    try simp only [Act.put, List.getElem_toArray, List.getElem_cons_zero, List.getElem_cons_succ, List.setIfInBounds_toArray, List.set_cons_zero, List.set_cons_succ]
    refine wpAnyH_take (i := 32) (v := ?_) rfl (by kernel_rfl) (by kernel_rfl) (by kernel_rfl) (fun _ _ _ h => h) (Or.inl ⟨by rfl, ?_⟩) (by assumption) ?_
    rotate_left
    · (intro W hSw; replace hSw := hSw.2.2.2.2.2; (try dsimp only at hSw); go_simp; try with_reducible rfl)
    try simp only [Act.put, List.getElem_toArray, List.getElem_cons_zero, List.getElem_cons_succ, List.setIfInBounds_toArray, List.set_cons_zero, List.set_cons_succ]
    refine wpAnyH_take (i := 33) (v := ?_) rfl (by kernel_rfl) (by kernel_rfl) (by kernel_rfl) (fun _ _ _ h => h) (Or.inl ⟨by rfl, ?_⟩) (by assumption) ?_
    rotate_left
    · (intro W hSw; replace hSw := hSw.2.2.2.2.2; (try dsimp only at hSw); go_simp; try with_reducible rfl)
    try simp only [Act.put, List.getElem_toArray, List.getElem_cons_zero, List.getElem_cons_succ, List.setIfInBounds_toArray, List.set_cons_zero, List.set_cons_succ]
    refine wpAnyH_take (i := 34) (v := ?_) rfl (by kernel_rfl) (by kernel_rfl) (by kernel_rfl) (fun _ _ _ h => h) (Or.inl ⟨by rfl, ?_⟩) (by assumption) ?_
    rotate_left
    · (intro W hSw; replace hSw := hSw.2.2.2.2.2; (try dsimp only at hSw); go_simp; try with_reducible rfl)
    try simp only [Act.put, List.getElem_toArray, List.getElem_cons_zero, List.getElem_cons_succ, List.setIfInBounds_toArray, List.set_cons_zero, List.set_cons_succ]
    refine wpAnyH_take (i := 35) (v := ?_) rfl (by kernel_rfl) (by kernel_rfl) (by kernel_rfl) (fun _ _ _ h => h) (Or.inl ⟨by rfl, ?_⟩) (by assumption) ?_
    rotate_left
    · (intro W hSw; replace hSw := hSw.2.2.2.2.2; (try dsimp only at hSw); go_simp; try with_reducible rfl)
    try simp only [Act.put, List.getElem_toArray, List.getElem_cons_zero, List.getElem_cons_succ, List.setIfInBounds_toArray, List.set_cons_zero, List.set_cons_succ]
    refine wpAnyH_take (i := 36) (v := ?_) rfl (by kernel_rfl) (by kernel_rfl) (by kernel_rfl) (fun _ _ _ h => h) (Or.inl ⟨by rfl, ?_⟩) (by assumption) ?_
    rotate_left
    · (intro W hSw; replace hSw := hSw.2.2.2.2.2; (try dsimp only at hSw); go_simp; try with_reducible rfl)
    try simp only [Act.put, List.getElem_toArray, List.getElem_cons_zero, List.getElem_cons_succ, List.setIfInBounds_toArray, List.set_cons_zero, List.set_cons_succ]
    refine wpAnyH_take (i := 37) (v := ?_) rfl (by kernel_rfl) (by kernel_rfl) (by kernel_rfl) (fun _ _ _ h => h) (Or.inl ⟨by rfl, ?_⟩) (by assumption) ?_
    rotate_left
    · (intro W hSw; replace hSw := hSw.2.2.2.2.2; (try dsimp only at hSw); go_simp; try with_reducible rfl)
    try simp only [Act.put, List.getElem_toArray, List.getElem_cons_zero, List.getElem_cons_succ, List.setIfInBounds_toArray, List.set_cons_zero, List.set_cons_succ]
    refine wpAnyH_take (i := 38) (v := ?_) rfl (by kernel_rfl) (by kernel_rfl) (by kernel_rfl) (fun _ _ _ h => h) (Or.inl ⟨by rfl, ?_⟩) (by assumption) ?_
    rotate_left
    · (intro W hSw; replace hSw := hSw.2.2.2.2.2; (try dsimp only at hSw); go_simp; try with_reducible rfl)
    try simp only [Act.put, List.getElem_toArray, List.getElem_cons_zero, List.getElem_cons_succ, List.setIfInBounds_toArray, List.set_cons_zero, List.set_cons_succ]
    refine wpAnyH_take (i := 39) (v := ?_) rfl (by kernel_rfl) (by kernel_rfl) (by kernel_rfl) (fun _ _ _ h => h) (Or.inl ⟨by rfl, ?_⟩) (by assumption) ?_
    rotate_left
    · (intro W hSw; replace hSw := hSw.2.2.2.2.2; (try dsimp only at hSw); go_simp; try with_reducible rfl)
    try simp only [Act.put, List.getElem_toArray, List.getElem_cons_zero, List.getElem_cons_succ, List.setIfInBounds_toArray, List.set_cons_zero, List.set_cons_succ]
    refine wpAnyH_take (i := 40) (v := ?_) rfl (by kernel_rfl) (by kernel_rfl) (by kernel_rfl) (fun _ _ _ h => h) (Or.inl ⟨by rfl, ?_⟩) (by assumption) ?_
    rotate_left
    · (intro W hSw; replace hSw := hSw.2.2.2.2.2; (try dsimp only at hSw); go_simp; try with_reducible rfl)
    try simp only [Act.put, List.getElem_toArray, List.getElem_cons_zero, List.getElem_cons_succ, List.setIfInBounds_toArray, List.set_cons_zero, List.set_cons_succ]
    refine wpAnyH_take (i := 41) (v := ?_) rfl (by kernel_rfl) (by kernel_rfl) (by kernel_rfl) (fun _ _ _ h => h) (Or.inl ⟨by rfl, ?_⟩) (by assumption) ?_
    rotate_left
    · (intro W hSw; replace hSw := hSw.2.2.2.2.2; (try dsimp only at hSw); go_simp; try with_reducible rfl)
    try simp only [Act.put, List.getElem_toArray, List.getElem_cons_zero, List.getElem_cons_succ, List.setIfInBounds_toArray, List.set_cons_zero, List.set_cons_succ]
    refine wpAnyH_take (i := 42) (v := ?_) rfl (by kernel_rfl) (by kernel_rfl) (by kernel_rfl) (fun _ _ _ h => h) (Or.inl ⟨by rfl, ?_⟩) (by assumption) ?_
    rotate_left
    · (intro W hSw; replace hSw := hSw.2.2.2.2.2; (try dsimp only at hSw); go_simp; try with_reducible rfl)
    try simp only [Act.put, List.getElem_toArray, List.getElem_cons_zero, List.getElem_cons_succ, List.setIfInBounds_toArray, List.set_cons_zero, List.set_cons_succ]
    refine wpAnyH_take (i := 43) (v := ?_) rfl (by kernel_rfl) (by kernel_rfl) (by kernel_rfl) (fun _ _ _ h => h) (Or.inl ⟨by rfl, ?_⟩) (by assumption) ?_
    rotate_left
    · (intro W hSw; replace hSw := hSw.2.2.2.2.2; (try dsimp only at hSw); go_simp; try with_reducible rfl)
    try simp only [Act.put, List.getElem_toArray, List.getElem_cons_zero, List.getElem_cons_succ, List.setIfInBounds_toArray, List.set_cons_zero, List.set_cons_succ]
    refine wpAnyH_take (i := 44) (v := .agg (Pg.arr (newPg k))) rfl (by kernel_rfl) (by kernel_rfl) (by kernel_rfl) (fun _ _ _ h => h) (yieldsIf_load_mid (by rfl) 27 _ rfl w18.heap.size 0 rfl (Pg.vals (newPg k)) _ (fun W hSw => RowAt.range hSw.2.2.2.1 0 (fun j v hv => by rw [Nat.zero_add]; exact hv)) Tryd.underlying27 rfl (by rw [vals_length]; exact info_page)) (by assumption) ?_
    try simp only [Act.put, List.getElem_toArray, List.getElem_cons_zero, List.getElem_cons_succ, List.setIfInBounds_toArray, List.set_cons_zero, List.set_cons_succ]
    refine wpAnyH_take (i := 45) (v := ?_) rfl (by kernel_rfl) (by kernel_rfl) (by kernel_rfl) (fun _ _ _ h => h) (Or.inl ⟨by rfl, ?_⟩) (by assumption) ?_
    rotate_left
    · (intro W hSw; replace hSw := hSw.2.2.2.2.2; (try dsimp only at hSw); go_simp; try with_reducible rfl)
    try simp only [Act.put, List.getElem_toArray, List.getElem_cons_zero, List.getElem_cons_succ, List.setIfInBounds_toArray, List.set_cons_zero, List.set_cons_succ]
    refine wpAnyH_ready (rs := [46]) (by kernel_rfl) (by simp) (AllReadyH.cons rfl (fun K hK => ?_) AllReadyH.nil)
    go_simp
    go_wp2_with (go_at_call 19; (with_reducible refine (new_any k _).mono ?_); rintro e w21 ⟨rfl, hbN⟩)
    refine hK.out _ _ ⟨HP6.out.drew.keep hbN, HP9.out.drew.keep hbN, HP11.out.drew.keep hbN, HP16.out.drew.keep hbN, thru D.out.drew (by exact D.out.size) hbN, PgAt.idAt (HP6.out.drew.keep hbN)⟩ (fun hHeld2 => ?_)
    clear hK K
    refine wpAnyH_take (i := 47) (v := ?_) rfl (by kernel_rfl) (by kernel_rfl) (by kernel_rfl) (fun _ _ _ h => h) (Or.inl ⟨by rfl, ?_⟩) (by assumption) ?_
    rotate_left
    · (intro W hSw; replace hSw := hSw.2.2.2.2.2; (try dsimp only at hSw); go_simp; try with_reducible rfl)
    try simp only [Act.put, List.getElem_toArray, List.getElem_cons_zero, List.getElem_cons_succ, List.setIfInBounds_toArray, List.set_cons_zero, List.set_cons_succ]
    refine wpAnyH_take (i := 48) (v := ?_) rfl (by kernel_rfl) (by kernel_rfl) (by kernel_rfl) (fun _ _ _ h => h) (Or.inl ⟨by rfl, ?_⟩) (by assumption) ?_
    rotate_left
    · (intro W hSw; replace hSw := hSw.2.2.2.2.2; (try dsimp only at hSw); go_simp; try with_reducible rfl)
    try simp only [Act.put, List.getElem_toArray, List.getElem_cons_zero, List.getElem_cons_succ, List.setIfInBounds_toArray, List.set_cons_zero, List.set_cons_succ]
    refine wpAnyH_take (i := 49) (v := ?_) rfl (by kernel_rfl) (by kernel_rfl) (by kernel_rfl) (fun _ _ _ h => h) (Or.inl ⟨by rfl, ?_⟩) (by assumption) ?_
    rotate_left
    · (intro W hSw; replace hSw := hSw.2.2.2.2.2; (try dsimp only at hSw); go_simp; try with_reducible rfl)
    try simp only [Act.put, List.getElem_toArray, List.getElem_cons_zero, List.getElem_cons_succ, List.setIfInBounds_toArray, List.set_cons_zero, List.set_cons_succ]
    refine wpAnyH_done (by kernel_rfl) ?_ _
    go_wp2_with fail
    go_ret
    exact ⟨by simp, hHeld2.2.2.2.2.1⟩
end Go.Proofs.YtlfcnjnfnfimmaaDoor.gc
