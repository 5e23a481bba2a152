/- EntryReturns. -/
import Derived.Test.YtiojpfljnbdonaaOt
namespace Go.Proofs.Ytiojpfljnbdonaa.ov
open Go.ChangeShapes Go.WideShapes Go.ChangeAt Go.RowKit Go.Proofs.Ytiojpfljnbdonaa.ch Go.Proofs.Ytiojpfljnbdonaa.cy Go.Proofs.Ytiojpfljnbdonaa.cx Go.Proofs.Ytiojpfljnbdonaa.ra Go.Proofs.Ytiojpfljnbdonaa.rb Go.Proofs.Ytiojpfljnbdonaa.rc Go.Proofs.Ytiojpfljnbdonaa.da Go.Proofs.Ytiojpfljnbdonaa.ea Go.Proofs.Ytiojpfljnbdonaa.eb Go.Proofs.Ytiojpfljnbdonaa.ed Go.Proofs.Ytiojpfljnbdonaa.fb Go.Proofs.Ytiojpfljnbdonaa.ka Go.Proofs.Ytiojpfljnbdonaa.kb Go.Proofs.Ytiojpfljnbdonaa.kg Go.Proofs.Ytiojpfljnbdonaa.kj Go.Proofs.Ytiojpfljnbdonaa.oa Go.Proofs.Ytiojpfljnbdonaa.os Go.Proofs.Ytiojpfljnbdonaa.ob Go.Proofs.Ytiojpfljnbdonaa.oc Go.Proofs.Ytiojpfljnbdonaa.od Go.Proofs.Ytiojpfljnbdonaa.og Go.Proofs.Ytiojpfljnbdonaa.oh Go.Proofs.Ytiojpfljnbdonaa.oj Go.Proofs.Ytiojpfljnbdonaa.ok Go.Proofs.Ytiojpfljnbdonaa.ol Go.Proofs.Ytiojpfljnbdonaa.on Go.Proofs.Ytiojpfljnbdonaa.op Go.Proofs.Ytiojpfljnbdonaa.oq Go.Proofs.Ytiojpfljnbdonaa.ot
set_option linter.unusedSimpArgs false

theorem decR_fits (s : ByteArray) (hs : s.size ≤ 900000) : FitsE (decR s).1 := by
  have f0 : FitsE ent0 := ⟨⟨Nat.zero_le _, Nat.zero_le _⟩, Nat.zero_le _⟩
  unfold decR
  split
  · split
    · exact f0
    · split
      · exact entR_fits s r00 hs
      · exact f0
  · exact f0
abbrev EncIs (x : Ent) (s : ByteArray) (n : Int) : Prop := ∀ w : World, Calls Try.prog 12 #[.agg x.arr] w fun e' w' => e' = .returned (.tuple #[.string s, .int .i64 n]) ∧ Below w.heap.size w w'
abbrev DecIs (s : ByteArray) (x : Ent) (n : Int) : Prop := ∀ w : World, Calls Try.prog 20 #[.string s] w fun e' w' => e' = .returned (.tuple #[.agg x.arr, .int .i64 n]) ∧ Below w.heap.size w w'
theorem ret_facts {x : Ent} (hd : DrawnE x) : ∃ s : ByteArray, 0 < s.size ∧ s.size ≤ 9000 ∧ Hid (EncIs x s 0) ∧ Hid (DecIs s x 0) ∧ Hid (∀ k, k < s.size → DecIs (s.extract 0 k) ent0 5) := by
  have hv := drawn_valid hd
  have hs := small_bytes hv
  have hz := bytes_size hv
  refine ⟨bytesE x, by omega, hs, Lib.hid (enc_ok hv (drawn_fitsE hd)), Lib.hid (dec_ok hv (by omega)), Lib.hid fun k hk w => ?_⟩
  have := decode_any ((bytesE x).extract 0 k) (by rw [ByteArray.size_extract]; omega) w
  rwa [decR_short hv hk] at this
theorem spoilt_facts (t : ByteArray) (ht : t.size ≤ 900000) : ∃ (z : Ent) (g : Int) (u : ByteArray) (h : Int), Hid (DecIs t z g) ∧ Hid (EncIs z u h) ∧ (g = 0 → h = 0 ∧ u = t) := by
  refine ⟨(decR t).1, (decR t).2, encS (decR t).1, encE (decR t).1, Lib.hid (decode_any t ht), Lib.hid (fun w => encode_any _ w (decR_fits t ht)), fun hg => ?_⟩
  obtain ⟨h1, h2⟩ := decR_back hg
  unfold encE encS
  rw [if_pos h1, if_pos h1]
  exact ⟨rfl, h2⟩
set_option maxRecDepth 4000 in
set_option maxHeartbeats 8000000 in
theorem returns_walk (so : Option Addr) (len cap : Nat) (w : World) (hin : BytesIn so len w) (hl : len ≤ 9223372036854775807) (hc : len ≤ cap) :
    Calls Try.prog 5 #[.slice so len cap] w fun e w' => e = .returned (.bool true) ∧ Below w.heap.size w w' := by
  have HU : Hid True := Lib.hid trivial
  go_enter Try.func5, Try.ntmps5
  go_upto_region 11 with (first
    | (go_at_call 8; refine (awake_any _).mono ?_; rintro e1 w1 ⟨rfl, hb⟩; have le1 := hb.size; have HI := Lib.hid (bytesIn_below hin hb); have HB1 := Lib.hid hb; clear hb)
    | (go_at_call 9; refine (new_is so len cap 120 120 rfl _ HI.out hl hc (by decide)).mono ?_; rintro e2 w2 ⟨rfl, hC, hb, hz⟩; have C2 := Lib.hid hC; have HB2 := Lib.hid (HB1.out.trans (hb.mono HB1.out.size)); clear hC hb hz HB1 HI)
    | (go_at_call 10; refine (entry_any _ _ C2.out).mono ?_; rintro e3 w3 ⟨x, rfl, hd, hC, hg⟩; obtain ⟨s, hs0, hs1, HEN, HDE, HSH⟩ := ret_facts hd; have px := cod_lt hC; have C3 := Lib.hid hC; have HB3 := Lib.hid (below_row HB2.out hg le1); clear hC hg hd HB2 C2)
    | (clear HU; have hq := C3.out; clear hq; refine wp_newEntW rfl rfl ?_; intro w4 hE hb z4; have X4 := Lib.hid hE; clear hE; have C4 := Lib.hid (cod_keep C3.out hb); have HB4 := Lib.hid (HB3.out.trans (hb.mono HB3.out.size)); clear hb C3 HB3 )
    | (refine wp_storeEntW x X4.out (evals_length _) rfl rfl rfl rfl ?_; intro w5 hE hS; have X5 := Lib.hid hE; have C5 := Lib.hid (storedAt_cod hS C4.out (by omega)); have HB5 := Lib.hid (StoredAt.below hS HB4.out (by omega)); clear hE hS C4 HB4 X4 )
    | (refine wp_loadEnt x X5.out rfl rfl rfl ?_)
    | (go_at_call 12; (with_reducible refine (HEN.out _).mono ?_); rintro e6 w6 ⟨rfl, hb⟩; have X6 := Lib.hid (RowAt.keep X5.out hb); have C6 := Lib.hid (cod_keep C5.out hb); have HB6 := Lib.hid (HB5.out.trans (hb.mono HB5.out.size)); clear hb C5 HB5 X5)
    | (go_at_call 20; have hq := C6.out; clear hq; (with_reducible refine (HDE.out _).mono ?_); rintro e7 w7 ⟨rfl, hb⟩; have X7 := Lib.hid (RowAt.keep X6.out hb); have C7 := Lib.hid (cod_keep C6.out hb); have HB7 := Lib.hid (HB6.out.trans (hb.mono HB6.out.size)); clear hb C6 HB6 X6; have ly := X7.out.lt)
    | (have hq := C7.out; clear hq; refine wp_newEntW rfl rfl ?_; intro w8 hE hb z8; have Y8 := Lib.hid hE; clear hE; have X8 := Lib.hid (RowAt.keep X7.out hb); have C8 := Lib.hid (cod_keep C7.out hb); have HB8 := Lib.hid (HB7.out.trans (hb.mono HB7.out.size)); clear hb C7 HB7 X7)
    | (refine wp_storeEntW x Y8.out (evals_length _) rfl rfl rfl rfl ?_; intro w9 hE hS; have Y9 := Lib.hid hE; have X9 := Lib.hid (StoredAt.row hS X8.out (by omega)); have C9 := Lib.hid (storedAt_cod hS C8.out (by omega)); have HB9 := Lib.hid (StoredAt.below hS HB8.out (by omega)); clear hE hS C8 HB8 Y8 X8)
    | (go_at_call 18; have hq := C9.out; clear hq; (with_reducible refine (spoilt_full _ s _ C9.out hs0 (by omega)).mono ?_); rintro e10 w10 ⟨t, rfl, ht, hC, hg⟩; obtain ⟨z, g, u, h, HDT, HEZ, hgz⟩ := spoilt_facts t (by omega); have HGZ := Lib.hid hgz; clear hgz ht; have X10 := Lib.hid (RowAt.grown X9.out hg (row_ne (by omega))); have Y10 := Lib.hid (RowAt.grown Y9.out hg (row_ne (by omega))); have C10 := Lib.hid hC; have HB10 := Lib.hid (below_row HB9.out hg le1); clear hC hg C9 HB9 X9 Y9)
    | (go_at_call 20; have hq := C10.out; clear hq; (with_reducible refine (HDT.out _).mono ?_); rintro e11 w11 ⟨rfl, hb⟩; have X11 := Lib.hid (RowAt.keep X10.out hb); have Y11 := Lib.hid (RowAt.keep Y10.out hb); have C11 := Lib.hid (cod_keep C10.out hb); have HB11 := Lib.hid (HB10.out.trans (hb.mono HB10.out.size)); clear hb C10 HB10 X10 Y10; have lz := Y11.out.lt)
    | (have hq := C11.out; clear hq; refine wp_newEntW rfl rfl ?_; intro w12 hE hb z12; have Z12 := Lib.hid hE; clear hE; have X12 := Lib.hid (RowAt.keep X11.out hb); have Y12 := Lib.hid (RowAt.keep Y11.out hb); have C12 := Lib.hid (cod_keep C11.out hb); have HB12 := Lib.hid (HB11.out.trans (hb.mono HB11.out.size)); clear hb C11 HB11 X11 Y11)
    | (refine wp_storeEntW z Z12.out (evals_length _) rfl rfl rfl rfl ?_; intro w13 hE hS; have Z13 := Lib.hid hE; have X13 := Lib.hid (StoredAt.row hS X12.out (by omega)); have Y13 := Lib.hid (StoredAt.row hS Y12.out (by omega)); have C13 := Lib.hid (storedAt_cod hS C12.out (by omega)); have HB13 := Lib.hid (StoredAt.below hS HB12.out (by omega)); clear hE hS C12 HB12 Z12 X12 Y12))
  have qx : ∀ W : World, (binOp .eql 28 (.agg x.arr) (.agg x.arr)).run Try.prog W = .ok (.bool true) W := fun W => by rw [ent_eql, sameE_self]
  by_cases h0 : g = 0
  · obtain ⟨rfl, rfl⟩ := HGZ.out h0
    subst h0
    have qt : (u.toList == u.toList) = true := beq_self_eq_true _
    clear HGZ HDT HEN HDE
    go_wp2_with (first
      | (refine wp_loadEnt z Z13.out rfl rfl rfl ?_)
      | (go_at_call 12; (with_reducible refine (HEZ.out _).mono ?_); rintro e14 w14 ⟨rfl, hb⟩; clear Z13; have X14 := Lib.hid (RowAt.keep X13.out hb); have Y14 := Lib.hid (RowAt.keep Y13.out hb); have C14 := Lib.hid (cod_keep C13.out hb); have HB14 := Lib.hid (HB13.out.trans (hb.mono HB13.out.size)); clear hb C13 HB13 X13 Y13)
      | (go_at_call 19; (with_reducible refine (next_any _ s.size _ C14.out (by omega)).mono ?_); rintro e15 w15 ⟨k0, rfl, ka, kb, _, hC, hg⟩; have kc := kb (by omega); clear kb; obtain ⟨k, rfl⟩ := Int.eq_ofNat_of_zero_le ka; have hsl := fun W => slice_to s (k : Int) k rfl (by omega) W; have HSK := Lib.hid (HSH.out k (by omega)); have X15 := Lib.hid (RowAt.grown X14.out hg (row_ne (by omega))); have Y15 := Lib.hid (RowAt.grown Y14.out hg (row_ne (by omega))); have C15 := Lib.hid hC; have HB15 := Lib.hid (below_row HB14.out hg le1); clear hC hg C14 HB14 X14 Y14)
      | (go_at_call 20; have hq := C15.out; clear hq; (with_reducible refine (HSK.out _).mono ?_); rintro e16 w16 ⟨rfl, hb⟩; have X16 := Lib.hid (RowAt.keep X15.out hb); have Y16 := Lib.hid (RowAt.keep Y15.out hb); have C16 := Lib.hid (cod_keep C15.out hb); have HB16 := Lib.hid (HB15.out.trans (hb.mono HB15.out.size)); clear hb C15 HB15 X15 Y15; have lv := Y16.out.lt)
      | (have hq := C16.out; clear hq; refine wp_newEntW rfl rfl ?_; intro w17 hE hb z17; have V17 := Lib.hid hE; clear hE; have X17 := Lib.hid (RowAt.keep X16.out hb); have Y17 := Lib.hid (RowAt.keep Y16.out hb); have C17 := Lib.hid (cod_keep C16.out hb); have HB17 := Lib.hid (HB16.out.trans (hb.mono HB16.out.size)); clear hb C16 HB16 X16 Y16)
      | (refine wp_storeEntW ent0 V17.out (evals_length _) rfl rfl rfl rfl ?_; intro w18 hE hS; have V18 := Lib.hid hE; have X18 := Lib.hid (StoredAt.row hS X17.out (by omega)); have Y18 := Lib.hid (StoredAt.row hS Y17.out (by omega)); have C18 := Lib.hid (storedAt_cod hS C17.out (by omega)); have HB18 := Lib.hid (StoredAt.below hS HB17.out (by omega)); clear hE hS C17 HB17 V17 X17 Y17)
      | (refine wp_loadEnt x X18.out rfl rfl rfl ?_)
      | (refine wp_loadEnt x Y18.out rfl rfl rfl ?_))
    go_ret
    exact ⟨rfl, HB18.out⟩
  · have q0 : (g != 0) = true := by simpa using h0
    clear HGZ HDT HEN HDE h0
    go_wp2_with (first
      | (refine wp_loadEnt z Z13.out rfl rfl rfl ?_)
      | (go_at_call 12; (with_reducible refine (HEZ.out _).mono ?_); rintro e14 w14 ⟨rfl, hb⟩; clear Z13; have X14 := Lib.hid (RowAt.keep X13.out hb); have Y14 := Lib.hid (RowAt.keep Y13.out hb); have C14 := Lib.hid (cod_keep C13.out hb); have HB14 := Lib.hid (HB13.out.trans (hb.mono HB13.out.size)); clear hb C13 HB13 X13 Y13)
      | (go_at_call 19; (with_reducible refine (next_any _ s.size _ C14.out (by omega)).mono ?_); rintro e15 w15 ⟨k0, rfl, ka, kb, _, hC, hg⟩; have kc := kb (by omega); clear kb; obtain ⟨k, rfl⟩ := Int.eq_ofNat_of_zero_le ka; have hsl := fun W => slice_to s (k : Int) k rfl (by omega) W; have HSK := Lib.hid (HSH.out k (by omega)); have X15 := Lib.hid (RowAt.grown X14.out hg (row_ne (by omega))); have Y15 := Lib.hid (RowAt.grown Y14.out hg (row_ne (by omega))); have C15 := Lib.hid hC; have HB15 := Lib.hid (below_row HB14.out hg le1); clear hC hg C14 HB14 X14 Y14)
      | (go_at_call 20; have hq := C15.out; clear hq; (with_reducible refine (HSK.out _).mono ?_); rintro e16 w16 ⟨rfl, hb⟩; have X16 := Lib.hid (RowAt.keep X15.out hb); have Y16 := Lib.hid (RowAt.keep Y15.out hb); have C16 := Lib.hid (cod_keep C15.out hb); have HB16 := Lib.hid (HB15.out.trans (hb.mono HB15.out.size)); clear hb C15 HB15 X15 Y15; have lv := Y16.out.lt)
      | (have hq := C16.out; clear hq; refine wp_newEntW rfl rfl ?_; intro w17 hE hb z17; have V17 := Lib.hid hE; clear hE; have X17 := Lib.hid (RowAt.keep X16.out hb); have Y17 := Lib.hid (RowAt.keep Y16.out hb); have C17 := Lib.hid (cod_keep C16.out hb); have HB17 := Lib.hid (HB16.out.trans (hb.mono HB16.out.size)); clear hb C16 HB16 X16 Y16)
      | (refine wp_storeEntW ent0 V17.out (evals_length _) rfl rfl rfl rfl ?_; intro w18 hE hS; have V18 := Lib.hid hE; have X18 := Lib.hid (StoredAt.row hS X17.out (by omega)); have Y18 := Lib.hid (StoredAt.row hS Y17.out (by omega)); have C18 := Lib.hid (storedAt_cod hS C17.out (by omega)); have HB18 := Lib.hid (StoredAt.below hS HB17.out (by omega)); clear hE hS C17 HB17 V17 X17 Y17)
      | (refine wp_loadEnt x X18.out rfl rfl rfl ?_)
      | (refine wp_loadEnt x Y18.out rfl rfl rfl ?_))
    go_ret
    exact ⟨rfl, HB18.out⟩
end Go.Proofs.Ytiojpfljnbdonaa.ov
