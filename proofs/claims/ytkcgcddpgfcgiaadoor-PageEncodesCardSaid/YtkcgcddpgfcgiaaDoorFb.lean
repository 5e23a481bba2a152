/- PageTears: the walk. The sanity check of layer 2. -/
import Derived.Test.YtkcgcddpgfcgiaaDoorFa
import Derived.Test.YtkcgcddpgfcgiaaDoorEb
namespace Go.Proofs.YtkcgcddpgfcgiaaDoor.fb
open Go.ChangeShapes Go.WideShapes Go.ChangeAt Go.RowKit Go.Proofs.YtkcgcddpgfcgiaaDoor.cm Go.Proofs.YtkcgcddpgfcgiaaDoor.cw Go.Proofs.YtkcgcddpgfcgiaaDoor.cp Go.Proofs.YtkcgcddpgfcgiaaDoor.cg Go.Proofs.YtkcgcddpgfcgiaaDoor.ch Go.Proofs.YtkcgcddpgfcgiaaDoor.cx Go.Proofs.YtkcgcddpgfcgiaaDoor.ra Go.Proofs.YtkcgcddpgfcgiaaDoor.rb Go.Proofs.YtkcgcddpgfcgiaaDoor.rc Go.Proofs.YtkcgcddpgfcgiaaDoor.da Go.Proofs.YtkcgcddpgfcgiaaDoor.db Go.Proofs.YtkcgcddpgfcgiaaDoor.dc Go.Proofs.YtkcgcddpgfcgiaaDoor.dd Go.Proofs.YtkcgcddpgfcgiaaDoor.de Go.Proofs.YtkcgcddpgfcgiaaDoor.df Go.Proofs.YtkcgcddpgfcgiaaDoor.dg Go.Proofs.YtkcgcddpgfcgiaaDoor.dh Go.Proofs.YtkcgcddpgfcgiaaDoor.di Go.Proofs.YtkcgcddpgfcgiaaDoor.dj Go.Proofs.YtkcgcddpgfcgiaaDoor.dk Go.Proofs.YtkcgcddpgfcgiaaDoor.dl Go.Proofs.YtkcgcddpgfcgiaaDoor.ea Go.Proofs.YtkcgcddpgfcgiaaDoor.eb Go.Proofs.YtkcgcddpgfcgiaaDoor.fa

theorem new_most (so : Option Addr) (len cap m : Nat) (w : World) (h : BytesIn so len w) (hl : len ≤ 9223372036854775807) (hc : len ≤ cap) (hm : m ≤ 100000) :
    Calls Tryd.prog 7 #[.slice so len cap, .int .i64 (m : Int)] w (NewPost w) := by
  by_cases h60 : m < len
  · have HB := Lib.hid (codes_new so m cap w (fun i hi => h i (by omega)) (by omega))
    clear h
    go_enter Tryd.func7, Tryd.ntmps7
    go_wp2
    go_ret
    exact ⟨rfl, HB.out, (Below.refl _ _).alloc (Nat.le_refl _) _, by simp⟩
  · have HB := Lib.hid (codes_new so len cap w h (by omega))
    clear h
    go_enter Tryd.func7, Tryd.ntmps7
    go_wp2
    go_ret
    exact ⟨rfl, HB.out, (Below.refl _ _).alloc (Nat.le_refl _) _, by simp⟩
theorem new_is (so : Option Addr) (len cap m : Nat) (x : Int) (hx : x = m) (w : World) (h : BytesIn so len w) (hl : len ≤ 9223372036854775807) (hc : len ≤ cap) (hm : m ≤ 100000) :
    Calls Tryd.prog 7 #[.slice so len cap, .int .i64 x] w (NewPost w) := hx ▸ new_most so len cap m w h hl hc hm
theorem bytesIn_below {so : Option Addr} {len : Nat} {w w' : World} (h : BytesIn so len w) (hb : Below w.heap.size w w') : BytesIn so len w' := fun i hi => by
  obtain ⟨b, off, x, e, hc, hx⟩ := h i hi
  exact ⟨b, off, x, e, (hb.cell (p := ⟨b, off + i, none⟩) (cell_lt hc)).trans hc, hx⟩
/-- A drawn page is valid. -/
theorem encE_drawn {q : Pg} (h0 : 0 ≤ q.id) (h1 : q.id < 64) (h2 : 0 ≤ q.lsn) (h3 : q.lsn ≤ 1099511627776) (h4 : cellsB q = true) : encE q = 0 := by
  unfold encE
  rw [if_pos (by unfold numsB; simp; omega), if_pos h4]
theorem encode_ok (q : Pg) (h : encE q = 0) (w : World) (hw : TabOk w) :
    Calls Tryd.prog 11 #[.agg q.arr] w fun e w' => e = .returned (.tuple #[.string (encS q), .int .i64 0]) ∧ Below w.heap.size w w' :=
  encode_b q _ _ (by unfold encA; rw [if_pos h]) h w hw (fits_of_small (small_of_encE h))
theorem identify_b (s : ByteArray) (id : Int) (p : Pg) (n : Int) (hp : idnP s id = p) (hn : idnE s id = n) (w : World) (hw : TabOk w) :
    Calls Tryd.prog 23 #[.string s, .int .i64 id] w fun e w' => e = .returned (.tuple #[.agg p.arr, .int .i64 n]) ∧ Below w.heap.size w w' := by
  have := identify_any s id w hw
  unfold idnT at this
  rwa [hp, hn] at this
/-- Some cells of block b have been stored. -/
def Stored (b : Nat) (w W : World) : Prop := ∃ us, W = w.setCells b 0 us
theorem Stored.row {b b' : Nat} {vs : List Value} {w W : World} (h : Stored b w W) (hr : RowAt b' vs w) (hne : b ≠ b') : RowAt b' vs W := by
  obtain ⟨us, rfl⟩ := h
  exact hr.setCellsOther hne us 0
theorem Stored.below {b B : Nat} {a w W : World} (h : Stored b w W) (hb : Below B a w) (hB : B ≤ b) : Below B a W := by
  obtain ⟨us, rfl⟩ := h
  exact below_setCells b hB us 0 _ hb
theorem Stored.cod {b p : Nat} {w W : World} (h : Stored b w W) (hc : Cod p w) (hb : p < b) : Cod p W := by
  obtain ⟨us, rfl⟩ := h
  exact cod_cells us 0 hc hb
theorem Stored.since {b p : Nat} {w0 w W : World} (h : Stored b w W) (hc : Since p w0 w) (hb : w0.heap.size ≤ b) : Since p w0 W := by
  obtain ⟨us, rfl⟩ := h
  exact since_cells us 0 hc hb
theorem Stored.size {b : Nat} {w W : World} (h : Stored b w W) : W.heap.size = w.heap.size := by
  obtain ⟨us, rfl⟩ := h
  exact setCells_size b us 0 w
theorem wp_storePageW {ops : Array Oper} {rest : List Oper} {o : Oper} {a : Act} {w : World} {Q : Exit → Act → World → Prop} {x y : Operand} {b : Nat} {vs : List Value} (p : Pg) (hr : RowAt b vs w) (hl : vs.length = 34) (ho : o.op = .store 27 x y)
    (hx : a.eval x = .pointer (some ⟨b, 0, none⟩)) (hy : a.eval y = .agg p.arr) (hgd : Region.wanted o (yielded ops a.tmps) = true) (h : ∀ W, PgAt b p W → Stored b w W → wpList Tryd.prog ops Q rest (a.put o.dst undef) W) : wpList Tryd.prog ops Q (o :: rest) a w :=
  wp_storePage p hr hl ho hx hy hgd (h _ (stored_page p hr hl) ⟨_, rfl⟩)
theorem tear_ok (s t : ByteArray) (k : Nat) (hk : k ≤ 256) (hs : Posd s) (ht : Posd t) (hd : ∃ i, i < 8 ∧ byteN s i ≠ byteN t i) (id : Int) :
    idnE (s.extract 0 k ++ t.extract k 256) id = 0 → ((s.extract 0 k ++ t.extract k 256 = s ∨ s.extract 0 k ++ t.extract k 256 = t) ∧ (idnP (s.extract 0 k ++ t.extract k 256) id).id = id) := fun h =>
  ⟨tear_either hs ht hd k hk (idn_pos h).1, (idn_pos h).2⟩
theorem encE_new (n : Int) (h0 : 0 ≤ n) (h1 : n < 64) : encE (newPg n) = 0 := by
  unfold encE
  rw [if_pos (by unfold numsB newPg; simp; omega), if_pos (show cellsB (newPg n) = true from cellsB_new n 0)]
theorem new_small (n : Int) : Small (newPg n) := fun _ _ => Nat.zero_le _
theorem byte8 : byteN (encS (newPg 3)) 8 = 3 := by
  have e : encS (newPg 3) = putS (putS ⟨#[]⟩ 0 8) 3 4 ++ (cellsS (newPg 3).cell 16 ++ zeroS 24 ++ (strOfNums (putN (crcN (bodyS (newPg 3)) : Nat) 4) ++ strOfNums (putN 0 8))) := by
    show bodyS (newPg 3) ++ strOfNums (putN (crcN (bodyS (newPg 3)) : Nat) 4) ++ strOfNums (putN 0 8) = _
    generalize strOfNums (putN (crcN (bodyS (newPg 3)) : Nat) 4) = X
    unfold bodyS mainS
    show headS (newPg 3) ++ _ ++ _ ++ X ++ _ = _
    simp only [append_assoc]
    rfl
  have := ck.put_byte (putS ⟨#[]⟩ 0 8) (cellsS (newPg 3).cell 16 ++ zeroS 24 ++ (strOfNums (putN (crcN (bodyS (newPg 3)) : Nat) 4) ++ strOfNums (putN 0 8))) 3 (k := 4) (i := 0) (by decide)
  rw [← e, putS_size] at this
  exact this
theorem awake_any (w : World) (hw : TabOk w) : Calls Tryd.prog 6 #[] w fun e w' => e = .returned (.bool true) ∧ Below w.heap.size w w' := by
  have hz := tab_size hw
  have hsz := encS_size (new_small 3)
  have HE : Hid (∀ W, TabOk W → Calls Tryd.prog 11 #[.agg (newPg 3).arr] W fun e w' => e = .returned (.tuple #[.string (encS (newPg 3)), .int .i64 0]) ∧ Below W.heap.size W w') := Lib.hid fun W hW =>
    encode_b (newPg 3) _ _ (by unfold encA; rw [if_pos (encE_new 3 (by decide) (by decide))]) (encE_new 3 (by decide) (by decide)) W hW (fits_of_small (new_small 3))
  have hix : ∀ W : World, (Instr.index 9 (.string (encS (newPg 3))) (.int .i64 8)).run Tryd.prog W = .ok (.int .u8 3) W := fun W => by
    have := index_byte (encS (newPg 3)) 8 8 rfl (by omega) W
    rwa [byte8] at this
  generalize encS (newPg 3) = E at hsz HE hix
  go_enter Tryd.func6, Tryd.ntmps6
  go_wp2_with (first
    | (go_at_call 15; (with_reducible refine (new_any 3 _).mono ?_); rintro e w1 ⟨rfl, hb1⟩)
    | (go_at_call 11; (with_reducible refine (HE.out _ (tab_below hw hb1 hz)).mono ?_); rintro e w2 ⟨rfl, hb2⟩))
  go_ret
  exact ⟨rfl, hb1.trans (hb2.mono hb1.size)⟩
end Go.Proofs.YtkcgcddpgfcgiaaDoor.fb
