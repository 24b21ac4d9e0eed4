/-
  What lockboxref05.Ask returns, and lockboxref05.Do of the oracle.
-/
import Derived.Test.YtomeeebiijmnmaaGreatDoorRefNew
namespace Go.Proofs.YtomeeebiijmnmaaGreatDoor.Bk
open Mem Go.ChangeShapes Go.WideShapes Go.ChangeAt Go.RowKit
theorem rask_any (F : Nat → Nat) (n d Lk : Nat) (R : List Rw) (Ar : Option Addr) (cr : Nat) (At : Option Addr) (ct : Nat) (Ak : Option Addr) (ck : Nat) (key : Nat → Nat) (Ax : Option Addr) (cx : Nat) (x : Nat → Nat) (bk : Bool) (w : World)
    (B0 : Nat) (hB0 : B0 ≤ w.heap.size) (hR : RowsAt w B0 Ar Lk R) (hT : Reads w B0 At (n - d) (fun i => F (d + i))) (hct : n - d ≤ ct) (hn : n ≤ 100000) (hd : d ≤ n) (hLk : Lk ≤ 1000) (hlen : R.length ≤ 1000) (hkey : Reads w w.heap.size Ak Lk key) (hkb : ∀ i, i < Lk → key i < 256) (hx : Reads w w.heap.size Ax 16 x)
    (hAr : Ar = none → R.length = 0 ∧ cr = 0) (hAk : Ak = none → Lk = 0 ∧ ck = 0) (o : Option (Nat → Nat)) (R' : List Rw) (d' : Nat) (ht : askL F n (strF Lk key) R d bk x = (o, R', d')) :
    Calls Tryz.prog 35 #[.agg (row 2 (bookC (.slice Ar R.length cr) (.slice At (n - d) ct))), .slice Ak Lk ck, .slice Ax 16 cx, .bool bk] w (RAskOut F n Lk B0 o R' d' w) := by
  cases hf : R.find? (hitR bk (strF Lk key) x) with
  | some r =>
    rw [askL_old hf] at ht
    cases ht
    exact rask_hit F n d Lk R Ar cr At ct Ak ck key Ax cx x bk w B0 hB0 hR hT hct hn hd hLk hlen hkey hkb hx r hf
  | none =>
    rcases hq : drawTo F n (hit (!bk) R (strF Lk key)) d with ⟨_ | _, e⟩
    · rw [askL_end hf hq] at ht
      cases ht
      exact rask_end F n d Lk R Ar cr At ct Ak ck key Ax cx x bk w B0 hB0 hR hT hct hn hd hLk hlen hkey hkb hx hf _ hq hAr
    · rw [askL_new hf hq] at ht
      cases ht
      exact rask_new F n d Lk R Ar cr At ct Ak ck key Ax cx x bk w B0 hB0 hR hT hct hn hd hLk hlen hkey hkb hx hf _ hq hAr hAk
/-- what Do does: the book then, and the block, or that the draws are at their end -/
def RDoOut (F : Nat → Nat) (n k Lk B0 : Nat) (o : Option (Nat → Nat)) (R' : List Rw) (d' : Nat) (w : World) (e : Ending) (w' : World) : Prop :=
  Below w.heap.size w w' ∧ ∃ Ar cr At ct v ok, e = .returned (.tuple #[.agg #[.slice Ar R'.length cr, .slice At (n - d') ct], v, .bool ok]) ∧ (∀ W, Agree B0 w w' W → RowsAt W W.heap.size Ar Lk R' ∧ Reads W W.heap.size At (n - d') (fun i => F (d' + i))) ∧ n - d' ≤ ct ∧ (Ar = none → R'.length = 0 ∧ cr = 0) ∧
    ((∃ y A c, o = some y ∧ ok = true ∧ v = .slice A (sz k) c ∧ ∀ W, Agree B0 w w' W → Reads W W.heap.size A (sz k) y) ∨ (o = none ∧ ok = false))
set_option maxRecDepth 100000 in
set_option maxHeartbeats 1000000 in
theorem rdo_ask (F : Nat → Nat) (n d Lk : Nat) (R : List Rw) (Ar : Option Addr) (cr : Nat) (At : Option Addr) (ct : Nat) (Ak : Option Addr) (ck : Nat) (key : Nat → Nat) (Ax : Option Addr) (cx : Nat) (x : Nat → Nat) (bk : Bool) (w : World)
    (B0 : Nat) (hB0 : B0 ≤ w.heap.size) (hR : RowsAt w B0 Ar Lk R) (hT : Reads w B0 At (n - d) (fun i => F (d + i))) (hct : n - d ≤ ct) (hn : n ≤ 100000) (hd : d ≤ n) (hLk : Lk ≤ 1000) (hlen : R.length ≤ 1000) (hkey : Reads w w.heap.size Ak Lk key) (hkb : ∀ i, i < Lk → key i < 256) (hx : Reads w w.heap.size Ax 16 x)
    (hAr : Ar = none → R.length = 0 ∧ cr = 0) (hAk : Ak = none → Lk = 0 ∧ ck = 0) (o : Option (Nat → Nat)) (R' : List Rw) (d' : Nat) (ht : askL F n (strF Lk key) R d bk x = (o, R', d')) :
    Calls Tryz.prog 12 #[.int .i64 3, .slice Ak Lk ck, .agg (row 2 (bookC (.slice Ar R.length cr) (.slice At (n - d) ct))), .slice Ax 16 cx, .bool bk] w (RDoOut F n 3 Lk B0 o R' d' w) := by
  have hB1 : Below w.heap.size w ((w.alloc (.cells (row 2 (bookC (.slice Ar R.length cr) (.slice At (n - d) ct))) 36)).alloc (.cells (row 2 (bookC (.slice none 0 0) (.slice none 0 0))) 36)) := ((Below.refl _ _).alloc (Nat.le_refl _) _).alloc (by simp) _
  have h7 : Blk ((w.alloc (.cells (row 2 (bookC (.slice Ar R.length cr) (.slice At (n - d) ct))) 36)).alloc (.cells (row 2 (bookC (.slice none 0 0) (.slice none 0 0))) 36)) w.heap.size 36 (row 2 (bookC (.slice Ar R.length cr) (.slice At (n - d) ct))) := (Blk.fresh _ _ _).alloc _
  have h10 : Blk ((w.alloc (.cells (row 2 (bookC (.slice Ar R.length cr) (.slice At (n - d) ct))) 36)).alloc (.cells (row 2 (bookC (.slice none 0 0) (.slice none 0 0))) 36)) (w.heap.size + 1) 36 (row 2 (bookC (.slice none 0 0) (.slice none 0 0))) := by
    have := Blk.fresh (w.alloc (.cells (row 2 (bookC (.slice Ar R.length cr) (.slice At (n - d) ct))) 36)) 36 (row 2 (bookC (.slice none 0 0) (.slice none 0 0)))
    simpa using this
  have hs1 : Hid (((w.alloc (.cells (row 2 (bookC (.slice Ar R.length cr) (.slice At (n - d) ct))) 36)).alloc (.cells (row 2 (bookC (.slice none 0 0) (.slice none 0 0))) 36)).heap.size = w.heap.size + 2) := hid (by simp)
  go_enter Tryz.func12, Tryz.ntmps12
  have d7 : ∀ q, q < 2 → ((w.alloc (.cells (row 2 (bookC (.slice Ar R.length cr) (.slice At (n - d) ct))) 36)).alloc (.cells (row 2 (bookC (.slice none 0 0) (.slice none 0 0))) 36)).cell? ((⟨w.heap.size, 0, none⟩ : Addr).add q) = some (bookC (.slice Ar R.length cr) (.slice At (n - d) ct) q) := fun q hq => by
    rw [add_zero_off]
    exact (h7.cell q).trans (row_get 2 _ q hq)
  have H := hid (rask_any F n d Lk R Ar cr At ct Ak ck key Ax cx x bk ((w.alloc (.cells (row 2 (bookC (.slice Ar R.length cr) (.slice At (n - d) ct))) 36)).alloc (.cells (row 2 (bookC (.slice none 0 0) (.slice none 0 0))) 36)) B0 (Nat.le_trans hB0 hB1.size) (hR.below (hB1.mono hB0)) (hT.below (hB1.mono hB0)) hct hn hd hLk hlen ((hkey.below hB1).more hB1.size) hkb ((hx.below hB1).more hB1.size) hAr hAk o R' d' ht)
  have HB1 := hid hB1
  have H10 := hid h10
  clear hR hT hkey hx hkb hAr hAk ht h7 h10 hB1
  go_wp2_with (first
    | (with_reducible refine wpl_alloc rfl 36 rfl _ zRB2 ?_)
    | (with_reducible refine wpl_val rfl _ (exec_loadSt 36 _ rfl ⟨w.heap.size, 0, none⟩ rfl 2 _ d7 _ Tryz.underlying36 iRB) ?_))
  clear d7
  generalize ((w.alloc (.cells (row 2 (bookC (.slice Ar R.length cr) (.slice At (n - d) ct))) 36)).alloc (.cells (row 2 (bookC (.slice none 0 0) (.slice none 0 0))) 36)) = w1 at *
  refine H.out.mono ?_
  rintro e w2 ⟨hB2, Ar2, cr2, At2, ct2, v2, ok2, rfl, hst, hle, hA2, hor⟩
  rw [← row2 (.slice Ar2 R'.length cr2) (.slice At2 (n - d') ct2)]
  have H102 := hid (H10.out.below hB2 H10.out.lt)
  have Hst := hid hst
  have HA2 := hid hA2
  have Hor := hid hor
  have HB2 := hid hB2
  clear H hst hA2 hor hB2 H10
  go_wp2_with (with_reducible refine wpl_store rfl 36 _ _ rfl _ _ rfl rfl 36 _ H102.out (iRB' _) (by simp [row_size]) (one2 _ _ _ _ _ _) ?_)
  have hag : ∀ W, Agree B0 w (w2.setRow (w.heap.size + 1) (row 2 (bookC (.slice Ar2 R'.length cr2) (.slice At2 (n - d') ct2)))) W → Agree B0 w1 w2 W := fun W ha => by
    have h1 := hs1.out
    refine ⟨ha.os, ha.tape, ha.output, by simpa using ha.size, fun g hg hor => ?_⟩
    rw [ha.block g (by simpa using hg) (by omega), setRow_other w2 (w.heap.size + 1) g _ (by omega)]
  have hBf := below_setRow' (HB1.out.trans (HB2.out.mono HB1.out.size)) (Nat.le_succ w.heap.size) (row 2 (bookC (.slice Ar2 R'.length cr2) (.slice At2 (n - d') ct2)))
  refine ret_row3 Tryz.results12 rfl (w.heap.size + 1) rfl _ rfl _ rfl 36 2 _ (H102.out.setRow _) _ Tryz.underlying36 iRB ⟨hBf, Ar2, cr2, At2, ct2, v2, ok2, by rw [row2]; rfl, fun W ha => Hst.out W (hag W ha), hle, HA2.out, ?_⟩
  rcases Hor.out with ⟨y, A, c, h1, h2, h3, h4⟩ | ⟨h1, h2⟩
  · exact .inl ⟨y, A, c, h1, h2, h3, fun W ha => h4 W (hag W ha)⟩
  · exact .inr ⟨h1, h2⟩
end Go.Proofs.YtomeeebiijmnmaaGreatDoor.Bk
