/-
  What lockboxref05.Do returns, whatever the kind.
-/
import Derived.Test.YtomeeebiijmnmaaGreatDoorRefAsk
import Derived.Test.YtomeeebiijmnmaaGreatDoorRefDo1
import Derived.Test.YtomeeebiijmnmaaGreatDoorRefDo2
namespace Go.Proofs.YtomeeebiijmnmaaGreatDoor.Bk
open Mem Go.ChangeShapes Go.WideShapes Go.ChangeAt Go.RowKit
/-- W has the blocks of bytes as w' has them -/
def KeepU8 (w' W : World) : Prop := ∀ g cs, Blk w' g 5 cs → W.heap[g]? = w'.heap[g]?
/-- what Do does, whatever the kind -/
def RDo (F : Nat → Nat) (n k Lk B0 : Nat) (o : Option (Nat → Nat)) (R' : List Rw) (d' : Nat) (w : World) (e : Ending) (w' : World) : Prop :=
  Below w.heap.size w w' ∧ ∃ Ar cr At ct v ok, e = .returned (.tuple #[.agg #[.slice Ar R'.length cr, .slice At (n - d') ct], v, .bool ok]) ∧ (∀ W, Agree B0 w w' W → RowsAt W W.heap.size Ar Lk R' ∧ Reads W W.heap.size At (n - d') (fun i => F (d' + i))) ∧ n - d' ≤ ct ∧ (Ar = none → R'.length = 0 ∧ cr = 0) ∧
    ((∃ y A c, o = some y ∧ ok = true ∧ v = .slice A (sz k) c ∧ ∀ W, Agree B0 w w' W → KeepU8 w' W → Reads W W.heap.size A (sz k) y) ∨ (o = none ∧ ok = false))
theorem rdo_any (p : Pl) (k d Lk : Nat) (R : List Rw) (Ar : Option Addr) (cr : Nat) (At : Option Addr) (ct : Nat) (Ak : Option Addr) (ck : Nat) (key : Nat → Nat) (Ax : Option Addr) (cx : Nat) (x : Nat → Nat) (bk : Bool) (w : World)
    (hf : fits k Lk) (B0 : Nat) (hB0 : B0 ≤ w.heap.size) (hR : RowsAt w B0 Ar Lk R) (hT : Reads w B0 At (p.n - d) (fun i => p.F (d + i))) (hct : p.n - d ≤ ct) (hn : p.n ≤ 100000) (hd : d ≤ p.n) (hLk : Lk ≤ 1000) (hck : Lk ≤ ck) (hlen : R.length ≤ 1000) (hkey : Reads w w.heap.size Ak Lk key) (hkb : ∀ i, i < Lk → key i < 256) (hx : Reads w w.heap.size Ax (sz k) x) (hxb : ∀ i, i < sz k → x i < 256)
    (hAr : Ar = none → R.length = 0 ∧ cr = 0) (hAk : Ak = none → Lk = 0 ∧ ck = 0) (o : Option (Nat → Nat)) (R' : List Rw) (d' : Nat) (ht : turnC k Lk key p R d bk x = (o, R', d')) :
    Calls Tryz.prog 12 #[.int .i64 (k : Int), .slice Ak Lk ck, .agg (row 2 (bookC (.slice Ar R.length cr) (.slice At (p.n - d) ct))), .slice Ax (sz k) cx, .bool bk] w (RDo p.F p.n k Lk B0 o R' d' w) := by
  rcases hf with ⟨rfl, hL⟩ | ⟨rfl, hL⟩ | ⟨rfl, hL⟩
  · unfold turnC at ht
    rw [if_pos rfl] at ht
    cases bk
    · rw [if_neg (by simp)] at ht
      cases ht
      refine (rdo_forth Ar R.length cr At (p.n - d) ct Ak Lk ck key Ax cx x w hL hkey hkb hx hxb _ rfl).mono ?_
      rintro e w' ⟨g, rfl, hb, hg, hB⟩
      exact ⟨hB, Ar, cr, At, ct, _, true, rfl, fun W ha => ⟨ha.rows hB0 hB hR, ha.reads hB0 hB hT⟩, hct, hAr, .inl ⟨_, _, 16, rfl, rfl, rfl, fun W ha _ => fun _ => ⟨_, rfl, Nat.lt_of_lt_of_le hb.lt ha.size, fun i hi => by
        rw [add_zero_off, World.cell?_of_block (w := w') (a := ⟨g, i, none⟩) (ha.block g hb.lt (.inr hg))]
        exact hb.val i hi⟩⟩⟩
    · rw [if_pos rfl] at ht
      cases ht
      refine (rdo_back Ar R.length cr At (p.n - d) ct Ak Lk ck key Ax cx x w hL hkey hkb hx hxb _ rfl).mono ?_
      rintro e w' ⟨g, rfl, hb, hg, hB⟩
      exact ⟨hB, Ar, cr, At, ct, _, true, rfl, fun W ha => ⟨ha.rows hB0 hB hR, ha.reads hB0 hB hT⟩, hct, hAr, .inl ⟨_, _, 16, rfl, rfl, rfl, fun W ha _ => fun _ => ⟨_, rfl, Nat.lt_of_lt_of_le hb.lt ha.size, fun i hi => by
        rw [add_zero_off, World.cell?_of_block (w := w') (a := ⟨g, i, none⟩) (ha.block g hb.lt (.inr hg))]
        exact hb.val i hi⟩⟩⟩
  · unfold turnC at ht
    rw [if_neg (by omega), if_pos rfl] at ht
    cases ht
    refine (rdo_tdes Ar R.length cr At (p.n - d) ct Ak Lk ck key Ax cx x bk w hL hck hkey hkb hx hxb _ rfl).mono ?_
    rintro e w' ⟨A, c, rfl, hl, hB⟩
    obtain ⟨g, off, cur, rfl, hb, hc⟩ := hl
    exact ⟨hB, Ar, cr, At, ct, _, true, rfl, fun W ha => ⟨ha.rows hB0 hB hR, ha.reads hB0 hB hT⟩, hct, hAr, .inl ⟨_, _, c, rfl, rfl, rfl, fun W ha hu => fun _ => ⟨_, rfl, Nat.lt_of_lt_of_le hb.lt ha.size, fun i hi => by
      have h2 : Lst w' 5 (some ⟨g, off, none⟩) 8 (iv .u8 (Des.tdes Lk key x bk)) := ⟨g, off, cur, rfl, hb, hc⟩
      rw [World.cell?_of_block (w := w') (by rw [add_block]; exact hu g cur hb)]
      exact h2.at i hi⟩⟩⟩
  · unfold turnC at ht
    rw [if_neg (by omega), if_neg (by omega)] at ht
    refine (rdo_ask p.F p.n d Lk R Ar cr At ct Ak ck key Ax cx x bk w B0 hB0 hR hT hct hn hd hLk hlen hkey hkb hx hAr hAk o R' d' ht).mono ?_
    rintro e w' ⟨hB, Ar2, cr2, At2, ct2, v2, ok2, he, hst, hle, hA2, hor⟩
    refine ⟨hB, Ar2, cr2, At2, ct2, v2, ok2, he, hst, hle, hA2, ?_⟩
    rcases hor with ⟨y, A, c, h1, h2, h3, h4⟩ | h
    · exact .inl ⟨y, A, c, h1, h2, h3, fun W ha _ => h4 W ha⟩
    · exact .inr h
end Go.Proofs.YtomeeebiijmnmaaGreatDoor.Bk
