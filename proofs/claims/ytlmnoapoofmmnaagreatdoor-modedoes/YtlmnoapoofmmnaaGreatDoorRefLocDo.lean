/-
 lockboxref05.Do with whatever kind, and where its answers lie.
-/
import Derived.Test.YtlmnoapoofmmnaaGreatDoorRefY
import Derived.Test.YtlmnoapoofmmnaaGreatDoorRefDoX
namespace Go.Proofs.YtlmnoapoofmmnaaGreatDoor.Bk
open Mem Go.ChangeShapes Go.WideShapes Go.ChangeAt Go.RowKit
theorem rdo_L (p : Pl) (k d Lk : Nat) (R : List Rw) (Ar : Option Addr) (cr : Nat) (At : Option Addr) (ct : Nat) (Ak : Option Addr) (ck : Nat) (key : Nat → Nat) (Ax : Option Addr) (cx : Nat) (x : Nat → Nat) (bk : Bool) (w : World)
  (hf : fits k Lk) (B0 : Nat → Prop) (hB0 : ∀ g, B0 g → g < w.heap.size) (hR : RowsAtP w B0 Ar Lk R) (hT : ReadsP w B0 At (p.n - d) (fun i => p.F (d + i))) (hct : p.n - d ≤ ct) (hn : p.n ≤ 100000) (hd : d ≤ p.n) (hLk : Lk ≤ 1000) (hck : Lk ≤ ck) (hlen : R.length ≤ 1000) (hkey : Reads w w.heap.size Ak Lk key) (hkb : ∀ i, i < Lk → key i < 256) (hx : Reads w w.heap.size Ax (sz k) x) (hxb : ∀ i, i < sz k → x i < 256)
  (hAr : Ar = none → R.length = 0 ∧ cr = 0) (hAk : Ak = none → Lk = 0 ∧ ck = 0) (o : Option (Nat → Nat)) (R' : List Rw) (d' : Nat) (ht : turnC k Lk key p R d bk x = (o, R', d')) :
  Calls Tryz.prog 31 #[.int .i64 (k : Int), .slice Ak Lk ck, .agg (row 2 (bookC (.slice Ar R.length cr) (.slice At (p.n - d) ct))), .slice Ax (sz k) cx, .bool bk] w (RDoL p.F p.n k Lk B0 o R' d' w) :=
 (rdo_P p k d Lk R Ar cr At ct Ak ck key Ax cx x bk w hf B0 hB0 hR hT hct hn hd hLk hck hlen hkey hkb hx hxb hAr hAk o R' d' ht).mono fun e w' ⟨hB, Ar2, cr2, At2, ct2, v2, ok2, he, hst, hle, hA2, hor⟩ => by
  refine ⟨hB, Ar2, cr2, At2, ct2, v2, ok2, he, loc_rows (fun W ha => (hst W ha).1), loc_reads (hst w' (Agree.refl _ _ _)).2 (fun W ha => ⟨_, (hst W ha).2⟩), hle, hA2, ?_⟩
  rcases hor with ⟨y, A, c, h1, h2, h3, h4⟩ | h
  ·exact .inl ⟨y, A, c, h1, h2, h3, loc_reads (h4 w' (Agree.refl _ _ _)) (fun W ha => ⟨_, h4 W ha⟩)⟩
  exact .inr h
theorem doC_any (p : Pl) (k Lk : Nat) (Ak : Option Addr) (ck : Nat) (key : Nat → Nat) (bk : Bool) (hf : fits k Lk) (hLk : Lk ≤ 1000) (hck : Lk ≤ ck) (hkb : ∀ i, i < Lk → key i < 256) (hAk : Ak = none → Lk = 0 ∧ ck = 0) : DoC p k Lk Ak ck key bk :=
 fun d R Ar cr At ct Ax cx x w B0 hB0 hR hT hct hn hd hlen hkey hx hxb hAr o R' d' ht => rdo_L p k d Lk R Ar cr At ct Ak ck key Ax cx x bk w hf B0 hB0 hR hT hct hn hd hLk hck hlen hkey hkb hx hxb hAr hAk o R' d' ht
end Go.Proofs.YtlmnoapoofmmnaaGreatDoor.Bk
