/-
 HdMath Hd1 Hd2 Hd3 Hd4 Hd6 Hd7 Hd8
-/
import Derived.Test.YtlmacfmfmjhidaaGreatDoorStrF
import Derived.Test.YtlmacfmfmjhidaaGreatDoorShelf
import Derived.Test.YtlmacfmfmjhidaaGreatDoorDraw
import Derived.Lib.AppendStr
import Derived.Test.YtlmacfmfmjhidaaGreatDoorAsX
namespace Go.Proofs.YtlmacfmfmjhidaaGreatDoor.Hd
open Mem Go.ChangeShapes Go.WideShapes Go.ChangeAt Go.RowKit
def verB (c:Nat):Bool:=c == 66 || c == 68
def algB (c:Nat):Bool:=c == 84 || c == 65
def modL:List Nat:=[66,67,68,69,71,78,83,84,86,88,89]
def modB (c:Nat):Bool:=modL.contains c
def expB (c:Nat):Bool:=c == 69 || c == 78 || c == 83
def dgB (c:Nat):Bool:=decide (48≤c) && decide (c≤57)
def pcB (c:Nat):Bool:=(decide (65≤c) && decide (c≤90)) || dgB c
def prB (n:Nat) (f:Nat→Nat):Bool:=n == 2 && pcB (f 0) && pcB (f 1)
def allS:ByteArray:=⟨#[65,66,67,68,69,70,71,72,73,74,75,76,77,78,79,80,81,82,83,84,85,86,87,88,89,90,48,49,50,51,52,53,54,55,56,57]⟩
def modS:ByteArray:=⟨#[66,67,68,69,71,78,83,84,86,88,89]⟩
def ixB (s:ByteArray) (c:Nat):Bool:=decide (0≤Lib.indexByte s.data.toList (UInt8.ofNat c))
theorem ix_ver: ∀c,c<256→ixB ⟨#[66,68]⟩ c=verB c:=by decide+kernel
theorem ix_alg: ∀c,c<256→ixB ⟨#[84,65]⟩ c=algB c:=by decide+kernel
theorem ix_mod: ∀c,c<256→ixB modS c=modB c:=by decide+kernel
theorem ix_exp: ∀c,c<256→ixB ⟨#[69,78,83]⟩ c=expB c:=by decide+kernel
def memK (s:ByteArray) (c k:Nat):Bool:=(s.data.toList.take k).any (fun b=>b.toNat == c)
def memB (s:ByteArray) (c:Nat):Bool:=s.data.toList.any (fun b=>b.toNat == c)
theorem mem_ver: ∀c,c<256→memB ⟨#[66,68]⟩ c=verB c:=by decide+kernel
theorem mem_alg: ∀c,c<256→memB ⟨#[84,65]⟩ c=algB c:=by decide+kernel
theorem mem_mod: ∀c,c<256→memB modS c=modB c:=by decide+kernel
theorem mem_exp: ∀c,c<256→memB ⟨#[69,78,83]⟩ c=expB c:=by decide+kernel
theorem mem_all: ∀c,c<256→memB allS c=pcB c:=by decide+kernel
structure Hd where
 v:Nat
 n:Nat
 f:Nat→Nat
 a:Nat
 k:Nat
 m:Nat
 g:Nat→Nat
 x:Nat
structure Hd.Ok (h:Hd):Prop where
 v:h.v<256
 f: ∀i,h.f i<256
 a:h.a<256
 k:h.k<256
 g: ∀i,h.g i<256
 x:h.x<256
def wrong (h:Hd):Int:=if verB h.v=false then 0 else if prB h.n h.f=false then 5 else if algB h.a=false then 7 else if modB h.k=false then 8 else if prB h.m h.g=false then 9 else if expB h.x=false then 11 else-1
end Go.Proofs.YtlmacfmfmjhidaaGreatDoor.Hd
namespace Go.Proofs.YtlmacfmfmjhidaaGreatDoor.Hd
open Mem Go.ChangeShapes Go.WideShapes Go.ChangeAt Go.RowKit
theorem one_any (s:ByteArray) (c:Nat) (w:World):Calls Tryz.prog 76 #[.int .u8 (c:Int), .string s] w fun e w'=>e= .returned (.bool (ixB s c))∧w'=w:=by
 go_enter Tryz.func76,Tryz.ntmps76
 go_wp2_with (go_at_call 101;refine(Sh.strings_IndexByte s (c:Int) w).mono ?_;rintro e w' ⟨rfl,rfl⟩)
 go_ret
 refine⟨?_,rfl⟩
 simp[ixB]
 try rfl
theorem may0 (c:Nat) (hc:c<256) (w:World):Calls Tryz.prog 46 #[.int .i64 0, .int .u8 (c:Int)] w fun e w'=>e= .returned (.bool (verB c))∧w'=w:=by
 go_enter Tryz.func46,Tryz.ntmps46
 go_wp2_with (go_at_call 76;refine(one_any _ c w).mono ?_;rintro e w' ⟨rfl,rfl⟩)
 go_ret
 exact⟨by rw[← ix_ver c hc];rfl,rfl⟩
theorem may7 (c:Nat) (hc:c<256) (w:World):Calls Tryz.prog 46 #[.int .i64 7, .int .u8 (c:Int)] w fun e w'=>e= .returned (.bool (algB c))∧w'=w:=by
 go_enter Tryz.func46,Tryz.ntmps46
 go_wp2_with (go_at_call 76;refine(one_any _ c w).mono ?_;rintro e w' ⟨rfl,rfl⟩)
 go_ret
 exact⟨by rw[← ix_alg c hc];rfl,rfl⟩
theorem may8 (c:Nat) (hc:c<256) (w:World):Calls Tryz.prog 46 #[.int .i64 8, .int .u8 (c:Int)] w fun e w'=>e= .returned (.bool (modB c))∧w'=w:=by
 go_enter Tryz.func46,Tryz.ntmps46
 go_wp2_with (go_at_call 76;refine(one_any _ c w).mono ?_;rintro e w' ⟨rfl,rfl⟩)
 go_ret
 exact⟨by rw[← ix_mod c hc];rfl,rfl⟩
theorem may11 (c:Nat) (hc:c<256) (w:World):Calls Tryz.prog 46 #[.int .i64 11, .int .u8 (c:Int)] w fun e w'=>e= .returned (.bool (expB c))∧w'=w:=by
 go_enter Tryz.func46,Tryz.ntmps46
 go_wp2_with (go_at_call 76;refine(one_any _ c w).mono ?_;rintro e w' ⟨rfl,rfl⟩)
 go_ret
 exact⟨by rw[← ix_exp c hc];rfl,rfl⟩
theorem rbool {a b:Bool} (h:a=b):Ending.returned (Value.bool a)= .returned (Value.bool b):=by rw[h]
theorem dg_eq {c:Nat}{b:Bool} (h:b=true↔(48≤(c:Int)∧(c:Int)≤57)):b=dgB c:=by
 apply Bool.eq_iff_iff.2
 rw[h]
 simp[dgB]
 omega
theorem pc_eq {c:Nat}{b:Bool} (h:b=true↔((65≤(c:Int)∧(c:Int)≤90)∨(48≤(c:Int)∧(c:Int)≤57))):b=pcB c:=by
 apply Bool.eq_iff_iff.2
 rw[h]
 simp[pcB,dgB]
 omega
theorem may1 (c:Nat) (w:World):Calls Tryz.prog 46 #[.int .i64 1, .int .u8 (c:Int)] w fun e w'=>e= .returned (.bool (dgB c))∧w'=w:=by
 go_enter Tryz.func46,Tryz.ntmps46
 go_wp2_with fail
 all_goals
  go_ret
  refine⟨rbool (dg_eq ?_),rfl⟩
  simp
  omega
theorem may5 (c:Nat) (w:World):Calls Tryz.prog 46 #[.int .i64 5, .int .u8 (c:Int)] w fun e w'=>e= .returned (.bool (pcB c))∧w'=w:=by
 go_enter Tryz.func46,Tryz.ntmps46
 go_wp2_with fail
 all_goals
  go_ret
  refine⟨rbool (pc_eq ?_),rfl⟩
  simp
  omega
theorem may9 (c:Nat) (w:World):Calls Tryz.prog 46 #[.int .i64 9, .int .u8 (c:Int)] w fun e w'=>e= .returned (.bool (pcB c))∧w'=w:=by
 go_enter Tryz.func46,Tryz.ntmps46
 go_wp2_with fail
 all_goals
  go_ret
  refine⟨rbool (pc_eq ?_),rfl⟩
  simp
  omega
theorem may59 (p:Nat) (hp:p=5∨p=9) (c:Nat) (w:World):Calls Tryz.prog 46 #[.int .i64 (p:Int), .int .u8 (c:Int)] w fun e w'=>e= .returned (.bool (pcB c))∧w'=w:=by
 rcases hp with rfl | rfl
 ·exact may5 c w
 exact may9 c w
set_option maxRecDepth 100000 in
theorem pair_any (p:Nat) (hp:p=5∨p=9) (n:Nat) (f:Nat→Nat) (hf: ∀i,f i<256) (w:World):Calls Tryz.prog 48 #[.int .i64 (p:Int), .string (strF n f)] w fun e w'=>e= .returned (.bool (prB n f))∧w'=w:=by
 have hsz:=strF_size n f
 by_cases hn:n=2
 ·subst hn
  have h0:=byteAt_strF (n:=2) (k:=0) (by omega) (hf 0)
  have h1:=byteAt_strF (n:=2) (k:=1) (by omega) (hf 1)
  have HM:=hid (may59 p hp)
  clear hp
  go_enter Tryz.func48,Tryz.ntmps48
  go_wp2_with (first
   | ((with_reducible refine wpg_val ?_ _ (exec_str 9 _ _ rfl (strF 2 f) rfl .i64 _ rfl 0 rfl Tryz.underlying9 (f 0) h0) ?_);exact rfl)
   | ((with_reducible refine wpg_val ?_ _ (exec_str 9 _ _ rfl (strF 2 f) rfl .i64 _ rfl 1 rfl Tryz.underlying9 (f 1) h1) ?_);exact rfl)
   | (go_at_call 46;refine(HM.out _ _).mono ?_;rintro e w' ⟨rfl,rfl⟩))
  all_goals
   go_ret
   refine⟨rbool ?_,rfl⟩
   unfold prB
   simp[*]
 have hnI: ¬(n:Int)=2:=by omega
 go_enter Tryz.func48,Tryz.ntmps48
 go_wp2_with fail
 go_ret
 refine⟨rbool ?_,rfl⟩
 unfold prB
 simp[hn]
theorem unf_any (p:Int) (w:World):Calls Tryz.prog 47 #[.int .i64 p] w fun e w'=>e= .returned (.iface 65 (.pointer (some ⟨w.heap.size,0,none⟩)))∧Blk w' w.heap.size 68 #[.int .i64 p, .iface 56 (.int .i64 6)]∧Below w.heap.size w w':=by
 go_enter Tryz.func47,Tryz.ntmps47
 go_wp2_with fail
 go_ret
 exact⟨rfl,Blk.fresh _ _ _,(Below.refl _ _).alloc (Nat.le_refl _) _⟩
end Go.Proofs.YtlmacfmfmjhidaaGreatDoor.Hd
namespace Go.Proofs.YtlmacfmfmjhidaaGreatDoor.Hd
open Mem Go.ChangeShapes Go.WideShapes Go.ChangeAt Go.RowKit
def hdC (h:Hd):Array Value:=#[.int .u8 (h.v:Int), .string (strF h.n h.f), .int .u8 (h.a:Int), .int .u8 (h.k:Int), .string (strF h.m h.g), .int .u8 (h.x:Int)]
def ErrOut (z:Int) (w:World) (v:Value) (w':World):Prop:=
 (z= -1∧v= .nilIface)∨(0≤z∧∃g,w.heap.size≤g∧v= .iface 65 (.pointer (some ⟨g,0,none⟩))∧Blk w' g 68 #[.int .i64 z, .iface 56 (.int .i64 6)])
def RightOut (z:Int) (w:World) (e:Ending) (w':World):Prop:=Below w.heap.size w w'∧∃v,e= .returned v∧ErrOut z w v w'
theorem right_bad {z:Int}{w w1 w':World}{g:Nat} (hz:0≤z) (hB:Below w.heap.size w w1) (hg:w1.heap.size=g) (hb:Blk w' w1.heap.size 68 #[.int .i64 z, .iface 56 (.int .i64 6)]) (hB1:Below w1.heap.size w1 w'):RightOut z w (.returned (.iface 65 (.pointer (some ⟨g,0,none⟩)))) w':=by
 subst hg
 exact⟨hB.trans (hB1.mono hB.size),_,rfl, .inr ⟨hz,_,hB.size,rfl,hb⟩⟩
set_option maxRecDepth 100000 in
theorem right_any (h:Hd) (ok:h.Ok) (w:World):Calls Tryz.prog 21 #[.agg (hdC h)] w (RightOut (wrong h) w):=by
 obtain⟨v,n,f,a,k,m,g,x⟩:=h
 obtain⟨hv,hf,ha,hk,hg,hx⟩:=ok
 simp only at hv hf ha hk hg hx
 have hB0:Below w.heap.size w (w.alloc (.cells (hdC ⟨v,n,f,a,k,m,g,x⟩) 24)):=(Below.refl _ _).alloc (Nat.le_refl _) _
 unfold hdC at hB0 ⊢
 simp only at hB0 ⊢
 have HB:=hid hB0
 obtain⟨z,hz⟩: ∃z,z=wrong ⟨v,n,f,a,k,m,g,x⟩:=⟨_,rfl⟩
 rw[← hz]
 have Hz:=hid hz
 clear hB0 hz
 go_enter Tryz.func21,Tryz.ntmps21
 go_wp2_with fail
 refine(may0 v hv _).mono ?_
 rintro e w0 ⟨rfl,rfl⟩
 cases hb0:verB v
 ·go_wp2_with fail
  refine(unf_any 0 _).mono ?_
  rintro e w9 ⟨rfl,hb,hB⟩
  have hz:z=0:=by rw[Hz.out];simp[wrong, *]
  have hO:=right_bad (g:=w.heap.size+1) (by omega) HB.out (by simp) hb hB
  rw[← hz] at hO
  go_wp2_with fail
  go_ret
  exact hO
 go_wp2_with fail
 refine(pair_any 5 (.inl rfl) n f hf _).mono ?_
 rintro e w1 ⟨rfl,rfl⟩
 cases hb1:prB n f
 ·go_wp2_with fail
  refine(unf_any 5 _).mono ?_
  rintro e w9 ⟨rfl,hb,hB⟩
  have hz:z=5:=by rw[Hz.out];simp[wrong, *]
  have hO:=right_bad (g:=w.heap.size+1) (by omega) HB.out (by simp) hb hB
  rw[← hz] at hO
  go_wp2_with fail
  go_ret
  exact hO
 go_wp2_with fail
 refine(may7 a ha _).mono ?_
 rintro e w2 ⟨rfl,rfl⟩
 cases hb2:algB a
 ·go_wp2_with fail
  refine(unf_any 7 _).mono ?_
  rintro e w9 ⟨rfl,hb,hB⟩
  have hz:z=7:=by rw[Hz.out];simp[wrong, *]
  have hO:=right_bad (g:=w.heap.size+1) (by omega) HB.out (by simp) hb hB
  rw[← hz] at hO
  go_wp2_with fail
  go_ret
  exact hO
 go_wp2_with fail
 refine(may8 k hk _).mono ?_
 rintro e w3 ⟨rfl,rfl⟩
 cases hb3:modB k
 ·go_wp2_with fail
  refine(unf_any 8 _).mono ?_
  rintro e w9 ⟨rfl,hb,hB⟩
  have hz:z=8:=by rw[Hz.out];simp[wrong, *]
  have hO:=right_bad (g:=w.heap.size+1) (by omega) HB.out (by simp) hb hB
  rw[← hz] at hO
  go_wp2_with fail
  go_ret
  exact hO
 go_wp2_with fail
 refine(pair_any 9 (.inr rfl) m g hg _).mono ?_
 rintro e w4 ⟨rfl,rfl⟩
 cases hb4:prB m g
 ·go_wp2_with fail
  refine(unf_any 9 _).mono ?_
  rintro e w9 ⟨rfl,hb,hB⟩
  have hz:z=9:=by rw[Hz.out];simp[wrong, *]
  have hO:=right_bad (g:=w.heap.size+1) (by omega) HB.out (by simp) hb hB
  rw[← hz] at hO
  go_wp2_with fail
  go_ret
  exact hO
 go_wp2_with fail
 refine(may11 x hx _).mono ?_
 rintro e w5 ⟨rfl,rfl⟩
 cases hb5:expB x
 ·go_wp2_with fail
  refine(unf_any 11 _).mono ?_
  rintro e w9 ⟨rfl,hb,hB⟩
  have hz:z=11:=by rw[Hz.out];simp[wrong, *]
  have hO:=right_bad (g:=w.heap.size+1) (by omega) HB.out (by simp) hb hB
  rw[← hz] at hO
  go_wp2_with fail
  go_ret
  exact hO
 go_wp2_with fail
 have hz:z= -1:=by rw[Hz.out];simp[wrong, *]
 go_ret
 exact⟨HB.out,_,rfl, .inl ⟨hz,rfl⟩⟩
theorem memK_zero (s:ByteArray) (c:Nat):memK s c 0=false:=rfl
theorem memK_next {s:ByteArray}{c k b:Nat} (h:byteAt s k=some b):memK s c (k+1)=(memK s c k || b == c):=by
 unfold byteAt at h
 unfold memK
 have hk:k<s.data.size:=by
  rcases Nat.lt_or_ge k s.data.size with h' | h'
  ·exact h'
  rw[Array.getElem?_eq_none h'] at h;cases h
 rw[Array.getElem?_eq_getElem hk] at h
 have hb:s.data[k].toNat=b:=by simpa using h
 have hl:k<s.data.toList.length:=by simpa using hk
 rw[List.take_add_one,List.any_append,List.getElem?_eq_getElem hl]
 simp[hb]
theorem memK_all (s:ByteArray) (c:Nat):memK s c s.size=memB s c:=by
 unfold memK memB
 rw[List.take_of_length_le (by rw[Array.length_toList];exact Nat.le_refl _)]
theorem byteAt_some {s:ByteArray}{k:Nat} (h:k<s.size): ∃b,byteAt s k=some b∧b<256:=by
 unfold byteAt
 have hk:k<s.data.size:=h
 rw[Array.getElem?_eq_getElem hk]
 exact⟨_,rfl,UInt8.toNat_lt _⟩
theorem memB_hit {s:ByteArray}{c k b:Nat} (h:byteAt s k=some b) (hb:b=c):memB s c=true:=by
 unfold byteAt at h
 unfold memB
 have hk:k<s.data.size:=by
  rcases Nat.lt_or_ge k s.data.size with h' | h'
  ·exact h'
  rw[Array.getElem?_eq_none h'] at h;cases h
 rw[Array.getElem?_eq_getElem hk] at h
 have hb2:s.data[k].toNat=b:=by simpa using h
 rw[List.any_eq_true]
 exact⟨s.data[k],by simp,by simp[hb2,hb]⟩
set_option maxRecDepth 100000 in
theorem rin_any (s:ByteArray) (c:Nat) (w:World) (hs:s.size≤1000):Calls Tryz.prog 29 #[.int .u8 (c:Int), .string s] w fun e w'=>e= .returned (.bool (memB s c))∧w'=w:=by
 go_enter Tryz.func29,Tryz.ntmps29
 go_wp2_with fail
 go_loopw [5] (fun y wr=> ∃k:Nat,k≤s.size∧y= .int .i64 (k:Int)∧Hid (memK s c k=false)∧wr=w) (fun y _=>s.size-(intOf y).toNat)
 case atStart=>exact⟨0,by omega,rfl,hid (memK_zero s c),rfl⟩
 case round=>
  obtain⟨k,hk,rfl,HM,rfl⟩:=hrel
  by_cases hlt:k<s.size
  ·obtain⟨b,hb,hb6⟩:=byteAt_some hlt
   by_cases hbc:b=c
   ·have hbI:(b:Int)=(c:Int):=by omega
    have Hb:=hid hb
    clear hb
    go_wp2_with (first
     | (with_reducible refine wpl_str rfl 9 _ _ rfl s rfl .i64 _ rfl k rfl Tryz.underlying9 b Hb.out ?_))
    go_ret
    exact⟨rbool (memB_hit Hb.out hbc).symm,rfl⟩
   have hbI: ¬(b:Int)=(c:Int):=by omega
   have Hb:=hid hb
   clear hb
   go_wp2_with (first
    | (with_reducible refine wpl_str rfl 9 _ _ rfl s rfl .i64 _ rfl k rfl Tryz.underlying9 b Hb.out ?_))
   go_round
   case rel=>exact⟨k+1,by omega,val_int (by omega),hid (by rw[memK_next Hb.out,HM.out];simpa using hbc),by first | rfl | trivial⟩
   case measure=>simp[intOf];omega
  obtain rfl:k=s.size:=by omega
  go_wp2_with fail
  go_ret
  exact⟨rbool (by rw[← memK_all,HM.out]),rfl⟩
set_option maxRecDepth 100000 in
theorem rpair_any (n:Nat) (f:Nat→Nat) (hf: ∀i,f i<256) (w:World):Calls Tryz.prog 30 #[.string (strF n f)] w fun e w'=>e= .returned (.bool (prB n f))∧w'=w:=by
 have hsz:=strF_size n f
 by_cases hn:n=2
 ·subst hn
  have h0:=byteAt_strF (n:=2) (k:=0) (by omega) (hf 0)
  have h1:=byteAt_strF (n:=2) (k:=1) (by omega) (hf 1)
  have HM: ∀c:Nat,c<256→∀W,Calls Tryz.prog 29 #[.int .u8 (c:Int), .string allS] W fun e w'=>e= .returned (.bool (pcB c))∧w'=W:=fun c hc W=>by
   have h:=rin_any allS c W (by decide)
   rw[mem_all c hc] at h
   exact h
  have HM:=hid HM
  have hf0:=hf 0
  have hf1:=hf 1
  go_enter Tryz.func30,Tryz.ntmps30
  go_wp2_with (first
   | ((with_reducible refine wpg_val ?_ _ (exec_str 9 _ _ rfl (strF 2 f) rfl .i64 _ rfl 0 rfl Tryz.underlying9 (f 0) h0) ?_);exact rfl))
  refine(HM.out (f 0) hf0 _).mono ?_
  rintro e w0 ⟨rfl,rfl⟩
  cases hp0:pcB (f 0)
  ·go_wp2_with fail
   go_ret
   exact⟨rbool (by unfold prB;rw[hp0];rfl),rfl⟩
  go_wp2_with (first
   | ((with_reducible refine wpg_val ?_ _ (exec_str 9 _ _ rfl (strF 2 f) rfl .i64 _ rfl 1 rfl Tryz.underlying9 (f 1) h1) ?_);exact rfl))
  refine(HM.out (f 1) hf1 _).mono ?_
  rintro e w1 ⟨rfl,rfl⟩
  go_wp2_with fail
  go_ret
  exact⟨rbool (by unfold prB;rw[hp0];rfl),rfl⟩
 have hnI: ¬(n:Int)=2:=by omega
 go_enter Tryz.func30,Tryz.ntmps30
 go_wp2_with fail
 go_ret
 refine⟨rbool ?_,rfl⟩
 unfold prB
 simp[hn]
theorem rin_ver (c:Nat) (hc:c<256) (w:World):Calls Tryz.prog 29 #[.int .u8 (c:Int), .string ⟨#[66,68]⟩] w fun e w'=>e= .returned (.bool (verB c))∧w'=w:=mem_ver c hc▸rin_any _ c w (by decide)
theorem rin_alg (c:Nat) (hc:c<256) (w:World):Calls Tryz.prog 29 #[.int .u8 (c:Int), .string ⟨#[84,65]⟩] w fun e w'=>e= .returned (.bool (algB c))∧w'=w:=mem_alg c hc▸rin_any _ c w (by decide)
theorem rin_mod (c:Nat) (hc:c<256) (w:World):Calls Tryz.prog 29 #[.int .u8 (c:Int), .string ⟨#[66,67,68,69,71,78,83,84,86,88,89]⟩] w fun e w'=>e= .returned (.bool (modB c))∧w'=w:=mem_mod c hc▸rin_any modS c w (by decide)
theorem rin_exp (c:Nat) (hc:c<256) (w:World):Calls Tryz.prog 29 #[.int .u8 (c:Int), .string ⟨#[69,78,83]⟩] w fun e w'=>e= .returned (.bool (expB c))∧w'=w:=mem_exp c hc▸rin_any _ c w (by decide)
set_option maxRecDepth 100000 in
theorem rwrong_any (h:Hd) (ok:h.Ok) (w:World):Calls Tryz.prog 8 #[.agg (hdC h)] w fun e w'=>e= .returned (.int .i64 (wrong h))∧Below w.heap.size w w':=by
 obtain⟨v,n,f,a,k,m,g,x⟩:=h
 obtain⟨hv,hf,ha,hk,hg,hx⟩:=ok
 simp only at hv hf ha hk hg hx
 have hB0:Below w.heap.size w (w.alloc (.cells (hdC ⟨v,n,f,a,k,m,g,x⟩) 24)):=(Below.refl _ _).alloc (Nat.le_refl _) _
 unfold hdC at hB0 ⊢
 simp only at hB0 ⊢
 have HB:=hid hB0
 obtain⟨z,hz⟩: ∃z,z=wrong ⟨v,n,f,a,k,m,g,x⟩:=⟨_,rfl⟩
 rw[← hz]
 have Hz:=hid hz
 clear hB0 hz
 go_enter Tryz.func8,Tryz.ntmps8
 go_wp2_with fail
 refine(rin_ver v hv _).mono ?_
 rintro e w0 ⟨rfl,rfl⟩
 cases hb0:verB v
 ·go_wp2_with fail
  have hz:z=0:=by rw[Hz.out];simp[wrong, *]
  go_ret
  exact⟨by rw[hz];rfl,HB.out⟩
 go_wp2_with fail
 refine(rpair_any n f hf _).mono ?_
 rintro e w1 ⟨rfl,rfl⟩
 cases hb1:prB n f
 ·go_wp2_with fail
  have hz:z=5:=by rw[Hz.out];simp[wrong, *]
  go_ret
  exact⟨by rw[hz];rfl,HB.out⟩
 go_wp2_with fail
 refine(rin_alg a ha _).mono ?_
 rintro e w2 ⟨rfl,rfl⟩
 cases hb2:algB a
 ·go_wp2_with fail
  have hz:z=7:=by rw[Hz.out];simp[wrong, *]
  go_ret
  exact⟨by rw[hz];rfl,HB.out⟩
 go_wp2_with fail
 refine(rin_mod k hk _).mono ?_
 rintro e w3 ⟨rfl,rfl⟩
 cases hb3:modB k
 ·go_wp2_with fail
  have hz:z=8:=by rw[Hz.out];simp[wrong, *]
  go_ret
  exact⟨by rw[hz];rfl,HB.out⟩
 go_wp2_with fail
 refine(rpair_any m g hg _).mono ?_
 rintro e w4 ⟨rfl,rfl⟩
 cases hb4:prB m g
 ·go_wp2_with fail
  have hz:z=9:=by rw[Hz.out];simp[wrong, *]
  go_ret
  exact⟨by rw[hz];rfl,HB.out⟩
 go_wp2_with fail
 refine(rin_exp x hx _).mono ?_
 rintro e w5 ⟨rfl,rfl⟩
 cases hb5:expB x
 ·go_wp2_with fail
  have hz:z=11:=by rw[Hz.out];simp[wrong, *]
  go_ret
  exact⟨by rw[hz];rfl,HB.out⟩
 go_wp2_with fail
 have hz:z= -1:=by rw[Hz.out];simp[wrong, *]
 go_ret
 exact⟨by rw[hz];rfl,HB.out⟩
end Go.Proofs.YtlmacfmfmjhidaaGreatDoor.Hd
namespace Go.Proofs.YtlmacfmfmjhidaaGreatDoor.Hd
open Mem Go.ChangeShapes Go.WideShapes Go.ChangeAt Go.RowKit
def Tab (w:World):Prop:=Lib.TabIs Tryz.prog w "internal/strconv.uint64pow10" .u64 Lib.pow10Tab
theorem Tab.below {w w':World} (h:Tab w) (hb:Below w.heap.size w w'):Tab w':=by
 have hg:Tryz.prog.globalNamed "internal/strconv.uint64pow10" =some 1:=by kernel_rfl
 unfold Tab Lib.TabIs World.var? at h ⊢
 rw[hg] at h ⊢
 simp only[Option.bind_some] at h ⊢
 have hlt:1<w.heap.size:=by
  rcases Nat.lt_or_ge 1 w.heap.size with h' | h'
  ·exact h'
  rw[Array.getElem?_eq_none h'] at h;cases h
 rw[hb.block 1 hlt]
 exact h
theorem below_grow (w:World) (q:Nat) (os:Array Obj):Below w.heap.size w (Go.Sort.grow (w.drewN q) os):=
 ⟨rfl,rfl,rfl,by simp[Go.Sort.grow,World.drewN],fun g hg=>by
  show(w.heap++os)[g]? =_
  rw[Array.getElem?_append_left hg]⟩
def dgF (n i:Nat):Nat:=if i=0 then 48+n/1000%10 else if i=1 then 48+n/100%10 else if i=2 then 48+n/10%10 else 48+n%10
theorem dgF_lt (n i:Nat):dgF n i<256:=by unfold dgF;split<;>(try split)<;>(try split)<;>omega
theorem itoa_dg (n:Nat) (hn:n≤9999):(⟨(Lib.itoa (10000+(n:Int))).toArray⟩:ByteArray)=strF 5 (fun i=>if i=0 then 49 else dgF n (i-1)):=by
 rw[strF_mk]
 congr 1
 congr 1
 unfold Lib.itoa
 rw[if_neg (by omega),show(10000+(n:Int)).toNat=10000+n by omega]
 rw[Lib.decDigits,dif_neg (by omega),Lib.decDigits,dif_neg (by omega),Lib.decDigits,dif_neg (by omega),Lib.decDigits,dif_neg (by omega),Lib.decDigits,dif_pos (by omega)]
 have e:List.range 5=[0,1,2,3,4]:=rfl
 rw[e]
 simp only[List.map_cons,List.map_nil,List.cons_append,List.nil_append,dgF]
 have h4:(10000+n)/10/10/10/10=1:=by omega
 have h3:(10000+n)/10/10/10%10=n/1000%10:=by omega
 have h2:(10000+n)/10/10%10=n/100%10:=by omega
 have h1:(10000+n)/10%10=n/10%10:=by omega
 have h0:(10000+n)%10=n%10:=by omega
 rw[h4,h3,h2,h1,h0]
 rfl
section
variable {P:Program}{o:Oper}{a:Act}{w w':World}
theorem wpl_valw {ops:Array Oper}{rest:List Oper}{Q:Exit→Act→World→Prop} (hgd:o.guard=none) (v:Value) (hr:(execOp a.eval o).run P w= .ok (.value v) w') (h:wpList P ops Q rest (a.put o.dst v) w'):wpList P ops Q (o::rest) a w:=
 wpList_plain hgd fun _ hK=>by
  unfold Oper.wp
  rw[hr]
  exact hK _ _ h
theorem exec_bs (t:TypeId) (n:Nat) (l:Array (Nat×Operand)) (ho:o.op= .buildSlice t n l) (vs:Array (Nat×Value)) (hl:l.map (fun x=>(x.1,a.eval x.2))=vs) (v:Value) (hr:(Instr.buildSlice t n vs).run P w= .ok v w'):(execOp a.eval o).run P w= .ok (.value v) w':=by
 subst hl
 unfold execOp
 simp only[ho,Sem.run_bind,hr,Sem.run_pure,Result.andThen_ok]
theorem exec_cutS (ty:TypeId) (x p q:Operand) (ho:o.op= .slice ty x (some p) (some q) none) (n:Nat) (f:Nat→Nat) (y z:Int) (hx:a.eval x= .string (strF n f)) (hp:a.eval p= .int .i64 y) (hq:a.eval q= .int .i64 z) (b c:Nat) (hy:y=b) (hz:z=c) (hbc:b≤c) (hc:c≤n) (hu:P.underlying ty=some .string):
  (execOp a.eval o).run P w= .ok (.value (.string (strF (c-b) fun i=>f (b+i)))) w:=by
 subst hy hz
 have h:=run_slice_string (P:=P) w ty (strF n f) .i64 .i64 (b:Int) (c:Int) hu (by omega) (by omega) (by rw[strF_size];omega)
 rw[show(b:Int).toNat=b by omega,show(c:Int).toNat=c by omega,strF_cut hbc hc] at h
 have h':(Instr.sliceAt ty (.string (strF n f)) (some (.int .i64 (b:Int))) (some (.int .i64 (c:Int))) none).run P w= .ok (.string (strF (c-b) fun i=>f (b+i))) w:=by
  simp only[Instr.sliceAt,Sem.run_bind,run_underlying hu,Result.andThen_ok]
  exact h
 unfold execOp
 simp only[ho,hx,hp,hq,Option.map_some,Option.map_none,h',Sem.run_bind,Sem.run_pure,Result.andThen_ok]
theorem exec_cutSl (ty:TypeId) (x p:Operand) (ho:o.op= .slice ty x (some p) none none) (n:Nat) (f:Nat→Nat) (y:Int) (hx:a.eval x= .string (strF n f)) (hp:a.eval p= .int .i64 y) (b:Nat) (hy:y=b) (hbc:b≤n) (hu:P.underlying ty=some .string):
  (execOp a.eval o).run P w= .ok (.value (.string (strF (n-b) fun i=>f (b+i)))) w:=by
 subst hy
 have h:=run_slice_string_l (P:=P) w ty (strF n f) hu .i64 (b:Int) (by omega) (by rw[strF_size];omega)
 rw[show(b:Int).toNat=b by omega,strF_size,strF_cut hbc (Nat.le_refl _)] at h
 have h':(Instr.sliceAt ty (.string (strF n f)) (some (.int .i64 (b:Int))) none none).run P w= .ok (.string (strF (n-b) fun i=>f (b+i))) w:=by
  simp only[Instr.sliceAt,Sem.run_bind,run_underlying hu,Result.andThen_ok]
  exact h
 unfold execOp
 simp only[ho,hx,hp,Option.map_some,Option.map_none,h',Sem.run_bind,Sem.run_pure,Result.andThen_ok]
theorem exec_cutSh (ty:TypeId) (x p:Operand) (ho:o.op= .slice ty x none (some p) none) (n:Nat) (f:Nat→Nat) (y:Int) (hx:a.eval x= .string (strF n f)) (hp:a.eval p= .int .i64 y) (b:Nat) (hy:y=b) (hbc:b≤n) (hu:P.underlying ty=some .string):
  (execOp a.eval o).run P w= .ok (.value (.string (strF b f))) w:=by
 subst hy
 have h:=run_slice_string_h (P:=P) w ty (strF n f) hu .i64 (b:Int) (by omega) (by rw[strF_size];omega)
 rw[show(b:Int).toNat=b by omega,strF_cut (by omega) hbc] at h
 have h':(Instr.sliceAt ty (.string (strF n f)) none (some (.int .i64 (b:Int))) none).run P w= .ok (.string (strF b f)) w:=by
  simp only[Instr.sliceAt,Sem.run_bind,run_underlying hu,Result.andThen_ok]
  refine h.trans ?_
  simp
 unfold execOp
 simp only[ho,hx,hp,Option.map_some,Option.map_none,h',Sem.run_bind,Sem.run_pure,Result.andThen_ok]
end
section
variable {P:Program}{o:Oper}{a:Act}{w:World}
theorem exec_ldc (ty:TypeId) (x:Operand) (ho:o.op= .load ty x) (p:Addr) (hx:a.eval x= .pointer (some p)) (v:Value) (hv:w.cell? p=some v) (hu:(∃k,P.underlying ty=some (.int k))∨P.underlying ty=some .string):
  (execOp a.eval o).run P w= .ok (.value v) w:=by
 have hr:(Instr.loadAt ty (.pointer (some p))).run P w= .ok v w:=by
  rcases hu with⟨k,hu⟩ | hu<;>simp[Instr.loadAt,Instr.sureAddr,loadVar,isAgg,Sem.run_bind,run_underlying hu,hv]
 unfold execOp
 simp only[ho,hx,hr,Sem.run_bind,Sem.run_pure,Result.andThen_ok]
end
theorem row1 (x:Nat): #[Value.int .u8 (x:Int)]=row (1*1) (b8 fun _=>x):=rfl
theorem row2x (x y:Nat): #[Value.int .u8 (x:Int), .int .u8 (y:Int)]=row (2*1) (b8 fun i=>if i=0 then x else y):=rfl
theorem mk16 (w:World):(Instr.makeSlice 22 (.int .i64 0) (.int .i64 16)).run Tryz.prog w= .ok (.slice (some ⟨w.heap.size,0,none⟩) 0 16) (w.alloc (.cells (row 16 (b8 fun _=>0)) 5)):=by kernel_rfl
theorem exec_mk16 {o:Oper}{a:Act}{w:World} (p q:Operand) (ho:o.op= .makeSlice 22 p q) (hp:a.eval p= .int .i64 0) (hq:a.eval q= .int .i64 16):(execOp a.eval o).run Tryz.prog w= .ok (.value (.slice (some ⟨w.heap.size,0,none⟩) 0 16)) (w.alloc (.cells (row 16 (b8 fun _=>0)) 5)):=by
 unfold execOp
 simp only[ho,hp,hq,Sem.run_bind,mk16,Sem.run_pure,Result.andThen_ok]
theorem own16 (w:World):Own (w.alloc (.cells (row 16 (b8 fun _=>0)) 5)) w.heap.size 5 1 (.slice (some ⟨w.heap.size,0,none⟩) 0 16) 0 (fun _=>0):=
 ⟨rfl, .inr ⟨w.heap.size,16,_,rfl,Nat.le_refl _,heap_alloc_new w _,by omega,by unfold maxLen;omega,by rw[row_size],rfl⟩⟩
theorem bsb1 (x:Int) (w:World):(Instr.buildSlice 22 1 #[(0, .int .u8 x)]).run Tryz.prog w= .ok (.slice (some ⟨w.heap.size,0,none⟩) 1 1) (w.alloc (.cells #[.int .u8 x] 5)):=by kernel_rfl
theorem bsb2 (x y:Int) (w:World):(Instr.buildSlice 22 2 #[(0, .int .u8 x),(1, .int .u8 y)]).run Tryz.prog w= .ok (.slice (some ⟨w.heap.size,0,none⟩) 2 2) (w.alloc (.cells #[.int .u8 x, .int .u8 y] 5)):=by kernel_rfl
theorem strCells_strF (n:Nat) (f:Nat→Nat) (hf: ∀i,i<n→f i<256):Lib.strCells (strF n f)=(List.range n).map (b8 f):=by
 unfold Lib.strCells
 rw[strF_mk]
 simp only[List.map_map]
 apply List.map_congr_left
 intro i hi
 have hi:=List.mem_range.1 hi
 simp[b8,UInt8.toNat_ofNat',Nat.mod_eq_of_lt (hf i hi)]
theorem info8h:(Tryz.prog.info? 5).map (fun i=>(i.zero,i.size,i.bytes))=some (some (.int .u8 0),1,1):=by kernel_rfl
theorem wpl_mk16 {ops:Array Oper}{rest:List Oper}{o:Oper}{a:Act}{w:World}{Q:Exit→Act→World→Prop} (hgd:o.guard=none) (p q:Operand) (ho:o.op= .makeSlice 22 p q) (hp:a.eval p= .int .i64 0) (hq:a.eval q= .int .i64 16)
  (h: ∀v' w',Own w' w.heap.size 5 1 v' 0 (fun _=>0)→Below w.heap.size w w'→wpList Tryz.prog ops Q rest (a.put o.dst v') w'):wpList Tryz.prog ops Q (o::rest) a w:=
 wpl_valw hgd _ (exec_mk16 p q ho hp hq) (h _ _ (own16 w) ((Below.refl _ _).alloc (Nat.le_refl _) _))
theorem wpl_app_str {ops:Array Oper}{rest:List Oper}{o:Oper}{a:Act}{w:World}{Q:Exit→Act→World→Prop} (hgd:o.guard=none) (p q:Operand) (ho:o.op= .call {callee:= .builtin .append,args:=#[p,q],argTypes:=#[22,9]}) (base:Nat) (v:Value) (n:Nat) (f:Nat→Nat) (hp:a.eval p=v) (hown:Own w base 5 1 v n f)
  (m:Nat) (g:Nat→Nat) (hq:a.eval q= .string (strF m g)) (hg: ∀i,i<m→g i<256) (hn:n+m≤1000000) (hbase:base≤w.heap.size)
  (h: ∀v' w',Own w' base 5 1 v' (n+m) (cat n f g)→Below base w w'→wpList Tryz.prog ops Q rest (a.put o.dst v') w'):wpList Tryz.prog ops Q (o::rest) a w:=by
 obtain⟨i,hi,hz0,hz1,hz2⟩:=info_parts info8h
 refine Lib.wpList_append_own_string w hgd p q 22 9 ho base 5 i Tryz.underlying22 Tryz.underlying9 hi hz0 hz1 hz2 v n _ hp hown (strF m g) hq (by rw[strF_size];unfold maxLen;omega) (by rw[strF_size];omega) hbase ?_
 intro v' w' h1 h2 _
 rw[strF_size,strCells_strF m g hg] at h1
 have hc:=cat_list n m f g
 rw[Nat.mul_one] at h1
 rw[hc] at h1
 refine h v' w' (by unfold Own;rw[Nat.mul_one];exact h1) ?_
 refine(Below.refl base w).grown h2 hbase ?_
 intro k hk
 exact(World.ownsRow.lt hown k hk).1
theorem wrong_n {h:Hd} (hw:wrong h= -1):prB h.n h.f=true:=by
 unfold wrong at hw
 cases hp:prB h.n h.f
 ·rw[hp] at hw
  cases hv:verB h.v<;>simp[hv] at hw
 rfl
theorem wrong_m {h:Hd} (hw:wrong h= -1):prB h.m h.g=true:=by
 unfold wrong at hw
 cases hp:prB h.m h.g
 ·rw[hp] at hw
  cases hv:verB h.v<;>cases h1:prB h.n h.f<;>cases h2:algB h.a<;>cases h3:modB h.k<;>simp[hv,h1,h2,h3] at hw
 rfl
theorem prB_two {n:Nat}{f:Nat→Nat} (h:prB n f=true):n=2:=by
 unfold prB at h
 simp at h
 exact h.1.1
theorem dg_lt1 (n i:Nat):(fun i=>(fun i=>if i=0 then 49 else dgF n (i-1)) (1+i)) i<256:=by
 show(if 1+i=0 then 49 else dgF n (1+i-1))<256
 split
 ·omega
 exact dgF_lt _ _
def prF (h:Hd) (n:Nat):Nat→Nat:=fun i=>
 if i=0 then h.v else if i<5 then dgF n (i-1) else if i<7 then h.f (i-5) else if i=7 then h.a else if i=8 then h.k else if i<11 then h.g (i-9) else if i=11 then h.x else 48
theorem prF_cat (v a k x n:Nat) (f g:Nat→Nat) (i:Nat) (hi:i<16):
  cat 12 (cat 11 (cat 9 (cat 7 (cat 5 (cat 1 (cat 0 (fun _=>0) fun _=>v) fun i=>dgF n i) f) fun i=>if i=0 then a else k) g) fun _=>x) (fun _=>48) i=prF ⟨v,2,f,a,k,2,g,x⟩ n i:=by
 match i,hi with
 | 0,_=>rfl
 | 1,_=>rfl
 | 2,_=>rfl
 | 3,_=>rfl
 | 4,_=>rfl
 | 5,_=>rfl
 | 6,_=>rfl
 | 7,_=>rfl
 | 8,_=>rfl
 | 9,_=>rfl
 | 10,_=>rfl
 | 11,_=>rfl
 | 12,_=>rfl
 | 13,_=>rfl
 | 14,_=>rfl
 | 15,_=>rfl
 | i+16,hi=>exact absurd hi (by omega)
theorem exec_convS {o:Oper}{a:Act}{w:World} (x:Operand) (ho:o.op= .convert 22 9 x) (v:Value) (hx:a.eval x=v){base n:Nat}{f:Nat→Nat} (h:Own w base 5 1 v n f):(execOp a.eval o).run Tryz.prog w= .ok (.value (.string (strF n f))) w:=by
 unfold execOp
 simp only[ho,hx,Sem.run_bind,conv_own h,Sem.run_pure,Result.andThen_ok]
set_option maxRecDepth 100000 in
set_option maxHeartbeats 400000 in
theorem print_ok (h:Hd) (ok:h.Ok) (hw:wrong h= -1) (n:Nat) (hn1:16≤n) (hn2:n≤9999) (w:World) (hT:Tab w):
  Calls Tryz.prog 26 #[.agg (hdC h), .int .i64 (n:Int)] w fun e w'=>e= .returned (.tuple #[.string (strF 16 (prF h n)), .nilIface])∧Below w.heap.size w w':=by
 have HR:=hid (right_any h ok)
 rw[hw] at HR
 obtain⟨v,nn,f,a,k,m,g,x⟩:=h
 obtain⟨hv,hf,ha,hk,hg,hx⟩:=ok
 simp only at hv hf ha hk hg hx
 have hB0:Below w.heap.size w (w.alloc (.cells (hdC ⟨v,nn,f,a,k,m,g,x⟩) 24)):=(Below.refl _ _).alloc (Nat.le_refl _) _
 have hT0:=hid (hT.below hB0)
 unfold hdC at hB0 hT0 HR ⊢
 simp only at hB0 hT0 HR ⊢
 have HB0:=hid hB0
 clear hB0 hT
 have i1:decide ((n:Int)<16)=false:=by simp;omega
 have i2:decide ((9999:Int)< (n:Int))=false:=by simp;omega
 have i3: ¬(n:Int)<16:=by omega
 have i4: ¬(9999:Int)< (n:Int):=by omega
 go_enter Tryz.func26,Tryz.ntmps26
 go_wp2_with fail
 refine(HR.out _).mono ?_
 rintro e w1 ⟨hB1,v1,rfl,ho⟩
 rcases ho with⟨-,rfl⟩ | ⟨ho,-⟩
 rotate_left
 ·omega
 have hsz1:=hB1.size
 have hbk:=(show Blk w1 w.heap.size 24 _ from(Blk.fresh w 24 #[.int .u8 (v:Int), .string (strF nn f), .int .u8 (a:Int), .int .u8 (k:Int), .string (strF m g), .int .u8 (x:Int)]).below hB1 (by simp))
 have HT1:=hid (hT0.out.below hB1)
 have HB1:=hid (HB0.out.trans (hB1.mono HB0.out.size))
 have hlt:w.heap.size<w1.heap.size:=by simp at hsz1;omega
 clear hB1 hT0 HB0 HR hsz1
 have Hlt:=hid hlt
 have HC:Hid (∀W,Below w1.heap.size w1 W→∀i u,(#[Value.int .u8 (v:Int), .string (strF nn f), .int .u8 (a:Int), .int .u8 (k:Int), .string (strF m g), .int .u8 (x:Int)]:Array Value)[i]? =some u→W.cell? ⟨w.heap.size,i,none⟩=some u):=hid (fun W hW i u hu=>by rw[(hbk.below hW hlt).cell i];exact hu)
 have hpr:=prB_two (wrong_n hw)
 have hpm:=prB_two (wrong_m hw)
 simp only at hpr hpm
 subst hpr hpm
 clear hbk hlt hw
 go_wp2_with (with_reducible refine wpl_mk16 rfl _ _ rfl rfl rfl ?_)
 intro v2 w2 ho2 hB2
 have Ho2:=hid ho2
 have HB2:=hid hB2
 clear ho2 hB2
 go_wp2_with (first
  | (with_reducible refine wpl_valw rfl _ (exec_ldc 5 _ rfl ⟨w.heap.size,0,none⟩ rfl _ (HC.out _ HB2.out 0 _ rfl) (.inl ⟨_,Tryz.underlying5⟩)) ?_)
  | (with_reducible refine wpl_valw rfl _ (exec_bs 22 1 _ rfl #[(0, .int .u8 (v:Int))] rfl _ (bsb1 _ _)) ?_)
  | (at_builtin;refine wpl_app rfl _ _ 22 rfl w1.heap.size 5 1 (.int .u8 0) Tryz.underlying22 info8h rfl (by omega) _ 0 _ rfl Ho2.out 1 (fun _=>v) _ (row1 v) rfl (by omega) HB2.out.size ?_))
 intro v3 w3 ho3 hB3
 have Ho3:=hid ho3
 have HB3:=hid (HB2.out.trans hB3)
 clear ho3 hB3 Ho2 HB2
 go_wp2_with fail
 refine(Sh.strconv_Itoa _ (by omega) (by omega) _ (HT1.out.below HB3.out)).mono ?_
 rintro e w4 ⟨rfl,q4,os4,hw4⟩
 have hB4:Below w3.heap.size w3 w4:=by rw[hw4];exact below_grow _ _ _
 have Ho4:=hid (Ho3.out.below hB4 (Nat.le_refl _))
 have HB4:=hid (HB3.out.trans (hB4.mono HB3.out.size))
 clear hw4 hB4 Ho3 HB3
 rw[itoa_dg n hn2]
 go_wp2_with (first
  | (with_reducible refine wpl_valw rfl _ (exec_cutSl 9 _ _ rfl 5 _ 1 rfl rfl 1 rfl (by omega) Tryz.underlying9) ?_)
  | (at_builtin;refine wpl_app_str rfl _ _ rfl w1.heap.size _ 1 _ rfl Ho4.out 4 _ rfl (fun i _=>dg_lt1 n i) (by omega) HB4.out.size ?_))
 intro v5 w5 ho5 hB5
 have Ho5:=hid ho5
 have HB5:=hid (HB4.out.trans hB5)
 clear ho5 hB5 Ho4 HB4
 go_wp2_with (first
  | (with_reducible refine wpl_valw rfl _ (exec_ldc 9 _ rfl ⟨w.heap.size,1,none⟩ rfl _ (HC.out _ HB5.out 1 _ rfl) (.inr Tryz.underlying9)) ?_)
  | (at_builtin;refine wpl_app_str rfl _ _ rfl w1.heap.size _ 5 _ rfl Ho5.out 2 f rfl (fun i _=>hf i) (by omega) HB5.out.size ?_))
 intro v6 w6 ho6 hB6
 have Ho6:=hid ho6
 have HB6:=hid (HB5.out.trans hB6)
 clear ho6 hB6 Ho5 HB5
 go_wp2_with (first
  | (with_reducible refine wpl_valw rfl _ (exec_ldc 5 _ rfl ⟨w.heap.size,2,none⟩ rfl _ (HC.out _ HB6.out 2 _ rfl) (.inl ⟨_,Tryz.underlying5⟩)) ?_)
  | (with_reducible refine wpl_valw rfl _ (exec_ldc 5 _ rfl ⟨w.heap.size,3,none⟩ rfl _ (HC.out _ HB6.out 3 _ rfl) (.inl ⟨_,Tryz.underlying5⟩)) ?_)
  | (with_reducible refine wpl_valw rfl _ (exec_bs 22 2 _ rfl #[(0, .int .u8 (a:Int)),(1, .int .u8 (k:Int))] rfl _ (bsb2 _ _ _)) ?_)
  | (at_builtin;refine wpl_app rfl _ _ 22 rfl w1.heap.size 5 1 (.int .u8 0) Tryz.underlying22 info8h rfl (by omega) _ 7 _ rfl Ho6.out 2 (fun i=>if i=0 then a else k) _ (row2x a k) rfl (by omega) HB6.out.size ?_))
 intro v7 w7 ho7 hB7
 have Ho7:=hid ho7
 have HB7:=hid (HB6.out.trans hB7)
 clear ho7 hB7 Ho6 HB6
 go_wp2_with (first
  | (with_reducible refine wpl_valw rfl _ (exec_ldc 9 _ rfl ⟨w.heap.size,4,none⟩ rfl _ (HC.out _ HB7.out 4 _ rfl) (.inr Tryz.underlying9)) ?_)
  | (at_builtin;refine wpl_app_str rfl _ _ rfl w1.heap.size _ 9 _ rfl Ho7.out 2 g rfl (fun i _=>hg i) (by omega) HB7.out.size ?_))
 intro v8 w8 ho8 hB8
 have Ho8:=hid ho8
 have HB8:=hid (HB7.out.trans hB8)
 clear ho8 hB8 Ho7 HB7
 go_wp2_with (first
  | (with_reducible refine wpl_valw rfl _ (exec_ldc 5 _ rfl ⟨w.heap.size,5,none⟩ rfl _ (HC.out _ HB8.out 5 _ rfl) (.inl ⟨_,Tryz.underlying5⟩)) ?_)
  | (with_reducible refine wpl_valw rfl _ (exec_bs 22 1 _ rfl #[(0, .int .u8 (x:Int))] rfl _ (bsb1 _ _)) ?_)
  | (at_builtin;refine wpl_app rfl _ _ 22 rfl w1.heap.size 5 1 (.int .u8 0) Tryz.underlying22 info8h rfl (by omega) _ 11 _ rfl Ho8.out 1 (fun _=>x) _ (row1 x) rfl (by omega) HB8.out.size ?_))
 intro v9 w9 ho9 hB9
 have Ho9:=hid ho9
 have HB9:=hid (HB8.out.trans hB9)
 clear ho9 hB9 Ho8 HB8
 go_wp2_with (first
  | (at_builtin;refine wpl_app_str rfl _ _ rfl w1.heap.size _ 12 _ rfl Ho9.out 4 (fun _=>48) rfl (fun _ _=>by omega) (by omega) HB9.out.size ?_))
 intro v10 w10 ho10 hB10
 have Ho10:=hid ho10
 have HB10:=hid (HB9.out.trans hB10)
 clear ho10 hB10 Ho9 HB9
 have hF:=Ho10.out.ext (g:=prF ⟨v,2,f,a,k,2,g,x⟩ n) (fun i hi=>prF_cat v a k x n f g i (by omega))
 have HF:=hid hF
 clear hF Ho10
 go_wp2_with (with_reducible refine wpl_valw rfl _ (exec_convS _ rfl _ rfl HF.out) ?_)
 go_ret2
 exact⟨rfl,HB1.out.trans (HB10.out.mono HB1.out.size)⟩
end Go.Proofs.YtlmacfmfmjhidaaGreatDoor.Hd
namespace Go.Proofs.YtlmacfmfmjhidaaGreatDoor.Hd
open Mem Go.ChangeShapes Go.WideShapes Go.ChangeAt Go.RowKit
def sameS (n:Nat) (f:Nat→Nat) (m:Nat) (g:Nat→Nat):Bool:=decide (n=m) && eqB n f g
theorem exec_nesB {P:Program}{o:Oper}{a:Act}{w:World} (t:TypeId) (x y:Operand) (rt:TypeId) (ho:o.op= .binOp .neq t x y rt) (n m:Nat) (f g:Nat→Nat) (hx:a.eval x= .string (strF n f)) (hy:a.eval y= .string (strF m g)) (hf: ∀i,i<n→f i<256) (hg: ∀i,i<m→g i<256) (b:Bool) (hb:(!sameS n f m g)=b):
  (execOp a.eval o).run P w= .ok (.value (.bool b)) w:=by
 subst hb
 exact exec_nes t x y rt ho n m f g hx hy hf hg
end Go.Proofs.YtlmacfmfmjhidaaGreatDoor.Hd
namespace Go.Proofs.YtlmacfmfmjhidaaGreatDoor.Hd
open Mem As Go.ChangeShapes Go.WideShapes Go.ChangeAt Go.RowKit
def lenF (f:Nat→Nat):Nat→Nat
 | 0=>0
 | k+1=>10*lenF f k+(f k-48)
def lenZ (f:Nat→Nat):Int:=if dgB (f 0) && dgB (f 1) && dgB (f 2) && dgB (f 3) then(lenF f 4:Int) else-1
theorem dgB_iff {c:Nat}:dgB c=true↔48≤c∧c≤57:=by simp[dgB]
theorem lenF_lt {f:Nat→Nat}: ∀k,(∀i,i<k→dgB (f i)=true)→lenF f k<10^k
 | 0,_=>by simp[lenF]
 | k+1,h=>by
  have h1:=lenF_lt k (fun i hi=>h i (by omega))
  have h2:=dgB_iff.1 (h k (by omega))
  simp only[lenF,Nat.pow_succ]
  omega
theorem pow4 {k:Nat} (h:k<4):10^k≤10000:=by
 have h:k=0∨k=1∨k=2∨k=3:=by omega
 rcases h with rfl | rfl | rfl | rfl<;>decide
theorem lenZ_bad {f:Nat→Nat}{k:Nat} (hk:k<4) (h:dgB (f k)=false):lenZ f= -1:=by
 unfold lenZ
 have:k=0∨k=1∨k=2∨k=3:=by omega
 rcases this with rfl | rfl | rfl | rfl<;>simp[h]
theorem lenZ_ok {f:Nat→Nat} (h: ∀i,i<4→dgB (f i)=true):lenZ f=(lenF f 4:Int):=by
 unfold lenZ
 rw[h 0 (by omega),h 1 (by omega),h 2 (by omega),h 3 (by omega)]
 rfl
set_option maxRecDepth 100000 in
theorem lenOf_any (f:Nat→Nat) (hf: ∀i,f i<256) (w:World):Calls Tryz.prog 69 #[.string (strF 4 f)] w fun e w'=>e= .returned (.int .i64 (lenZ f))∧w'=w:=by
 have hsz:=strF_size 4 f
 go_enter Tryz.func69,Tryz.ntmps69
 go_wp2_with fail
 go_loopw [3,4,7] (fun s _ y wr=> ∃k:Nat,k≤4∧s= .int .i64 ((lenF f k:Nat):Int)∧y= .int .i64 (k:Int)∧Hid (∀i,i<k→dgB (f i)=true)∧wr=w) (fun _ _ y _=>4-(intOf y).toNat)
 case atStart=>exact⟨0,by omega,rfl,rfl,hid (fun i hi=>by omega),rfl⟩
 case round=>
  obtain⟨k,hk,rfl,rfl,HD,rfl⟩:=hrel
  by_cases hlt:k<4
  ·have hb:=byteAt_strF hlt (hf k)
   have HM:=hid (may1 (f k))
   have hL:=lenF_lt k HD.out
   have hL2:lenF f k<10000:=Nat.lt_of_lt_of_le hL (pow4 hlt)
   clear hL
   cases hd:dgB (f k)
   ·have Hd:=hid hd
    clear hd
    go_wp2_with (first
     | (with_reducible refine wpl_str rfl 9 _ _ rfl (strF 4 f) rfl .i64 _ rfl k rfl Tryz.underlying9 (f k) hb ?_)
     | (go_at_call 46;refine(HM.out _).mono ?_;rintro e w' ⟨rfl,rfl⟩;rw[Hd.out]))
    go_ret
    exact⟨by rw[lenZ_bad hlt Hd.out];rfl,rfl⟩
   have h4:=dgB_iff.1 hd
   have Hd:=hid hd
   clear hd
   go_wp2_with (first
    | (with_reducible refine wpl_str rfl 9 _ _ rfl (strF 4 f) rfl .i64 _ rfl k rfl Tryz.underlying9 (f k) hb ?_)
    | (go_at_call 46;refine(HM.out _).mono ?_;rintro e w' ⟨rfl,rfl⟩;rw[Hd.out]))
   go_round
   case rel=>exact⟨k+1,by omega,val_int (by simp only[lenF];omega),val_int (by omega),hid (fun i hi=>by
     by_cases h:i<k
     ·exact HD.out i h
     obtain rfl:i=k:=by omega
     exact Hd.out),by first | rfl | trivial⟩
   case measure=>simp[intOf];omega
  obtain rfl:k=4:=by omega
  have hZ:=hid (lenZ_ok HD.out)
  go_wp2_with fail
  go_ret
  exact⟨by rw[hZ.out];rfl,rfl⟩
theorem as_box (n:Addr) (w:World) (hg:Laid w):Calls Tryz.prog 31 #[.iface 65 (.pointer (some n)), .iface 66 (.pointer (some ⟨w.heap.size,0,none⟩))] (w.alloc (.cells #[.pointer none] 65)) fun e w'=>e= .returned (.bool true)∧Below w.heap.size w w'∧w'.cell? ⟨w.heap.size,0,none⟩=some (.pointer (some n)):=by
 have hgA:Laid (w.alloc (.cells #[.pointer none] 65)):=hg.below ((Below.refl _ _).alloc (Nat.le_refl _) _)
 refine(as_hitF n _ (.pointer none) _ hgA (by simp) (by simp)).mono fun e w' ⟨h1,hw'⟩=>⟨h1,?_,?_⟩
 ·rw[hw']
  exact(((((Below.refl w.heap.size w).alloc (Nat.le_refl _) _).alloc (by simp) _).alloc (by simp;omega) _).alloc (by simp;omega) _).alloc (by simp;omega) _ |>.setCell (by simp) _
 rw[hw']
 exact(Blk.cell (Blk.setCell (((((Blk.fresh w 65 #[.pointer none]).alloc _).alloc _).alloc _).alloc _) 0 _) 0).trans (by simp)
def zeroB (f:Nat→Nat):Bool:=sameS 4 f 4 (fun _=>48)
def refZ (z len:Int) (f:Nat→Nat):Int:=if z=0 then 0 else if len<16 then 1 else if 0≤z then z else if zeroB f=false then 12 else-1
theorem exec_nesZ {P:Program}{o:Oper}{a:Act}{w:World} (t:TypeId) (x y:Operand) (rt:TypeId) (ho:o.op= .binOp .neq t x y rt) (f:Nat→Nat) (hx:a.eval x= .string (strF 4 f)) (hy:a.eval y= .string ⟨#[48,48,48,48]⟩) (hf: ∀i,f i<256) (b:Bool) (hb:(!zeroB f)=b):
  (execOp a.eval o).run P w= .ok (.value (.bool b)) w:=
 exec_nesB t x y rt ho 4 4 f (fun _=>48) hx (hy.trans rfl) (fun i _=>hf i) (fun _ _=>by omega) b hb
theorem wrong_lo (h:Hd):wrong h= -1∨0≤wrong h:=by
 unfold wrong
 repeat' split
 all_goals omega
set_option maxRecDepth 100000 in
set_option maxHeartbeats 400000 in
theorem refuse_any (h:Hd) (ok:h.Ok) (len:Int) (e4:Nat→Nat) (he: ∀i,e4 i<256) (w:World) (hg:Laid w):Calls Tryz.prog 70 #[.agg (hdC h), .int .i64 len, .string (strF 4 e4)] w (RightOut (refZ (wrong h) len e4) w):=by
 have HR:=hid (right_any h ok)
 have hlo:=wrong_lo h
 obtain⟨z,hz⟩: ∃z,z=refZ (wrong h) len e4:=⟨_,rfl⟩
 rw[← hz]
 have Hz:=hid hz
 clear hz
 generalize wrong h=q at*
 obtain⟨v,nn,f,a,k,m,g,x⟩:=h
 have hB0:Below w.heap.size w (w.alloc (.cells (hdC ⟨v,nn,f,a,k,m,g,x⟩) 24)):=(Below.refl _ _).alloc (Nat.le_refl _) _
 have hs0:=hB0.size
 have hg0:=hg.below hB0
 unfold hdC at hB0 hg0 hs0 HR ⊢
 simp only at hB0 hg0 hs0 HR ⊢
 have HB0:=hid hB0
 have Hg0:=hid hg0
 have Hs0:=hid hs0
 clear hB0 ok hg hg0 hs0
 go_enter Tryz.func70,Tryz.ntmps70
 go_wp2_with fail
 refine(HR.out _).mono ?_
 rintro e w1 ⟨hB1,v1,rfl,ho⟩
 have HB1:=hid (HB0.out.trans (hB1.mono HB0.out.size))
 have Hg1:=hid (Hg0.out.below hB1)
 have hB2: ∀cs t,Below w1.heap.size w1 (w1.alloc (.cells cs t)):=fun cs t=>(Below.refl _ _).alloc (Nat.le_refl _) _
 have HB2:=hid hB2
 clear hB2
 rcases ho with⟨hq,rfl⟩ | ⟨hq,g1,hg1,rfl,hb⟩
 ·subst hq
  clear hB1 HR Hg0 hlo
  by_cases hl:len<16
  ·have hz:z=1:=by rw[Hz.out];simp[refZ,hl]
   go_wp2_with fail
   refine(as_nil _ _).mono ?_
   rintro e w2 ⟨rfl,rfl⟩
   go_wp2_with fail
   refine(unf_any 1 _).mono ?_
   rintro e w3 ⟨rfl,hb,hB⟩
   have hO:=right_bad (w:=w) (g:=w1.heap.size+1) (by omega) (HB1.out.trans ((HB2.out _ _).mono HB1.out.size)) (by simp) hb hB
   rw[← hz] at hO
   go_wp2_with fail
   go_ret
   exact hO
  cases hzb:zeroB e4
  ·have hz:z=12:=by rw[Hz.out];simp[refZ,hl,hzb]
   have hzb':(!zeroB e4)=true:=by rw[hzb];rfl
   go_wp2_with fail
   refine(as_nil _ _).mono ?_
   rintro e w2 ⟨rfl,rfl⟩
   go_wp2_with (with_reducible refine wpl_valw rfl _ (exec_nesZ 9 _ _ _ rfl e4 rfl rfl he _ hzb') ?_)
   refine(unf_any 12 _).mono ?_
   rintro e w3 ⟨rfl,hb,hB⟩
   have hO:=right_bad (w:=w) (g:=w1.heap.size+1) (by omega) (HB1.out.trans ((HB2.out _ _).mono HB1.out.size)) (by simp) hb hB
   rw[← hz] at hO
   go_wp2_with fail
   go_ret
   exact hO
  have hz:z= -1:=by rw[Hz.out];simp[refZ,hl,hzb]
  have hzb':(!zeroB e4)=false:=by rw[hzb];rfl
  go_wp2_with fail
  refine(as_nil _ _).mono ?_
  rintro e w2 ⟨rfl,rfl⟩
  go_wp2_with (with_reducible refine wpl_valw rfl _ (exec_nesZ 9 _ _ _ rfl e4 rfl rfl he _ hzb') ?_)
  go_ret
  exact⟨HB1.out.trans ((HB2.out _ _).mono HB1.out.size),_,rfl, .inl ⟨hz,rfl⟩⟩
 have hg2:w.heap.size≤g1:=Nat.le_trans Hs0.out hg1
 have hgl:=hb.lt
 have Hb:=hid hb
 clear hB1 HR Hg0 hlo hb hg1
 go_wp2_with fail
 refine(as_box _ _ Hg1.out).mono ?_
 rintro e w2 ⟨rfl,hB,c2⟩
 have hb2:=Hb.out.below hB hgl
 have c3:w2.cell? ⟨g1,0,none⟩=some (.int .i64 q):=hb2.cell 0
 have Hb2:=hid hb2
 have HB3:=hid (HB1.out.trans (hB.mono HB1.out.size))
 clear hB hb2
 by_cases hq0:q=0
 ·have hz:z=0:=by rw[Hz.out];simp[refZ,hq0]
  subst hq0
  go_wp2_with fail
  go_ret
  exact⟨HB3.out,_,rfl, .inr ⟨by omega,_,hg2,rfl,by rw[hz];exact Hb2.out⟩⟩
 have hqI: ¬q<1:=by omega
 by_cases hl:len<16
 ·have hz:z=1:=by rw[Hz.out];simp[refZ,hl,hq0]
  go_wp2_with fail
  refine(unf_any 1 _).mono ?_
  rintro e w3 ⟨rfl,hb,hB⟩
  have hO:=right_bad (w:=w) (by omega) HB3.out rfl hb hB
  rw[← hz] at hO
  go_wp2_with fail
  go_ret
  exact hO
 have hz:z=q:=by rw[Hz.out];simp[refZ,hl,hq0,hq]
 go_wp2_with fail
 go_ret
 exact⟨HB3.out,_,rfl, .inr ⟨by omega,_,hg2,rfl,by rw[hz];exact Hb2.out⟩⟩
end Go.Proofs.YtlmacfmfmjhidaaGreatDoor.Hd
namespace Go.Proofs.YtlmacfmfmjhidaaGreatDoor.Hd
open Mem As Go.ChangeShapes Go.WideShapes Go.ChangeAt Go.RowKit
section
variable {P:Program}{fn:Func}{R:Ending→World→Prop}{a:Act}{w:World}{o:Oper}
theorem ret_cs1 {p:Tmp}{ty:TypeId} (h:fn.results=#[.cell p ty]) (hd:a.defers=[]) (g:Nat) (hp:a.tmps.getD p undef= .pointer (some ⟨g,0,none⟩)) (t:TypeId) (cs:Array Value) (hg:Blk w g t cs) (fs:Array Field) (hu:P.underlying ty=some (.struct fs)) (hi:(P.info? ty).map (·.size)=some cs.size) (hR:R (.returned (.agg cs)) w):bodyPost P fn R .ret a w:=by
 refine bodyPost_ret ?_ hd hR
 have hl:=run_loadVar_row (P:=P) w g t ty cs (0,0) _ hg hu rfl hi
 have hp':a.tmps[p]?.getD undef= .pointer (some ⟨g,0,none⟩):=by simpa using hp
 simp[results,h,hp',asAddr,hl]
theorem ret_cs3 {p q q2:Tmp}{ty:TypeId} (h:fn.results=#[.cell p ty, .tmp q, .tmp q2]) (hd:a.defers=[]) (g:Nat) (hp:a.tmps.getD p undef= .pointer (some ⟨g,0,none⟩)) (v:Value) (hq:a.tmps.getD q undef=v) (v2:Value) (hq2:a.tmps.getD q2 undef=v2)
  (t:TypeId) (cs:Array Value) (hg:Blk w g t cs) (fs:Array Field) (hu:P.underlying ty=some (.struct fs)) (hi:(P.info? ty).map (·.size)=some cs.size) (hR:R (.returned (.tuple #[.agg cs,v,v2])) w):bodyPost P fn R .ret a w:=by
 refine bodyPost_ret ?_ hd hR
 have hl:=run_loadVar_row (P:=P) w g t ty cs (0,0) _ hg hu rfl hi
 have hp':a.tmps[p]?.getD undef= .pointer (some ⟨g,0,none⟩):=by simpa using hp
 have hq':a.tmps[q]?.getD undef=v:=by simpa using hq
 have hq2':a.tmps[q2]?.getD undef=v2:=by simpa using hq2
 simp[results,h,hp',hq',hq2',asAddr,hl]
theorem exec_ldcs (ty:TypeId) (x:Operand) (ho:o.op= .load ty x) (g:Nat) (hx:a.eval x= .pointer (some ⟨g,0,none⟩)) (t:TypeId) (cs:Array Value) (hg:Blk w g t cs) (fs:Array Field) (hu:P.underlying ty=some (.struct fs)) (hi:(P.info? ty).map (·.size)=some cs.size):(execOp a.eval o).run P w= .ok (.value (.agg cs)) w:=by
 have hl:=run_loadVar_row (P:=P) w g t ty cs (0,0) _ hg hu rfl hi
 unfold execOp
 simp[ho,hx,Instr.loadAt,Instr.sureAddr,hl]
end
theorem iHead:(Tryz.prog.info? 24).map (·.size)=some 6:=by kernel_rfl
theorem one6 (a b c d:Int) (s t:ByteArray):(#[.int .u8 a, .string s, .int .u8 b, .int .u8 c, .string t, .int .u8 d]:Array Value).all (·.oneCell')=true:=by simp[Value.oneCell']
def noHd:Array Value:=#[.int .u8 0, .string ⟨#[]⟩, .int .u8 0, .int .u8 0, .string ⟨#[]⟩, .int .u8 0]
theorem zHead:(Tryz.prog.info? 24).map (·.zero)=some (some (.agg noHd)):=by kernel_rfl
theorem clone_any (n:Nat) (f:Nat→Nat) (hn:n≤1000) (w:World):Calls Tryz.prog 98 #[.string (strF n f)] w fun e w'=>e= .returned (.string (strF n f))∧Below w.heap.size w w':=by
 have hC:=hid (Sh.stringslite_Clone (strF n f) w (by rw[strF_size];omega))
 go_enter Tryz.func98,Tryz.ntmps98
 go_wp2_with (go_at_call 120;refine hC.out.mono ?_;rintro e w' ⟨rfl,hB⟩)
 go_ret
 exact⟨rfl,hB⟩
def cutH (f:Nat→Nat):Hd:=⟨f 0,2,fun i=>f (5+i),f 7,f 8,2,fun i=>f (9+i),f 11⟩
set_option maxRecDepth 100000 in
set_option maxHeartbeats 1000000 in
set_option linter.unusedSimpArgs false in
theorem cut_any (n:Nat) (f:Nat→Nat) (hf: ∀i,f i<256) (hn:16≤n) (hn2:n≤100000) (w:World):Calls Tryz.prog 68 #[.string (strF n f)] w fun e w'=>e= .returned (.agg (hdC (cutH f)))∧Below w.heap.size w w':=by
 have h0:=byteAt_strF (n:=n) (f:=f) (k:=0) (by omega) (hf 0)
 have h7:=byteAt_strF (n:=n) (f:=f) (k:=7) (by omega) (hf 7)
 have h8:=byteAt_strF (n:=n) (f:=f) (k:=8) (by omega) (hf 8)
 have h11:=byteAt_strF (n:=n) (f:=f) (k:=11) (by omega) (hf 11)
 have hB0:Below w.heap.size w (w.alloc (.cells noHd 24)):=(Below.refl _ _).alloc (Nat.le_refl _) _
 have hb0:=Blk.fresh w 24 noHd
 have HB0:=hid hB0
 have Hb0:=hid hb0
 clear hB0 hb0
 go_enter Tryz.func68,Tryz.ntmps68
 go_wp2_with (with_reducible refine wpl_alloc rfl 24 rfl _ zHead ?_)
 generalize w.alloc (.cells noHd 24)=w0 at HB0 Hb0 ⊢
 refine wp_region_held_drew (S:=fun W=>Below w.heap.size w W) (by kernel_rfl) HB0.out.drew (fun hS0=>?_)
 have hb1:Blk w0.drew w.heap.size 24 noHd:=Hb0.out
 refine ztk (i:=0) (v:= .string (strF n f)) rfl (fun _ _=>exec_move _ rfl _ rfl) hS0 ?_
 (try simp only[Act.put,zza,zzb,zzc,zzd,zze,zzf])
 refine ztk (i:=1) (v:= .int .u8 ((f 0:Nat):Int)) rfl (fun W _=>exec_str 9 _ _ rfl (strF n f) rfl .i64 _ rfl 0 rfl Tryz.underlying9 (f 0) h0) hS0 ?_
 (try simp only[Act.put,zza,zzb,zzc,zzd,zze,zzf])
 refine ztk (i:=2) (v:= .string (strF n f)) rfl (fun _ _=>exec_move _ rfl _ rfl) hS0 ?_
 (try simp only[Act.put,zza,zzb,zzc,zzd,zze,zzf])
 refine ztk (i:=3) (v:= .string (strF 2 fun i=>f (5+i))) rfl (fun W _=>exec_cutS 9 _ _ _ rfl n f 5 7 rfl rfl rfl 5 7 rfl rfl (by omega) (by omega) Tryz.underlying9) hS0 ?_
 (try simp only[Act.put,zza,zzb,zzc,zzd,zze,zzf])
 refine ztk (i:=5) (v:= .string (strF n f)) rfl (fun _ _=>exec_move _ rfl _ rfl) hS0 ?_
 (try simp only[Act.put,zza,zzb,zzc,zzd,zze,zzf])
 refine ztk (i:=6) (v:= .int .u8 ((f 7:Nat):Int)) rfl (fun W _=>exec_str 9 _ _ rfl (strF n f) rfl .i64 _ rfl 7 rfl Tryz.underlying9 (f 7) h7) hS0 ?_
 (try simp only[Act.put,zza,zzb,zzc,zzd,zze,zzf])
 refine ztk (i:=7) (v:= .string (strF n f)) rfl (fun _ _=>exec_move _ rfl _ rfl) hS0 ?_
 (try simp only[Act.put,zza,zzb,zzc,zzd,zze,zzf])
 refine ztk (i:=8) (v:= .int .u8 ((f 8:Nat):Int)) rfl (fun W _=>exec_str 9 _ _ rfl (strF n f) rfl .i64 _ rfl 8 rfl Tryz.underlying9 (f 8) h8) hS0 ?_
 (try simp only[Act.put,zza,zzb,zzc,zzd,zze,zzf])
 refine ztk (i:=9) (v:= .string (strF n f)) rfl (fun _ _=>exec_move _ rfl _ rfl) hS0 ?_
 (try simp only[Act.put,zza,zzb,zzc,zzd,zze,zzf])
 refine ztk (i:=10) (v:= .string (strF 2 fun i=>f (9+i))) rfl (fun W _=>exec_cutS 9 _ _ _ rfl n f 9 11 rfl rfl rfl 9 11 rfl rfl (by omega) (by omega) Tryz.underlying9) hS0 ?_
 (try simp only[Act.put,zza,zzb,zzc,zzd,zze,zzf])
 refine ztk (i:=12) (v:= .string (strF n f)) rfl (fun _ _=>exec_move _ rfl _ rfl) hS0 ?_
 (try simp only[Act.put,zza,zzb,zzc,zzd,zze,zzf])
 refine ztk (i:=13) (v:= .int .u8 ((f 11:Nat):Int)) rfl (fun W _=>exec_str 9 _ _ rfl (strF n f) rfl .i64 _ rfl 11 rfl Tryz.underlying9 (f 11) h11) hS0 ?_
 (try simp only[Act.put,zza,zzb,zzc,zzd,zze,zzf])
 refine wpAnyH_ready (rs:=[4]) (by kernel_rfl) (by simp) (AllReadyH.cons rfl (fun K hK=>?_) AllReadyH.nil)
 (try simp only[Act.put,zza,zzb,zzc,zzd,zze,zzf])
 refine Eq.mpr (if_pos (by rfl)) ?_
 go_simp
 refine(clone_any 2 _ (by omega) _).mono ?_
 rintro e wq1 ⟨rfl,hBwq1⟩
 have hb2:=hb1.below hBwq1 hb1.lt
 refine hK.out _ _ (hS0.trans (hBwq1.mono hS0.size)) (fun hS1=>?_)
 (try simp only[Act.put,zza,zzb,zzc,zzd,zze,zzf])
 clear hK K
 refine wpAnyH_ready (rs:=[11]) (by kernel_rfl) (by simp) (AllReadyH.cons rfl (fun K hK=>?_) AllReadyH.nil)
 (try simp only[Act.put,zza,zzb,zzc,zzd,zze,zzf])
 refine Eq.mpr (if_pos (by rfl)) ?_
 go_simp
 refine(clone_any 2 _ (by omega) _).mono ?_
 rintro e wq2 ⟨rfl,hBwq2⟩
 have hb3:=hb2.below hBwq2 hb2.lt
 refine hK.out _ _ (hS1.trans (hBwq2.mono hS1.size)) (fun hS2=>?_)
 (try simp only[Act.put,zza,zzb,zzc,zzd,zze,zzf])
 clear hK K
 refine ztk (i:=14) (v:= .agg #[.int .u8 ((f 0:Nat):Int), .string (strF 2 fun i=>f (5+i)), .int .u8 ((f 7:Nat):Int), .int .u8 ((f 8:Nat):Int), .string (strF 2 fun i=>f (9+i)), .int .u8 ((f 11:Nat):Int)]) rfl (fun W _=>by go_simp) hS2 ?_
 (try simp only[Act.put,zza,zzb,zzc,zzd,zze,zzf])
 refine wpAnyH_ready (rs:=[15]) (by kernel_rfl) (by simp) (AllReadyH.cons rfl (fun K hK=>?_) AllReadyH.nil)
 (try simp only[Act.put,zza,zzb,zzc,zzd,zze,zzf])
 refine Eq.mpr (if_pos (by rfl)) ?_
 refine wp_store_blk 24 _ _ rfl w.heap.size (#[.int .u8 ((f 0:Nat):Int), .string (strF 2 fun i=>f (5+i)), .int .u8 ((f 7:Nat):Int), .int .u8 ((f 8:Nat):Int), .string (strF 2 fun i=>f (9+i)), .int .u8 ((f 11:Nat):Int)]) rfl rfl 24 _ hb3 iHead rfl (one6 _ _ _ _ _ _) ?_
 (try simp only[Act.put,zza,zzb,zzc,zzd,zze,zzf])
 refine hK.out _ _ (below_setRow' hS2 (Nat.le_refl _) _) (fun hS3=>?_)
 (try simp only[Act.put,zza,zzb,zzc,zzd,zze,zzf])
 refine wpAnyH_done (by kernel_rfl) ?_ _
 clear hK
 go_wp2_with fail
 exact ret_cs1 Tryz.results68 rfl w.heap.size rfl 24 _ (hb3.setRow _) _ Tryz.underlying24 iHead ⟨rfl,hS3⟩
end Go.Proofs.YtlmacfmfmjhidaaGreatDoor.Hd
namespace Go.Proofs.YtlmacfmfmjhidaaGreatDoor.Hd
open Mem As Go.ChangeShapes Go.WideShapes Go.ChangeAt Go.RowKit
section
variable {P:Program}{ops:Array Oper}{rest:List Oper}{o:Oper}{a:Act}{w:World}{Q:Exit→Act→World→Prop}
theorem wpl_storeH (hgd:o.guard=none) (ty:TypeId) (x y:Operand) (ho:o.op= .store ty x y) (g:Nat) (cells:Array Value) (hx:a.eval x= .pointer (some ⟨g,0,none⟩)) (hy:a.eval y= .agg cells)
  (t:TypeId) (old:Array Value) (hg:Blk w g t old) (hi:(P.info? ty).map (·.size)=some cells.size) (hold:old.size=cells.size) (h1:cells.all (·.oneCell')=true)
  (h:wpList P ops Q rest (a.put o.dst undef) (w.setRow g cells)):wpList P ops Q (o::rest) a w:=
 wpList_plain hgd fun _ hK=>wp_store_row ty x y ho g cells hx hy t old hg hi hold h1 (hK _ _ h)
end
theorem exec_allocH {o:Oper}{a:Act}{w:World} (t:TypeId) (ho:o.op= .alloc t) (cs:Array Value) (hz:(Tryz.prog.info? t).map (·.zero)=some (some (.agg cs))):(execOp a.eval o).run Tryz.prog w= .ok (.value (.pointer (some ⟨w.heap.size,0,none⟩))) (w.alloc (.cells cs t)):=by
 have hz':(zeroValue t).run Tryz.prog w= .ok (.agg cs) w:=by
  cases hq:Tryz.prog.info? t with
  | none=>simp[hq] at hz
  | some i=>simp[hq] at hz;simp[zeroValue,typeInfo,hq,hz]
 unfold execOp
 simp only[ho,Instr.alloc,Sem.run_bind,hz',Result.andThen_ok]
 rfl
theorem wp_vw {P:Program}{o:Oper}{a:Act}{w w':World}{K:Act→World→Prop}{Q:Exit→Act→World→Prop} (v:Value) (hr:(execOp a.eval o).run P w= .ok (.value v) w') (h:K (a.put o.dst v) w'):o.wp P a w K Q:=by
 unfold Oper.wp
 rw[hr]
 exact h
theorem built0:Tryz.prog.built 24 []=some noHd:=by kernel_rfl
theorem oneNo:noHd.all (·.oneCell')=true:=by kernel_rfl
theorem oneC (h:Hd):(hdC h).all (·.oneCell')=true:=one6 _ _ _ _ _ _
theorem sizeC (h:Hd):(Tryz.prog.info? 24).map (·.size)=some (hdC h).size:=iHead
theorem sizeN:(Tryz.prog.info? 24).map (·.size)=some noHd.size:=iHead
theorem cutH_ok {f:Nat→Nat} (hf: ∀i,f i<256):(cutH f).Ok:=⟨hf _,fun _=>hf _,hf _,hf _,fun _=>hf _,hf _⟩
def parZ (f:Nat→Nat):Int:=refZ (wrong (cutH f)) (lenZ fun i=>f (1+i)) (fun i=>f (12+i))
def P3 (w:World) (f:Nat→Nat) (W:World) (g:Nat):Prop:=Below w.heap.size w W∧Blk W w.heap.size 24 noHd∧Blk W g 24 (hdC (cutH f))∧w.heap.size<g
theorem parse_short (n:Nat) (f:Nat→Nat) (hn:n<16) (w:World):Calls Tryz.prog 38 #[.string (strF n f)] w fun e w'=>e= .returned (.tuple #[.agg noHd, .int .i64 0, .iface 56 (.int .i64 2)])∧Below w.heap.size w w':=by
 have hsz:=strF_size n f
 have hnI:(n:Int)<16:=by omega
 have hB0: ∀cs,Below w.heap.size w (w.alloc (.cells cs 24)):=fun cs=>(Below.refl _ _).alloc (Nat.le_refl _) _
 have hb0:=Blk.fresh w 24 noHd
 have HB0:=hid hB0
 have Hb0:=hid hb0
 clear hB0 hb0
 go_enter Tryz.func38,Tryz.ntmps38
 go_wp2_with (first
  | (with_reducible refine wpl_alloc rfl 24 rfl _ zHead ?_)
  | (with_reducible refine wpl_build0 rfl 24 rfl _ built0 ?_)
  | (with_reducible refine wpl_storeH rfl 24 _ _ rfl w.heap.size noHd rfl rfl 24 _ Hb0.out sizeN rfl oneNo ?_))
 exact ret_cs3 Tryz.results38 rfl w.heap.size rfl _ rfl _ rfl 24 _ (Hb0.out.setRow _) _ Tryz.underlying24 sizeN ⟨rfl,below_setRow' (HB0.out _) (Nat.le_refl _) _⟩
set_option maxRecDepth 100000 in
set_option maxHeartbeats 1000000 in
set_option linter.unusedSimpArgs false in
theorem parse_any (n:Nat) (f:Nat→Nat) (hf: ∀i,f i<256) (hn:16≤n) (hn2:n≤100000) (w:World) (hg:Laid w):Calls Tryz.prog 38 #[.string (strF n f)] w fun e w'=>Below w.heap.size w w'∧
  ((parZ f= -1∧e= .returned (.tuple #[.agg (hdC (cutH f)), .int .i64 (lenZ fun i=>f (1+i)), .nilIface]))∨
  (0≤parZ f∧∃g,w.heap.size≤g∧e= .returned (.tuple #[.agg noHd, .int .i64 0, .iface 65 (.pointer (some ⟨g,0,none⟩))])∧Blk w' g 68 #[.int .i64 (parZ f), .iface 56 (.int .i64 6)])):=by
 have hsz:=strF_size n f
 have hnI: ¬(n:Int)<16:=by omega
 have hlt16:decide ((n:Int)<16)=false:=by simp;omega
 have hB0:Below w.heap.size w (w.alloc (.cells noHd 24)):=(Below.refl _ _).alloc (Nat.le_refl _) _
 have hb0:=Blk.fresh w 24 noHd
 have HB0:=hid hB0
 have Hb0:=hid hb0
 have Hg:=hid hg
 clear hB0 hb0 hg
 go_enter Tryz.func38,Tryz.ntmps38
 go_wp2_with (with_reducible refine wpl_alloc rfl 24 rfl _ zHead ?_)
 generalize w.alloc (.cells noHd 24)=w0 at HB0 Hb0 ⊢
 apply suff (F:=P3 w f)
 case h1=>
  intro kk
  refine wp_region_held_drew (S:=fun W=>Below w.heap.size w W) (by kernel_rfl) HB0.out.drew (fun hS0=>?_)
  have hbx0:Blk w0.drew w.heap.size 24 noHd:=Hb0.out
  refine ztk (i:=0) (v:= .string (strF n f)) rfl (fun _ _=>exec_move _ rfl _ rfl) hS0 ?_
  (try simp only[Act.put,zza,zzb,zzc,zzd,zze,zzf])
  refine ztk (i:=2) (v:= .string (strF n f)) rfl (fun _ _=>exec_move _ rfl _ rfl) hS0 ?_
  (try simp only[Act.put,zza,zzb,zzc,zzd,zze,zzf])
  refine ztk (i:=3) (v:= .string (strF 4 fun i=>f (1+i))) rfl (fun W _=>exec_cutS 9 _ _ _ rfl n f 1 5 rfl rfl rfl 1 5 rfl rfl (by omega) (by omega) Tryz.underlying9) hS0 ?_
  (try simp only[Act.put,zza,zzb,zzc,zzd,zze,zzf])
  refine wpAnyH_ready (rs:=[1,5]) (by kernel_rfl) (by simp) ?_
  refine AllReadyH.cons rfl (fun K hK=>?_) (AllReadyH.cons rfl (fun K hK=>?_) AllReadyH.nil)
  (try simp only[Act.put,zza,zzb,zzc,zzd,zze,zzf])
  refine Eq.mpr (if_pos (by rfl)) ?_
  go_simp
  refine(cut_any n f hf hn hn2 _).mono ?_
  rintro e wq1 ⟨rfl,hB1⟩
  have hbx1:=hbx0.below hB1 hbx0.lt
  refine hK.out _ _ (hS0.trans (hB1.mono hS0.size)) (fun hS1=>?_)
  (try simp only[Act.put,zza,zzb,zzc,zzd,zze,zzf])
  clear hK K
  refine wpAnyH_ready (rs:=[4,5]) (by kernel_rfl) (by simp) ?_
  refine AllReadyH.cons rfl (fun K hK=>?_) (AllReadyH.cons rfl (fun K hK=>?_) AllReadyH.nil)
  (try simp only[Act.put,zza,zzb,zzc,zzd,zze,zzf])
  refine Eq.mpr (if_pos (by rfl)) ?_
  go_simp
  refine(lenOf_any (fun i=>f (1+i)) (fun _=>hf _) _).mono ?_
  rintro e wq2 ⟨rfl,rfl⟩
  refine hK.out _ _ hS1 (fun hS2=>?_)
  (try simp only[Act.put,zza,zzb,zzc,zzd,zze,zzf])
  clear hK K
  refine wpAnyH_ready (rs:=[5]) (by kernel_rfl) (by simp) ?_
  refine AllReadyH.cons rfl (fun K hK=>?_) AllReadyH.nil
  (try simp only[Act.put,zza,zzb,zzc,zzd,zze,zzf])
  refine Eq.mpr (if_pos (by rfl)) ?_
  refine wp_vw _ (exec_allocH 24 rfl _ zHead) ?_
  have hbx3:=hbx1.alloc (.cells noHd 24)
  have h5_3:=Blk.fresh wq2 24 noHd
  refine hK.out _ _ (hS2.alloc hS2.size _) (fun hS3=>?_)
  (try simp only[Act.put,zza,zzb,zzc,zzd,zze,zzf])
  clear hK K
  have hl5:w.heap.size<wq2.heap.size:=hbx1.lt
  obtain⟨g5,hg5⟩: ∃g,g=wq2.heap.size:=⟨_,rfl⟩
  rw[← hg5] at h5_3 hl5 ⊢
  clear hg5
  generalize wq2.alloc (.cells noHd 24)=wx3 at*
  have hSE:=hS3
  have hbxE:=hbx3
  have h5E:=h5_3
  obtain⟨wE,hE⟩: ∃x,x=wx3:=⟨_,rfl⟩
  subst hE
  rotate_left
  (try simp only[Act.put,zza,zzb,zzc,zzd,zze,zzf])
  refine Eq.mpr (if_pos (by rfl)) ?_
  refine wp_vw _ (exec_allocH 24 rfl _ zHead) ?_
  have hbx4:=hbx1.alloc (.cells noHd 24)
  have h5_4:=Blk.fresh wq1 24 noHd
  refine hK.out _ _ (hS1.alloc hS1.size _) (fun hS4=>?_)
  (try simp only[Act.put,zza,zzb,zzc,zzd,zze,zzf])
  clear hK K
  have hl5:w.heap.size<wq1.heap.size:=hbx1.lt
  obtain⟨g5,hg5⟩: ∃g,g=wq1.heap.size:=⟨_,rfl⟩
  rw[← hg5] at h5_4 hl5 ⊢
  clear hg5
  generalize wq1.alloc (.cells noHd 24)=wx4 at*
  refine wpAnyH_ready (rs:=[4]) (by kernel_rfl) (by simp) ?_
  refine AllReadyH.cons rfl (fun K hK=>?_) AllReadyH.nil
  (try simp only[Act.put,zza,zzb,zzc,zzd,zze,zzf])
  refine Eq.mpr (if_pos (by rfl)) ?_
  go_simp
  refine(lenOf_any (fun i=>f (1+i)) (fun _=>hf _) _).mono ?_
  rintro e wq5 ⟨rfl,rfl⟩
  refine hK.out _ _ hS4 (fun hS5=>?_)
  (try simp only[Act.put,zza,zzb,zzc,zzd,zze,zzf])
  clear hK K
  have hSE:=hS5
  have hbxE:=hbx4
  have h5E:=h5_4
  obtain⟨wE,hE⟩: ∃x,x=wq5:=⟨_,rfl⟩
  subst hE
  rotate_left
  (try simp only[Act.put,zza,zzb,zzc,zzd,zze,zzf])
  refine Eq.mpr (if_pos (by rfl)) ?_
  refine wp_vw _ (exec_allocH 24 rfl _ zHead) ?_
  have hbx6:=hbx0.alloc (.cells noHd 24)
  have h5_6:=Blk.fresh w0.drew 24 noHd
  refine hK.out _ _ (hS0.alloc hS0.size _) (fun hS6=>?_)
  (try simp only[Act.put,zza,zzb,zzc,zzd,zze,zzf])
  clear hK K
  have hl5:w.heap.size<w0.drew.heap.size:=hbx0.lt
  obtain⟨g5,hg5⟩: ∃g,g=w0.drew.heap.size:=⟨_,rfl⟩
  rw[← hg5] at h5_6 hl5 ⊢
  clear hg5
  generalize w0.drew.alloc (.cells noHd 24)=wx6 at*
  refine wpAnyH_ready (rs:=[1]) (by kernel_rfl) (by simp) ?_
  refine AllReadyH.cons rfl (fun K hK=>?_) AllReadyH.nil
  (try simp only[Act.put,zza,zzb,zzc,zzd,zze,zzf])
  refine Eq.mpr (if_pos (by rfl)) ?_
  go_simp
  refine(cut_any n f hf hn hn2 _).mono ?_
  rintro e wq7 ⟨rfl,hB7⟩
  have hbx7:=hbx6.below hB7 hbx6.lt
  have h5_7:=h5_6.below hB7 h5_6.lt
  refine hK.out _ _ (hS6.trans (hB7.mono hS6.size)) (fun hS7=>?_)
  (try simp only[Act.put,zza,zzb,zzc,zzd,zze,zzf])
  clear hK K
  refine wpAnyH_ready (rs:=[4]) (by kernel_rfl) (by simp) ?_
  refine AllReadyH.cons rfl (fun K hK=>?_) AllReadyH.nil
  (try simp only[Act.put,zza,zzb,zzc,zzd,zze,zzf])
  refine Eq.mpr (if_pos (by rfl)) ?_
  go_simp
  refine(lenOf_any (fun i=>f (1+i)) (fun _=>hf _) _).mono ?_
  rintro e wq8 ⟨rfl,rfl⟩
  refine hK.out _ _ hS7 (fun hS8=>?_)
  (try simp only[Act.put,zza,zzb,zzc,zzd,zze,zzf])
  clear hK K
  have hSE:=hS8
  have hbxE:=hbx7
  have h5E:=h5_7
  obtain⟨wE,hE⟩: ∃x,x=wq8:=⟨_,rfl⟩
  subst hE
  rotate_left
  all_goals
   refine wpAnyH_ready (rs:=[6]) (by kernel_rfl) (by simp) ?_
   refine AllReadyH.cons rfl (fun K hK=>?_) AllReadyH.nil
   (try simp only[Act.put,zza,zzb,zzc,zzd,zze,zzf])
   refine Eq.mpr (if_pos (by rfl)) ?_
   refine wp_store_blk 24 _ _ rfl g5 (hdC (cutH f)) rfl rfl 24 _ h5E (sizeC _) rfl (oneC _) ?_
   (try simp only[Act.put,zza,zzb,zzc,zzd,zze,zzf])
   refine hK.out _ _ (below_setRow' hSE (Nat.le_of_lt hl5) _) (fun hSz=>?_)
   (try simp only[Act.put,zza,zzb,zzc,zzd,zze,zzf])
   clear hK K
   refine ztk (i:=7) (v:= .int .i64 (lenZ fun i=>f (1+i))) rfl (fun _ _=>exec_assign _ rfl _ rfl) hSz ?_
   (try simp only[Act.put,zza,zzb,zzc,zzd,zze,zzf])
   refine wpAnyH_done (by kernel_rfl) ?_ _
   have hp:P3 w f (wE.setRow g5 (hdC (cutH f))) g5:=⟨hSz,hbxE.otherRow _ _ (by omega),h5E.setRow _,hl5⟩
   generalize wE.setRow g5 (hdC (cutH f))=wF at hp ⊢
   exact kk wF g5 hp
 intro w3 g5 ⟨hB3,hbx3,hb3,hl5⟩
 try dsimp only
 have hg3:=Hg.out.below hB3
 have HB3:=hid hB3
 have Hbx3:=hid hbx3
 have Hb3:=hid hb3
 have Hg3:=hid hg3
 have hs3:=hB3.size
 have hsx:=hbx3.lt
 clear hB3 hbx3 hb3 hg3
 go_wp2_with fail
 refine wp_region_held_drew (S:=fun W=>Below w3.heap.size w3 W) (by kernel_rfl) (Below.refl _ _).drew (fun hS0=>?_)
 refine ztk (i:=0) (v:= .agg (hdC (cutH f))) rfl (fun W hW=>exec_ldcs 24 _ rfl g5 rfl 24 _ (Hb3.out.below hW Hb3.out.lt) _ Tryz.underlying24 (sizeC _)) hS0 ?_
 (try simp only[Act.put,zza,zzb,zzc,zzd,zze,zzf])
 refine ztk (i:=1) (v:= .int .i64 (lenZ fun i=>f (1+i))) rfl (fun _ _=>exec_move _ rfl _ rfl) hS0 ?_
 (try simp only[Act.put,zza,zzb,zzc,zzd,zze,zzf])
 refine ztk (i:=2) (v:= .string (strF n f)) rfl (fun _ _=>exec_move _ rfl _ rfl) hS0 ?_
 (try simp only[Act.put,zza,zzb,zzc,zzd,zze,zzf])
 refine ztk (i:=3) (v:= .string (strF 4 fun i=>f (12+i))) rfl (fun W _=>exec_cutS 9 _ _ _ rfl n f 12 16 rfl rfl rfl 12 16 rfl rfl (by omega) (by omega) Tryz.underlying9) hS0 ?_
 (try simp only[Act.put,zza,zzb,zzc,zzd,zze,zzf])
 refine wpAnyH_ready (rs:=[4]) (by kernel_rfl) (by simp) ?_
 refine AllReadyH.cons rfl (fun K hK=>?_) AllReadyH.nil
 (try simp only[Act.put,zza,zzb,zzc,zzd,zze,zzf])
 refine Eq.mpr (if_pos (by rfl)) ?_
 go_simp
 refine(refuse_any (cutH f) (cutH_ok hf) (lenZ fun i=>f (1+i)) (fun i=>f (12+i)) (fun _=>hf _) _ (Hg3.out.below hS0)).mono ?_
 rintro e w4 ⟨hB4,v4,rfl,hz4⟩
 have hS1:=hS0.trans (hB4.mono hS0.size)
 have Hz4:=hid hz4
 have hs4:=hS0.size
 clear hz4
 refine hK.out _ _ hS1 (fun _=>?_)
 (try simp only[Act.put,zza,zzb,zzc,zzd,zze,zzf])
 clear hK K
 refine ztk (i:=5) (v:=v4) rfl (fun _ _=>exec_assign _ rfl _ rfl) hS1 ?_
 (try simp only[Act.put,zza,zzb,zzc,zzd,zze,zzf])
 refine wpAnyH_done (by kernel_rfl) ?_ _
 have hbx4:=Hbx3.out.below hS1 Hbx3.out.lt
 have hb4:=Hb3.out.below hS1 Hb3.out.lt
 have Hbx4:=hid hbx4
 have Hb4:=hid hb4
 have HB4:=hid (HB3.out.trans (hS1.mono hs3))
 clear hbx4 hb4 hS1 hB4 hS0 Hbx3 Hb3 Hg3 HB3 hs3
 rcases Hz4.out with⟨hz,rfl⟩ | ⟨hz,g,hg,rfl,hb⟩
 ·go_wp2_with (first
   | (with_reducible refine wpl_valw rfl _ (exec_ldcs 24 _ rfl g5 rfl 24 _ Hb4.out _ Tryz.underlying24 (sizeC _)) ?_)
   | (with_reducible refine wpl_storeH rfl 24 _ _ rfl w.heap.size (hdC (cutH f)) rfl rfl 24 _ Hbx4.out (sizeC _) rfl (oneC _) ?_))
  exact ret_cs3 Tryz.results38 rfl w.heap.size rfl _ rfl _ rfl 24 _ (Hbx4.out.setRow _) _ Tryz.underlying24 (sizeC _) ⟨below_setRow' HB4.out (Nat.le_refl _) _, .inl ⟨hz,rfl⟩⟩
 have hgl:w.heap.size<g:=by omega
 have Hb:=hid hb
 clear hb
 go_wp2_with (first
  | (with_reducible refine wpl_build0 rfl 24 rfl _ built0 ?_)
  | (with_reducible refine wpl_storeH rfl 24 _ _ rfl w.heap.size noHd rfl rfl 24 _ Hbx4.out sizeN rfl oneNo ?_))
 exact ret_cs3 Tryz.results38 rfl w.heap.size rfl _ rfl _ rfl 24 _ (Hbx4.out.setRow _) _ Tryz.underlying24 sizeN ⟨below_setRow' HB4.out (Nat.le_refl _) _, .inr ⟨hz,g,by omega,rfl,Hb.out.otherRow _ _ (by omega)⟩⟩
end Go.Proofs.YtlmacfmfmjhidaaGreatDoor.Hd
