/-
 Cipher2 Cipher3
-/
import Derived.Test.YtlmacfmfmjhidaaGreatDoorCipher
namespace Go.Proofs.YtlmacfmfmjhidaaGreatDoor.Bk
open Mem Go.ChangeShapes Go.WideShapes Go.ChangeAt Go.RowKit
def sz (k:Nat):Nat:=if k=2 then 8 else 16
def tyOf (k:Nat):TypeId:=if k=2 then 174 else 150
def fits (k L:Nat):Prop:=(k=1∧Aes.IsKey L)∨(k=2∧Des.IsTKey L)∨(k=3∧1≤L∧L≤32)
def CiAt (w:World) (p:Pl) (k gc base L:Nat) (key:Nat→Nat):Prop:=
 (∀i,i<L→key i<256)∧((k=1∧Aes.IsKey L∧∃kb v,Blk w gc 125 #[.int .i64 16, .func (.func 122) #[] #[.pointer (some ⟨kb,0,none⟩)]]∧Blk w kb 22 #[v]∧Own w base 5 1 v L key)∨
 (k=2∧Des.IsTKey L∧∃kb v,Blk w gc 125 #[.int .i64 8, .func (.func 125) #[] #[.pointer (some ⟨kb,0,none⟩)]]∧Blk w kb 22 #[v]∧Own w base 5 1 v L key)∨
 (k=3∧(1≤L∧L≤32)∧∃kbk ks,Blk w gc 125 #[.int .i64 16, .func (.func 127) #[] #[.pointer (some ⟨kbk,0,none⟩), .pointer (some ⟨ks,0,none⟩)]]∧Blk w kbk 120 #[.pointer (some ⟨p.gb,0,none⟩)]∧Blk w ks 9 #[.string (strF L key)]))
theorem CiAt.keep {w w':World}{p:Pl}{k gc base L:Nat}{key:Nat→Nat} (h:CiAt w p k gc base L key) (hB:Below w.heap.size w w'):CiAt w' p k gc base L key:=by
 obtain⟨h0,⟨h1,h2,kb,v,h3,h4,h5⟩ | ⟨h1,h2,kb,v,h3,h4,h5⟩ | ⟨h1,h2,kb,v,h3,h4,h5⟩⟩:=h
 ·exact⟨h0, .inl ⟨h1,h2,kb,v,h3.below hB h3.lt,h4.below hB h4.lt,h5.below hB (Nat.le_refl _)⟩⟩
 ·exact⟨h0, .inr (.inl ⟨h1,h2,kb,v,h3.below hB h3.lt,h4.below hB h4.lt,h5.below hB (Nat.le_refl _)⟩)⟩
 exact⟨h0, .inr (.inr ⟨h1,h2,kb,v,h3.below hB h3.lt,h4.below hB h4.lt,h5.below hB h5.lt⟩)⟩
theorem CiAt.kind {w:World}{p:Pl}{k gc base L:Nat}{key:Nat→Nat} (h:CiAt w p k gc base L key):k=1∨k=2∨k=3:=by
 obtain⟨_,⟨h1,_⟩ | ⟨h1,_⟩ | ⟨h1,_⟩⟩:=h
 ·exact .inl h1
 ·exact .inr (.inl h1)
 exact .inr (.inr h1)
theorem CiAt.size {w:World}{p:Pl}{k gc base L:Nat}{key:Nat→Nat} (h:CiAt w p k gc base L key): ∃f,Blk w gc 125 #[.int .i64 (sz k:Int),f]∧∃fn a b,f= .func fn a b:=by
 obtain⟨_,⟨rfl,_,_,_,h3,_⟩ | ⟨rfl,_,_,_,h3,_⟩ | ⟨rfl,_,_,_,h3,_⟩⟩:=h
 ·exact⟨_,h3,_,_,_,rfl⟩
 ·exact⟨_,h3,_,_,_,rfl⟩
 exact⟨_,h3,_,_,_,rfl⟩
set_option maxRecDepth 100000 in
theorem size_any (w:World) (p:Pl) (k gc base L:Nat) (key:Nat→Nat) (h:CiAt w p k gc base L key):
  Calls Tryz.prog 55 #[.pointer (some ⟨gc,0,none⟩)] w fun e w'=>e= .returned (.int .i64 (sz k:Int))∧w=w':=by
 obtain⟨f,hb,-⟩:=h.size
 have hc0:w.cell? ⟨gc,0,none⟩=some (.int .i64 (sz k:Int)):=hb.cell 0
 clear h hb
 go_enter Tryz.func55,Tryz.ntmps55
 go_wp2_with fail
 go_ret
 exact⟨rfl,rfl⟩
theorem func_nil (fn:Fn) (a b:Array Value) (w:World):(binOp .eql 122 (.func fn a b) .nilFunc).run Tryz.prog w= .ok (.bool false) w:=by kernel_rfl
def turnC (k L:Nat) (key:Nat→Nat) (p:Pl) (R:List Rw) (d:Nat) (bk:Bool) (x:Nat→Nat):Option (Nat→Nat)×List Rw×Nat:=
 if k=1 then(some (if bk then Aes.dec (Aes.words L key) (Aes.rnd L) x else Aes.enc (Aes.words L key) (Aes.rnd L) x),R,d)
 else if k=2 then(some (Des.tdes L key x bk),R,d)
 else askL p.F p.n (strF L key) R d bk x
theorem aes_turn (bk:Bool) (ad:Addr) (c kb:Nat) (Ak:Option Addr) (Lk ck:Nat) (ky x:Nat→Nat) (w:World) (hL:Aes.IsKey Lk) (hk: ∀i,i<Lk→ky i<256) (hx: ∀i,i<16→x i<256) (hb:Blk w kb 22 #[.slice Ak Lk ck]) (hR:Reads w w.heap.size Ak Lk ky) (had:ad.block<w.heap.size) (hc: ∀i,i<16→w.cell? (ad.add i)=some (.int .u8 ((x i:Nat):Int))) (y:Nat→Nat) (hy:(if bk then Aes.dec (Aes.words Lk ky) (Aes.rnd Lk) x else Aes.enc (Aes.words Lk ky) (Aes.rnd Lk) x)=y):
  Calls Tryz.prog 122 #[.slice (some ad) 16 c, .bool bk, .pointer (some ⟨kb,0,none⟩)] w fun e w'=> ∃g,e= .returned (.tuple #[.slice (some ⟨g,0,none⟩) 16 16, .nilIface])∧Blk w' g 150 (row 16 (b8 y))∧w.heap.size≤g∧Below w.heap.size w w':=by
 cases bk
 ·exact aes_forth ad c kb Ak Lk ck ky x w hL hk hx hb hR had hc y hy
 exact aes_back ad c kb Ak Lk ck ky x w hL hk hx hb hR had hc y hy
end Go.Proofs.YtlmacfmfmjhidaaGreatDoor.Bk
namespace Go.Proofs.YtlmacfmfmjhidaaGreatDoor.Bk
open Mem Go.ChangeShapes Go.WideShapes Go.ChangeAt Go.RowKit
theorem waes (v:Value) (w:World) (hv: ∃A n c,v= .slice A n c):Calls Tryz.prog 103 #[v] w fun e w'=>e= .returned (.func (.func 122) #[] #[.pointer (some ⟨w.heap.size,0,none⟩)])∧w'=w.alloc (.cells #[v] 22):=by
 obtain⟨A,n,c,rfl⟩:=hv
 go_enter Tryz.func103,Tryz.ntmps103
 go_wp2_with fail
 go_ret
 exact⟨rfl,rfl⟩
theorem wtdes (v:Value) (w:World) (hv: ∃A n c,v= .slice A n c):Calls Tryz.prog 104 #[v] w fun e w'=>e= .returned (.func (.func 125) #[] #[.pointer (some ⟨w.heap.size,0,none⟩)])∧w'=w.alloc (.cells #[v] 22):=by
 obtain⟨A,n,c,rfl⟩:=hv
 go_enter Tryz.func104,Tryz.ntmps104
 go_wp2_with fail
 go_ret
 exact⟨rfl,rfl⟩
theorem bsize (z:Int) (w:World):Calls Tryz.prog 78 #[.int .i64 z] w fun e w'=>e= .returned (.int .i64 (if z=1∨z=3 then 16 else if z=2 then 8 else 0))∧w=w':=by
 by_cases h1:z=1
 ·subst h1
  go_enter Tryz.func78,Tryz.ntmps78
  go_wp2_with fail
  go_ret
  exact⟨rfl,rfl⟩
 by_cases h3:z=3
 ·subst h3
  go_enter Tryz.func78,Tryz.ntmps78
  go_wp2_with fail
  go_ret
  exact⟨rfl,rfl⟩
 by_cases h2:z=2
 ·subst h2
  go_enter Tryz.func78,Tryz.ntmps78
  go_wp2_with fail
  go_ret
  exact⟨rfl,rfl⟩
 go_enter Tryz.func78,Tryz.ntmps78
 go_wp2_with fail
 go_ret
 exact⟨rfl,rfl⟩
def fitB (z:Int) (L:Nat):Bool:=(decide (z=1) && (decide (L=16) || decide (L=24) || decide (L=32))) || (decide (z=2) && (decide (L=8) || decide (L=16) || decide (L=24))) || (decide (z=3) && (decide (1≤L) && decide (L≤32)))
theorem fitB_other {z:Int}{L:Nat} (h1:z≠1) (h2:z≠2) (h3:z≠3):fitB z L=false:=by simp[fitB,h1,h2,h3]
theorem fits_any (z:Int) (L:Nat) (w:World) (hL:L≤1000000):Calls Tryz.prog 79 #[.int .i64 z, .int .i64 (L:Int)] w fun e w'=>e= .returned (.bool (fitB z L))∧w=w':=by
 by_cases h1:z=1
 ·subst h1
  by_cases a1:L=16
  ·subst a1
   go_enter Tryz.func79,Tryz.ntmps79
   go_wp2_with fail
   go_ret
   exact⟨rfl,rfl⟩
  by_cases a2:L=24
  ·subst a2
   go_enter Tryz.func79,Tryz.ntmps79
   go_wp2_with fail
   go_ret
   exact⟨rfl,rfl⟩
  have b1:(L:Int)≠16:=by omega
  have b2:(L:Int)≠24:=by omega
  by_cases a3:L=32
  ·subst a3
   go_enter Tryz.func79,Tryz.ntmps79
   go_wp2_with fail
   go_ret
   exact⟨rfl,rfl⟩
  have b3:(L:Int)≠32:=by omega
  go_enter Tryz.func79,Tryz.ntmps79
  go_wp2_with fail
  go_ret
  exact⟨by simp[fitB,a1,a2,a3,b3];omega,rfl⟩
 by_cases h2:z=2
 ·subst h2
  by_cases a1:L=8
  ·subst a1
   go_enter Tryz.func79,Tryz.ntmps79
   go_wp2_with fail
   go_ret
   exact⟨rfl,rfl⟩
  by_cases a2:L=16
  ·subst a2
   go_enter Tryz.func79,Tryz.ntmps79
   go_wp2_with fail
   go_ret
   exact⟨rfl,rfl⟩
  have b1:(L:Int)+8≠16:=by omega
  have b2:(L:Int)+8≠24:=by omega
  by_cases a3:L=24
  ·subst a3
   go_enter Tryz.func79,Tryz.ntmps79
   go_wp2_with fail
   go_ret
   exact⟨rfl,rfl⟩
  have b3:(L:Int)+8≠32:=by omega
  go_enter Tryz.func79,Tryz.ntmps79
  go_wp2_with fail
  go_ret
  exact⟨by simp[fitB,a1,a2,a3,b3];omega,rfl⟩
 by_cases h3:z=3
 ·subst h3
  by_cases a1:1≤L
  ·have b1:1≤(L:Int):=by omega
   go_enter Tryz.func79,Tryz.ntmps79
   go_wp2_with fail
   go_ret
   refine⟨?_,rfl⟩
   have e:decide ((L:Int)≤32)=decide (L≤32):=by simp;omega
   simp[fitB,a1,e]
  have b1: ¬1≤(L:Int):=by omega
  go_enter Tryz.func79,Tryz.ntmps79
  go_wp2_with fail
  go_ret
  refine⟨?_,rfl⟩
  simp[fitB,a1]
 go_enter Tryz.func79,Tryz.ntmps79
 go_wp2_with fail
 go_ret
 exact⟨by rw[fitB_other h1 h2 h3];rfl,rfl⟩
theorem fitB_fits {k L:Nat}:fitB (k:Int) L=true↔fits k L:=by
 unfold fitB fits Aes.IsKey Des.IsTKey
 simp
 omega
theorem new_len (z:Int) (hz:z=1∨z=2∨z=3) (A:Option Addr) (L c:Nat) (g:Option Addr) (hg:z=3→g≠none) (w:World) (hL:L≤1000000) (hf:fitB z L=false):
  Calls Tryz.prog 50 #[.int .i64 z, .slice A L c, .pointer g] w fun e w'=>e= .returned (.tuple #[.pointer none, .iface 56 (.int .i64 2)])∧w=w':=by
 rcases hz with rfl | rfl | rfl
 ·go_enter Tryz.func50,Tryz.ntmps50
  go_wp2_with (first
   | (go_at_call 78;refine(bsize 1 _).mono ?_;rintro e w1 ⟨rfl,rfl⟩;rw[if_pos (by omega)])
   | (go_at_call 79;refine(fits_any 1 L _ hL).mono ?_;rintro e w1 ⟨rfl,rfl⟩;rw[hf]))
  go_ret2
  exact⟨rfl,rfl⟩
 ·go_enter Tryz.func50,Tryz.ntmps50
  go_wp2_with (first
   | (go_at_call 78;refine(bsize 2 _).mono ?_;rintro e w1 ⟨rfl,rfl⟩;rw[if_neg (by omega),if_pos rfl])
   | (go_at_call 79;refine(fits_any 2 L _ hL).mono ?_;rintro e w1 ⟨rfl,rfl⟩;rw[hf]))
  go_ret2
  exact⟨rfl,rfl⟩
 rcases g with _ | ad
 ·exact absurd rfl (hg rfl)
 go_enter Tryz.func50,Tryz.ntmps50
 go_wp2_with (first
  | (go_at_call 78;refine(bsize 3 _).mono ?_;rintro e w1 ⟨rfl,rfl⟩;rw[if_pos (by omega)])
  | (go_at_call 79;refine(fits_any 3 L _ hL).mono ?_;rintro e w1 ⟨rfl,rfl⟩;rw[hf]))
 go_ret2
 exact⟨rfl,rfl⟩
theorem tof1 (A:Option Addr) (L c:Nat) (g:Option Addr) (w:World):Calls Tryz.prog 80 #[.int .i64 1, .slice A L c, .pointer g] w fun e w'=>e= .returned (.func (.func 122) #[] #[.pointer (some ⟨w.heap.size,0,none⟩)])∧w'=w.alloc (.cells #[.slice A L c] 22):=by
 go_enter Tryz.func80,Tryz.ntmps80
 go_wp2_with (go_at_call 103;refine(waes _ _ ⟨_,_,_,rfl⟩).mono ?_;rintro e w1 ⟨rfl,rfl⟩)
 go_ret
 exact⟨rfl,rfl⟩
theorem tof2 (A:Option Addr) (L c:Nat) (g:Option Addr) (w:World):Calls Tryz.prog 80 #[.int .i64 2, .slice A L c, .pointer g] w fun e w'=>e= .returned (.func (.func 125) #[] #[.pointer (some ⟨w.heap.size,0,none⟩)])∧w'=w.alloc (.cells #[.slice A L c] 22):=by
 go_enter Tryz.func80,Tryz.ntmps80
 go_wp2_with (go_at_call 104;refine(wtdes _ _ ⟨_,_,_,rfl⟩).mono ?_;rintro e w1 ⟨rfl,rfl⟩)
 go_ret
 exact⟨rfl,rfl⟩
set_option maxRecDepth 100000 in
theorem new1 (A:Option Addr) (L c:Nat) (key:Nat→Nat) (p:Pl) (g:Option Addr) (w:World) (hL:L≤32) (hA:A=none→L=0∧c=0) (hk: ∀i,i<L→key i<256) (hR:Reads w w.heap.size A L key) (hf:fits 1 L):
  Calls Tryz.prog 50 #[.int .i64 1, .slice A L c, .pointer g] w fun e w'=> ∃gc,e= .returned (.tuple #[.pointer (some ⟨gc,0,none⟩), .nilIface])∧CiAt w' p 1 gc w.heap.size L key∧w.heap.size≤gc∧Below w.heap.size w w':=by
 have hfb:fitB 1 L=true:=fitB_fits.2 hf
 have HR:=hid hR
 have HA:=hid hA
 have Hk:=hid hk
 have Hf:=hid hf
 clear hR hA hk hf
 go_enter Tryz.func50,Tryz.ntmps50
 go_wp2_with (first
  | (go_at_call 78;refine(bsize 1 _).mono ?_;rintro e w1 ⟨rfl,rfl⟩;rw[if_pos (by omega)])
  | (go_at_call 79;refine(fits_any 1 L _ (by omega)).mono ?_;rintro e w1 ⟨rfl,rfl⟩;rw[hfb])
  | (go_at_call 74;refine(clone_any A L c key _ (by omega) HA.out HR.out).mono ?_;rintro e w1 ⟨v,rfl,ho,hB⟩;obtain⟨A',c',rfl,hc',-⟩:=ho.slice';have Ho:=hid ho;have HB:=hid hB;clear ho hB)
  | (go_at_call 80;refine(tof1 _ _ _ _ _).mono ?_;rintro e w2 ⟨rfl,rfl⟩))
 go_ret2
 have hB2:Below w.heap.size w ((w1.alloc (.cells #[.slice A' L c'] 22)).alloc (.cells #[.int .i64 16, .func (.func 122) #[] #[.pointer (some ⟨w1.heap.size,0,none⟩)]] 125)):=(HB.out.alloc HB.out.size _).alloc (by simp;have:=HB.out.size;omega) _
 have hb1:=(Blk.fresh w1 22 #[.slice A' L c']).alloc (.cells #[.int .i64 16, .func (.func 122) #[] #[.pointer (some ⟨w1.heap.size,0,none⟩)]] 125)
 have hb2:=Blk.fresh (w1.alloc (.cells #[.slice A' L c'] 22)) 125 #[.int .i64 16, .func (.func 122) #[] #[.pointer (some ⟨w1.heap.size,0,none⟩)]]
 have hsz:(w1.alloc (.cells #[.slice A' L c'] 22)).heap.size=w1.heap.size+1:=by simp
 rw[hsz] at hb2
 have hkey:Aes.IsKey L:=by have:=Hf.out;unfold fits at this;simpa using this
 exact⟨_,rfl,⟨Hk.out, .inl ⟨rfl,hkey,_,_,hb2,hb1,(Ho.out.alloc _).alloc _⟩⟩,by have:=HB.out.size;omega,hB2⟩
set_option maxRecDepth 100000 in
theorem new2 (A:Option Addr) (L c:Nat) (key:Nat→Nat) (p:Pl) (g:Option Addr) (w:World) (hL:L≤32) (hA:A=none→L=0∧c=0) (hk: ∀i,i<L→key i<256) (hR:Reads w w.heap.size A L key) (hf:fits 2 L):
  Calls Tryz.prog 50 #[.int .i64 2, .slice A L c, .pointer g] w fun e w'=> ∃gc,e= .returned (.tuple #[.pointer (some ⟨gc,0,none⟩), .nilIface])∧CiAt w' p 2 gc w.heap.size L key∧w.heap.size≤gc∧Below w.heap.size w w':=by
 have hfb:fitB 2 L=true:=fitB_fits.2 hf
 have HR:=hid hR
 have HA:=hid hA
 have Hk:=hid hk
 have Hf:=hid hf
 clear hR hA hk hf
 go_enter Tryz.func50,Tryz.ntmps50
 go_wp2_with (first
  | (go_at_call 78;refine(bsize 2 _).mono ?_;rintro e w1 ⟨rfl,rfl⟩;rw[if_neg (by omega),if_pos rfl])
  | (go_at_call 79;refine(fits_any 2 L _ (by omega)).mono ?_;rintro e w1 ⟨rfl,rfl⟩;rw[hfb])
  | (go_at_call 74;refine(clone_any A L c key _ (by omega) HA.out HR.out).mono ?_;rintro e w1 ⟨v,rfl,ho,hB⟩;obtain⟨A',c',rfl,hc',-⟩:=ho.slice';have Ho:=hid ho;have HB:=hid hB;clear ho hB)
  | (go_at_call 80;refine(tof2 _ _ _ _ _).mono ?_;rintro e w2 ⟨rfl,rfl⟩))
 go_ret2
 have hB2:Below w.heap.size w ((w1.alloc (.cells #[.slice A' L c'] 22)).alloc (.cells #[.int .i64 8, .func (.func 125) #[] #[.pointer (some ⟨w1.heap.size,0,none⟩)]] 125)):=(HB.out.alloc HB.out.size _).alloc (by simp;have:=HB.out.size;omega) _
 have hb1:=(Blk.fresh w1 22 #[.slice A' L c']).alloc (.cells #[.int .i64 8, .func (.func 125) #[] #[.pointer (some ⟨w1.heap.size,0,none⟩)]] 125)
 have hb2:=Blk.fresh (w1.alloc (.cells #[.slice A' L c'] 22)) 125 #[.int .i64 8, .func (.func 125) #[] #[.pointer (some ⟨w1.heap.size,0,none⟩)]]
 have hsz:(w1.alloc (.cells #[.slice A' L c'] 22)).heap.size=w1.heap.size+1:=by simp
 rw[hsz] at hb2
 have hkey:Des.IsTKey L:=by have:=Hf.out;unfold fits at this;simpa using this
 exact⟨_,rfl,⟨Hk.out, .inr (.inl ⟨rfl,hkey,_,_,hb2,hb1,(Ho.out.alloc _).alloc _⟩)⟩,by have:=HB.out.size;omega,hB2⟩
end Go.Proofs.YtlmacfmfmjhidaaGreatDoor.Bk
