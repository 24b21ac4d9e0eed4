/-
 DigMath Dig1 Dig2 Dig3
-/
import Derived.Test.YtlmacfmfmjhidaaGreatDoorStrF
import Derived.Laws.Externs
import Derived.Test.YtlmacfmfmjhidaaGreatDoorBits
import Derived.Test.YtlmacfmfmjhidaaGreatDoorTapeX
namespace Go.Proofs.YtlmacfmfmjhidaaGreatDoor.Dg
open Mem
def dv (c:Nat):Nat:=if 48≤c∧c≤57 then c-48 else if 65≤c∧c≤70 then c-55 else 99
def wv (c:Nat):Int:=if dv c=99 then-1 else(dv c:Int)
def dg (n:Nat):Nat:=if n<10 then 48+n else 55+n
theorem dv_cases (c:Nat):dv c<16∨dv c=99:=by
 unfold dv
 split
 ·omega
 split<;>omega
theorem dv_dg {n:Nat} (h:n<16):dv (dg n)=n:=by
 unfold dv dg
 by_cases h1:n<10
 ·rw[if_pos h1,if_pos (by omega)];omega
 rw[if_neg h1,if_neg (by omega),if_pos (by omega)];omega
theorem dg_lt {n:Nat} (h:n<16):dg n<256:=by unfold dg;split<;>omega
theorem wv_lt {c:Nat} (h:dv c<16):wv c=(dv c:Int):=by unfold wv;rw[if_neg (by omega)]
theorem wv_no {c:Nat} (h:16≤dv c):wv c= -1:=by unfold wv;rw[if_pos];rcases dv_cases c with h' | h'<;>omega
def AllD (base n:Nat) (f:Nat→Nat):Prop:= ∀i,i<n→dv (f i)<base
def BadD (base n:Nat) (f:Nat→Nat) (i:Nat):Prop:=i<n∧(∀j,j<i→dv (f j)<base)∧base≤dv (f i)
theorem allD_or (base:Nat) (f:Nat→Nat) (n:Nat):AllD base n f∨∃i,BadD base n f i:=by
 induction n with
 | zero=>exact .inl fun i hi=>by omega
 | succ n ih=>
  rcases ih with h | ⟨i,h1,h2,h3⟩
  ·by_cases hn:dv (f n)<base
   ·exact .inl fun i hi=>by
     rcases Nat.lt_or_ge i n with h' | h'
     ·exact h i h'
     have:i=n:=by omega
     subst this;exact hn
   exact .inr ⟨n,by omega,h,by omega⟩
  exact .inr ⟨i,by omega,h2,h3⟩
def hexF (f:Nat→Nat) (i:Nat):Nat:=dg (if i%2=0 then f (i/2)/16 else f (i/2)%16)
def unhF (f:Nat→Nat) (i:Nat):Nat:=16*dv (f (2*i))+dv (f (2*i+1))
theorem unhF_lt {n:Nat}{f:Nat→Nat} (h:AllD 16 n f){i:Nat} (hi:2*i+1<n):unhF f i<256:=by
 have h1:=h (2*i) (by omega)
 have h2:=h (2*i+1) hi
 unfold unhF
 omega
theorem hex_all (n:Nat) (f:Nat→Nat) (hf: ∀i,i<n→f i<256):AllD 16 (2*n) (hexF f):=by
 intro i hi
 have h:=hf (i/2) (by omega)
 unfold hexF
 split
 ·rw[dv_dg (by omega)];omega
 rw[dv_dg (by omega)];omega
theorem unh_hex (f:Nat→Nat) (i:Nat) (hf:f i<256):unhF (hexF f) i=f i:=by
 unfold unhF hexF
 rw[if_pos (by omega),if_neg (by omega),show 2*i/2=i by omega,show(2*i+1)/2=i by omega,dv_dg (by omega),dv_dg (by omega)]
 omega
def cd (L:Nat) (f:Nat→Nat) (i:Nat):Nat:=if(L-i)%2=1 then(if 4<dv (f i) then 2*dv (f i)-9 else 2*dv (f i)) else dv (f i)
def sumD (c:Nat→Nat):Nat→Nat
 | 0=>0
 | k+1=>sumD c k+c k
end Go.Proofs.YtlmacfmfmjhidaaGreatDoor.Dg
namespace Go.Proofs.YtlmacfmfmjhidaaGreatDoor.Dg
open Mem Go.ChangeShapes Go.WideShapes Go.ChangeAt Go.RowKit
def digs:ByteArray:=⟨#[48,49,50,51,52,53,54,55,56,57,65,66,67,68,69,70]⟩
theorem digs_at (n:Nat) (h:n<16):byteAt digs n=some (dg n):=by
 have: ∀m:Fin 16,byteAt digs m.1=some (dg m.1):=by decide+kernel
 exact this ⟨n,h⟩
theorem idx_all: ∀c:Fin 256,firstIdx digs c.1.toUInt8=wv c.1:=by decide+kernel
theorem idx_of (c:Nat) (h:c<256):firstIdx digs ((c:Int).toNat.toUInt8)=wv c:=by
 rw[Int.toNat_natCast]
 exact idx_all ⟨c,h⟩
set_option maxRecDepth 100000 in
theorem worth_any (c:Nat) (h:c<256) (w:World):Calls Tryz.prog 100 #[.int .u8 (c:Int)] w fun e w'=>e= .returned (.int .i64 (wv c))∧w=w':=by
 have hx:= @run_callFunc_extern Tryz.prog 141 _ Extern.BytealgIndexByte.indexByte Tryz.func141 (by kernel_rfl) (by kernel_rfl) (by kernel_rfl) (by kernel_rfl)
 have hr:(Extern.BytealgIndexByte.indexByte #[.string digs, .int .u8 (c:Int)]).run Tryz.prog w= .ok (.int .i64 (wv c)) w:=by
  rw[run_indexByte_string,idx_of c h]
 unfold digs at hr
 go_enter Tryz.func100,Tryz.ntmps100
 go_wp2
 go_ret
 exact⟨rfl,rfl⟩
theorem worth_still (c:Nat) (h:c<256) (w:World):Calls Tryz.prog 100 #[.int .u8 (c:Int)] w fun e w'=>e= .returned (.int .i64 (wv c))∧w'=w:=(worth_any c h w).mono fun _ _ ⟨h1,h2⟩=>⟨h1,h2.symm⟩
theorem worth_dig (c:Nat) (hc:dv c<16) (h:c<256) (w:World):Calls Tryz.prog 100 #[.int .u8 (c:Int)] w fun e w'=>e= .returned (.int .i64 (dv c:Int))∧w'=w:=by
 rw[← wv_lt hc]
 exact worth_still c h w
set_option maxRecDepth 100000 in
theorem value_any (c:Nat) (h:c<256) (w:World):Calls Tryz.prog 75 #[.int .u8 (c:Int)] w fun e w'=>e= .returned (.int .i64 (dv c:Int))∧w'=w:=by
 by_cases h1:48≤c
 ·by_cases h2:c≤57
  ·have h1I:(48:Int)≤(c:Int):=by omega
   have h2I:(c:Int)≤57:=by omega
   go_enter Tryz.func75,Tryz.ntmps75
   go_wp2
   go_ret
   refine⟨ret_int ?_,rfl⟩
   unfold dv
   rw[if_pos ⟨h1,h2⟩]
   omega
  have h1I:(48:Int)≤(c:Int):=by omega
  have h2I: ¬(c:Int)≤57:=by omega
  by_cases h3:65≤c∧c≤70
  ·have h3I:(65:Int)≤(c:Int):=by omega
   have h4I:(c:Int)≤70:=by omega
   go_enter Tryz.func75,Tryz.ntmps75
   go_wp2
   go_ret
   refine⟨ret_int ?_,rfl⟩
   unfold dv
   rw[if_neg (by omega),if_pos h3]
   omega
  have e:dv c=99:=by unfold dv;rw[if_neg (by omega),if_neg h3]
  by_cases h4:65≤c
  ·have h3I:(65:Int)≤(c:Int):=by omega
   have h4I: ¬(c:Int)≤70:=by omega
   go_enter Tryz.func75,Tryz.ntmps75
   go_wp2
   go_ret
   exact⟨ret_int (by omega),rfl⟩
  have h3I: ¬(65:Int)≤(c:Int):=by omega
  go_enter Tryz.func75,Tryz.ntmps75
  go_wp2
  go_ret
  exact⟨ret_int (by omega),rfl⟩
 have h1I: ¬(48:Int)≤(c:Int):=by omega
 have h3I: ¬(65:Int)≤(c:Int):=by omega
 have e:dv c=99:=by unfold dv;rw[if_neg (by omega),if_neg (by omega)]
 go_enter Tryz.func75,Tryz.ntmps75
 go_wp2
 go_ret
 exact⟨ret_int (by omega),rfl⟩
theorem one_str (w:World) (y:Int) (x:Nat) (h:y=(x:Int)):(convert 22 9 (.slice (some ⟨w.heap.size,0,none⟩) 1 1)).run Tryz.prog (w.alloc (.cells #[.int .u8 y] 5))= .ok (.string (strF 1 fun _=>x)) (w.alloc (.cells #[.int .u8 y] 5)):=by
 subst h
 refine conv_own (base:=0) (n:=1) (f:=fun _=>x) ?_
 exact⟨rfl, .inr ⟨_,_,_,rfl,Nat.zero_le _,Blk.fresh _ _ _,Nat.le_refl _,by unfold maxLen;omega,rfl,rfl⟩⟩
set_option maxRecDepth 100000 in
theorem digit_any (n:Nat) (h:n<16) (w:World):Calls Tryz.prog 67 #[.int .i64 (n:Int)] w fun e w'=>e= .returned (.string (strF 1 fun _=>dg n))∧Below w.heap.size w w':=by
 by_cases h1:n<10
 ·have h1I:(n:Int)<10:=by omega
  have e:dg n=48+n:=by unfold dg;rw[if_pos h1]
  have hcv:=one_str w (48+(n:Int)) (dg n) (by omega)
  clear e
  go_enter Tryz.func67,Tryz.ntmps67
  go_wp2
  go_ret
  exact⟨rfl,(Below.refl _ _).alloc (Nat.le_refl _) _⟩
 have h1I: ¬(n:Int)<10:=by omega
 have e:dg n=55+n:=by unfold dg;rw[if_neg h1]
 have hcv:=one_str w (55+(n:Int)) (dg n) (by omega)
 clear e
 go_enter Tryz.func67,Tryz.ntmps67
 go_wp2
 go_ret
 exact⟨rfl,(Below.refl _ _).alloc (Nat.le_refl _) _⟩
set_option maxRecDepth 100000 in
theorem rej_ok (n:Nat) (f:Nat→Nat) (base:Nat) (z:Int) (w:World) (hb:base=10∨base=16) (hf: ∀i,f i<256) (hn:n≤1000000) (h:AllD base n f):
  Calls Tryz.prog 99 #[.string (strF n f), .int .i64 (base:Int), .int .i64 z] w fun e w'=>e= .returned .nilIface∧w'=w:=by
 have hsz:=strF_size n f
 go_enter Tryz.func99,Tryz.ntmps99
 go_wp2
 go_loopw [7,8,11] (fun _ _ i wr=> ∃k:Nat,k≤n∧i= .int .i64 (k:Int)∧wr=w) (fun _ _ i _=>n-(intOf i).toNat)
 case atStart=>exact⟨0,by omega,rfl,rfl⟩
 case round=>
  obtain⟨k,hk,rfl,rfl⟩:=hrel
  by_cases hlt:k<n
  ·have hd:=h k hlt
   have hw:=wv_lt (c:=f k) (by omega)
   have HW:=hid (worth_dig (f k) (by omega) (hf k) wr)
   have h1I: ¬(dv (f k):Int)<0:=by omega
   have h2I: ¬(dv (f k):Int)≥(base:Int):=by omega
   go_wp2_with (first
    | (with_reducible refine wpl_str rfl 9 _ _ rfl (strF n f) rfl .i64 _ rfl k rfl Tryz.underlying9 (f k) (byteAt_strF hlt (hf k)) ?_)
    | (go_at_call 100;refine HW.out.mono ?_;rintro e w1 ⟨rfl,rfl⟩))
   go_round
   case rel=>exact⟨k+1,by omega,val_int (by omega),by first | rfl | trivial⟩
   case measure=>simp[intOf];omega
  go_wp2
  go_ret
  exact⟨rfl,rfl⟩
theorem rej_bad (n:Nat) (f:Nat→Nat) (base:Nat) (z i:Nat) (w:World) (hb:base=10∨base=16) (hf: ∀i,f i<256) (hn:n≤1000000) (hz:z≤16) (h:BadD base n f i):
  Calls Tryz.prog 99 #[.string (strF n f), .int .i64 (base:Int), .int .i64 (z:Int)] w fun e w'=>e= .returned (.iface 65 (.pointer (some ⟨w.heap.size,0,none⟩)))∧Blk w' w.heap.size 68 #[.int .i64 ((z+i:Nat):Int), .iface 56 (.int .i64 16)]∧Below w.heap.size w w':=by
 have hsz:=strF_size n f
 obtain⟨hi,hbe,hd⟩:=h
 go_enter Tryz.func99,Tryz.ntmps99
 go_wp2
 go_loopw [7,8,11] (fun _ _ y wr=> ∃k:Nat,k≤i∧y= .int .i64 (k:Int)∧wr=w) (fun _ _ y _=>n-(intOf y).toNat)
 case atStart=>exact⟨0,by omega,rfl,rfl⟩
 case round=>
  obtain⟨k,hk,rfl,rfl⟩:=hrel
  have hlt:k<n:=by omega
  by_cases hki:k<i
  ·have hd:=hbe k hki
   have HW:=hid (worth_dig (f k) (by omega) (hf k) wr)
   have h1I: ¬(dv (f k):Int)<0:=by omega
   have h2I: ¬(dv (f k):Int)≥(base:Int):=by omega
   go_wp2_with (first
    | (with_reducible refine wpl_str rfl 9 _ _ rfl (strF n f) rfl .i64 _ rfl k rfl Tryz.underlying9 (f k) (byteAt_strF hlt (hf k)) ?_)
    | (go_at_call 100;refine HW.out.mono ?_;rintro e w1 ⟨rfl,rfl⟩))
   go_round
   case rel=>exact⟨k+1,by omega,val_int (by omega),by first | rfl | trivial⟩
   case measure=>simp[intOf];omega
  obtain rfl:k=i:=by omega
  have HW:=hid (worth_still (f k) (hf k) wr)
  have hge:(wv (f k))<0∨(0≤wv (f k)∧(base:Int)≤wv (f k)):=by
   rcases dv_cases (f k) with h | h
   ·rw[wv_lt h];right;omega
   rw[wv_no (by omega)];left;decide
  rcases hge with h1I | ⟨h1I,h2I⟩
  ·go_wp2_with (first
    | (with_reducible refine wpl_str rfl 9 _ _ rfl (strF n f) rfl .i64 _ rfl k rfl Tryz.underlying9 (f k) (byteAt_strF hlt (hf k)) ?_)
    | (go_at_call 100;refine HW.out.mono ?_;rintro e w1 ⟨rfl,rfl⟩))
   go_ret
   exact⟨rfl,Blk.fresh _ _ _,(Below.refl _ _).alloc (Nat.le_refl _) _⟩
  have h3I: ¬(wv (f k))<0:=by omega
  go_wp2_with (first
   | (with_reducible refine wpl_str rfl 9 _ _ rfl (strF n f) rfl .i64 _ rfl k rfl Tryz.underlying9 (f k) (byteAt_strF hlt (hf k)) ?_)
   | (go_at_call 100;refine HW.out.mono ?_;rintro e w1 ⟨rfl,rfl⟩))
  go_ret
  exact⟨rfl,Blk.fresh _ _ _,(Below.refl _ _).alloc (Nat.le_refl _) _⟩
theorem first_ok (n:Nat) (f:Nat→Nat) (base:Nat) (w:World) (hf: ∀i,f i<256) (hn:n≤1000000) (h:AllD base n f):
  Calls Tryz.prog 43 #[.string (strF n f), .int .i64 (base:Int)] w fun e w'=>e= .returned (.int .i64 (-1))∧w'=w:=by
 have hsz:=strF_size n f
 go_enter Tryz.func43,Tryz.ntmps43
 go_wp2
 go_loopw [5] (fun y wr=> ∃k:Nat,k≤n∧y= .int .i64 (k:Int)∧wr=w) (fun y _=>n-(intOf y).toNat)
 case atStart=>exact⟨0,by omega,rfl,rfl⟩
 case round=>
  obtain⟨k,hk,rfl,rfl⟩:=hrel
  by_cases hlt:k<n
  ·have hd:=h k hlt
   have HW:=hid (value_any (f k) (hf k) wr)
   have h2I: ¬(dv (f k):Int)≥(base:Int):=by omega
   go_wp2_with (first
    | (with_reducible refine wpl_str rfl 9 _ _ rfl (strF n f) rfl .i64 _ rfl k rfl Tryz.underlying9 (f k) (byteAt_strF hlt (hf k)) ?_)
    | (go_at_call 75;refine HW.out.mono ?_;rintro e w1 ⟨rfl,rfl⟩))
   go_round
   case rel=>exact⟨k+1,by omega,val_int (by omega),by first | rfl | trivial⟩
   case measure=>simp[intOf];omega
  go_wp2
  go_ret
  exact⟨rfl,rfl⟩
theorem first_bad (n:Nat) (f:Nat→Nat) (base:Nat) (i:Nat) (w:World) (hf: ∀i,f i<256) (hn:n≤1000000) (h:BadD base n f i):
  Calls Tryz.prog 43 #[.string (strF n f), .int .i64 (base:Int)] w fun e w'=>e= .returned (.int .i64 (i:Int))∧w'=w:=by
 have hsz:=strF_size n f
 obtain⟨hi,hbe,hd⟩:=h
 go_enter Tryz.func43,Tryz.ntmps43
 go_wp2
 go_loopw [5] (fun y wr=> ∃k:Nat,k≤i∧y= .int .i64 (k:Int)∧wr=w) (fun y _=>n-(intOf y).toNat)
 case atStart=>exact⟨0,by omega,rfl,rfl⟩
 case round=>
  obtain⟨k,hk,rfl,rfl⟩:=hrel
  have hlt:k<n:=by omega
  have HW:=hid (value_any (f k) (hf k) wr)
  by_cases hki:k<i
  ·have hd:=hbe k hki
   have h2I: ¬(dv (f k):Int)≥(base:Int):=by omega
   go_wp2_with (first
    | (with_reducible refine wpl_str rfl 9 _ _ rfl (strF n f) rfl .i64 _ rfl k rfl Tryz.underlying9 (f k) (byteAt_strF hlt (hf k)) ?_)
    | (go_at_call 75;refine HW.out.mono ?_;rintro e w1 ⟨rfl,rfl⟩))
   go_round
   case rel=>exact⟨k+1,by omega,val_int (by omega),by first | rfl | trivial⟩
   case measure=>simp[intOf];omega
  obtain rfl:k=i:=by omega
  have h2I:(dv (f k):Int)≥(base:Int):=by omega
  go_wp2_with (first
   | (with_reducible refine wpl_str rfl 9 _ _ rfl (strF n f) rfl .i64 _ rfl k rfl Tryz.underlying9 (f k) (byteAt_strF hlt (hf k)) ?_)
   | (go_at_call 75;refine HW.out.mono ?_;rintro e w1 ⟨rfl,rfl⟩))
  go_ret
  exact⟨rfl,rfl⟩
end Go.Proofs.YtlmacfmfmjhidaaGreatDoor.Dg
namespace Go.Proofs.YtlmacfmfmjhidaaGreatDoor.Dg
open Mem Go.ChangeShapes Go.WideShapes Go.ChangeAt Go.RowKit
theorem info8:(Tryz.prog.info? 5).map (fun i=>(i.zero,i.size,i.bytes))=some (some (.int .u8 0),1,1):=by kernel_rfl
theorem i8q:(Tryz.prog.info? 5).map (·.size)=some 1:=by kernel_rfl
theorem make_own (w:World) (z:Nat) (hz:z≤1000000): ∃w',(Instr.makeSlice 22 (.int .i64 0) (.int .i64 (z:Int))).run Tryz.prog w= .ok (.slice (some ⟨w.heap.size,0,none⟩) 0 z) w'∧(∀f,Own w' w.heap.size 5 1 (.slice (some ⟨w.heap.size,0,none⟩) 0 z) 0 f)∧Below w.heap.size w w':=by
 obtain⟨i,hi,hz0,hz1,hz2⟩:=info_parts info8
 obtain⟨w',h1,h2,h3⟩:=run_make_own (P:=Tryz.prog) w w.heap.size 22 5 i _ 1 Tryz.underlying22 hi hz0 hz1 .i64 .i64 z (by rw[hz2];omega) (by unfold maxLen;omega) (Nat.le_refl _)
 exact⟨w',h1,fun f=>by simpa [Own] using h2,(Below.refl _ w).grown h3 (Nat.le_refl _) (fun k hk=>by cases hk)⟩
theorem and15 (x:Nat) (h:x<256):bits .and .u8 (x:Int) 15=((x%16:Nat):Int):=by
 have e:=u8_and_nat x 15 h (by omega)
 have e2:x &&& 15=x%16:=Nat.and_two_pow_sub_one_eq_mod x 4
 rw[e2] at e
 exact e
theorem bs2 (x y:Int) (w:World):(Instr.buildSlice 22 2 #[(0, .int .u8 x),(1, .int .u8 y)]).run Tryz.prog w= .ok (.slice (some ⟨w.heap.size,0,none⟩) 2 2) (w.alloc (.cells #[.int .u8 x, .int .u8 y] 5)):=by kernel_rfl
section
variable {P:Program}{o:Oper}{a:Act}{w:World}
theorem wp_bs2 {K:Act→World→Prop}{Q:Exit→Act→World→Prop} (t:TypeId) (p q:Operand) (ho:o.op= .buildSlice t 2 #[(0,p),(1,q)]) (u v:Value) (hp:a.eval p=u) (hq:a.eval q=v) (cs:Array Value) (e:TypeId)
  (hr:(Instr.buildSlice t 2 #[(0,u),(1,v)]).run P w= .ok (.slice (some ⟨w.heap.size,0,none⟩) 2 2) (w.alloc (.cells cs e)))
  (h:K (a.put o.dst (.slice (some ⟨w.heap.size,0,none⟩) 2 2)) (w.alloc (.cells cs e))):o.wp P a w K Q:=by
 unfold Oper.wp execOp
 simp only[ho,List.map_toArray,List.map_cons,List.map_nil,hp,hq,hr,Sem.run_bind,Sem.run_pure,Result.andThen_ok]
 exact h
theorem exec_shr4 (t:TypeId) (x y:Operand) (rt:TypeId) (ho:o.op= .binOp .shr t x y rt) (n:Nat) (_hn:n<256) (hx:a.eval x= .int .u8 (n:Int)) (hy:a.eval y= .int .u64 4):(execOp a.eval o).run P w= .ok (.value (.int .u8 ((n/16:Nat):Int))) w:=by
 have e:Op.shift .shr .u8 (n:Int) .u64 4=pure (.int .u8 ((n:Int)/2^(4:Int).toNat)):=shift_shr .u8 .u64 (n:Int) 4 (by omega) (by decide)
 have e2:(n:Int)/2^(4:Int).toNat=((n/16:Nat):Int):=by
  show(n:Int)/16=_
  omega
 unfold execOp
 simp only[ho,hx,hy,Sem.run_bind,binOp_shr,e,e2]
 simp[eqGuard]
theorem exec_shl4 (t:TypeId) (x y:Operand) (rt:TypeId) (ho:o.op= .binOp .shl t x y rt) (n:Nat) (hn:n<256) (hx:a.eval x= .int .i64 (n:Int)) (hy:a.eval y= .int .u64 4):(execOp a.eval o).run P w= .ok (.value (.int .i64 ((16*n:Nat):Int))) w:=by
 have e:Op.shift .shl .i64 (n:Int) .u64 4=pure (.int .i64 (IntKind.i64.wrap ((n:Int)*2^(4:Int).toNat))):=shift_shl .i64 .u64 (n:Int) 4 (by omega) (by decide)
 have e2:IntKind.i64.wrap ((n:Int)*2^(4:Int).toNat)=((16*n:Nat):Int):=wrap_i64 _ _ (by show(n:Int)*16=_;omega) (by omega) (by omega)
 unfold execOp
 simp only[ho,hx,hy,Sem.run_bind,binOp_shl,e,e2]
 simp[eqGuard]
theorem exec_or4 (t:TypeId) (x y:Operand) (rt:TypeId) (ho:o.op= .binOp .or t x y rt) (n m:Nat) (hn:n<256) (hm:m<16) (hx:a.eval x= .int .i64 ((16*n:Nat):Int)) (hy:a.eval y= .int .i64 (m:Int)):(execOp a.eval o).run P w= .ok (.value (.int .i64 ((16*n+m:Nat):Int))) w:=by
 have e:Op.intBits BinOp.or IntKind.i64 ((16*n:Nat):Int) (m:Int)=pure (.int .i64 (bits .or .i64 ((16*n:Nat):Int) (m:Int))):=rfl
 have h:bits .or .i64 ((16*n:Nat):Int) (m:Int)=((16*n+m:Nat):Int):=by
  rw[i64_or_nat _ _ (by omega) (by omega)]
  have:=Nat.two_pow_add_eq_or_of_lt (i:=4) (b:=m) (by omega) n
  rw[show 16*n=2^4*n by omega,this]
 unfold execOp
 simp only[ho,hx,hy,Sem.run_bind]
 simp only[eqGuard,binOp]
 simp only[e,h]
 simp
theorem exec_c8 (t t':TypeId) (x:Operand) (ho:o.op= .convert t t' x) (n:Nat) (hn:n<256) (hx:a.eval x= .int .i64 (n:Int)) (ht:P.underlying t=some (.int .i64)) (ht':P.underlying t'=some (.int .u8)):(execOp a.eval o).run P w= .ok (.value (.int .u8 (n:Int))) w:=by
 have hw:IntKind.u8.wrap (n:Int)=(n:Int):=by simp[IntKind.wrap_u8];omega
 have e:(convert t t' (.int .i64 (n:Int))).run P w= .ok (.int .u8 (n:Int)) w:=by
  simp[convert,run_underlying ht,run_underlying ht',Conv.intToInt,hw]
 unfold execOp
 simp only[ho,hx,e,Sem.run_bind,Sem.run_pure,Result.andThen_ok]
theorem exec_and15 (t:TypeId) (x y:Operand) (rt:TypeId) (ho:o.op= .binOp .and t x y rt) (n:Nat) (hn:n<256) (hx:a.eval x= .int .u8 (n:Int)) (hy:a.eval y= .int .u8 15):(execOp a.eval o).run P w= .ok (.value (.int .u8 ((n%16:Nat):Int))) w:=by
 have h:=and15 n hn
 have e:Op.intBits BinOp.and IntKind.u8 (n:Int) 15=pure (.int .u8 (bits .and .u8 (n:Int) 15)):=rfl
 unfold execOp
 simp only[ho,hx,hy,Sem.run_bind]
 simp only[eqGuard,binOp]
 simp only[e,h]
 simp
end
theorem hex_step (k:Nat) (f:Nat→Nat) (i:Nat) (_hi:i<2*k+2):cat (2*k) (hexF f) (fun j=>if j=0 then dg (f k/16) else dg (f k%16)) i=hexF f i:=by
 unfold cat
 by_cases h:i<2*k
 ·rw[if_pos h]
 rw[if_neg h]
 unfold hexF
 by_cases h0:i=2*k
 ·subst h0
  rw[if_pos (by omega),show 2*k/2=k by omega]
  show(if 2*k-2*k=0 then _ else _)=_
  rw[if_pos (by omega)]
 obtain rfl:i=2*k+1:=by omega
 rw[if_neg (by omega),show(2*k+1)/2=k by omega]
 show(if 2*k+1-2*k=0 then _ else _)=_
 rw[if_neg (by omega)]
theorem two_reads (w:World) (x y:Nat):Reads (w.alloc (.cells #[.int .u8 (x:Int), .int .u8 (y:Int)] 5)) (w.heap.size+1) (some ⟨w.heap.size,0,none⟩) 2 (fun j=>if j=0 then x else y):=fun _=>
 ⟨_,rfl,Nat.lt_succ_self _,fun i hi=>by
  rw[add_zero_off,(Blk.fresh w 5 _).cell]
  match i,hi with
  | 0,_=>rfl
  | 1,_=>rfl⟩
set_option maxRecDepth 100000 in
set_option maxHeartbeats 1000000 in
set_option linter.unusedSimpArgs false in
theorem hex_any (A:Option Addr) (L c:Nat) (f:Nat→Nat) (w:World) (hL:L≤1000) (hf: ∀i,i<L→f i<256) (hR:Reads w w.heap.size A L f):
  Calls Tryz.prog 58 #[.slice A L c] w fun e w'=>e= .returned (.string (strF (2*L) (hexF f)))∧Below w.heap.size w w':=by
 have HR:=hid hR
 have Hf:=hid hf
 obtain⟨w2,hmk,hom,hB2⟩:=make_own w (2*L) (by omega)
 have e2:((2*L:Nat):Int)=2*(L:Int):=by omega
 rw[e2] at hmk
 clear hR hf
 go_enter Tryz.func58,Tryz.ntmps58
 go_wp2
 have ho2:=hom (hexF f)
 clear hmk hom
 go_loopw [3,5,12] (fun v _ y wr=> ∃k:Nat,k≤L∧y= .int .i64 (k:Int)∧Own wr w.heap.size 5 1 v (2*k) (hexF f)∧Below w.heap.size w wr) (fun _ _ y _=>L-(intOf y).toNat)
 case atStart=>exact⟨0,by omega,rfl,ho2,hB2⟩
 case round=>
  clear ho2 hB2
  obtain⟨k,hk,rfl,hov,hBr⟩:=hrel
  obtain⟨A',c',rfl,hc',-⟩:=hov.slice'
  have Hov:=hid hov
  have HBr:=hid hBr
  clear hov hBr
  by_cases hlt:k<L
  ·obtain⟨ad,rfl,had,hcs⟩:=HR.out (by omega)
   have hcx:wr.cell? (ad.add k)=some (.int .u8 ((f k:Nat):Int)):=(HBr.out.cell (p:=ad.add k) (by rw[add_block];exact had)).trans (hcs _ hlt)
   have hx:=Hf.out k hlt
   have HS:=hid (hex_step k f)
   generalize f k=x at*
   clear hcs
   go_wp2_with (first
    | (with_reducible refine wpl_sl1 rfl 22 _ _ rfl ad L c rfl .i64 _ rfl k rfl 5 Tryz.underlying22 hlt i8q ?_)
    | (with_reducible refine wpl_ld rfl 5 _ rfl _ rfl .u8 Tryz.underlying5 _ hcx ?_))
   have hd1:=digs_at (x/16) (by omega)
   have hd2:=digs_at (x%16) (by omega)
   unfold digs at hd1 hd2
   have HovA:Hid (∀cs,Own (wr.drew.alloc (.cells cs 5)) w.heap.size 5 1 (.slice A' (2*k) c') (2*k) (hexF f)):=hid (fun cs=>Own.alloc (show Own wr.drew w.heap.size 5 1 (.slice A' (2*k) c') (2*k) (hexF f) from Hov.out) _)
   refine wp_region_held_drew (S:=fun W=>Below w.heap.size w W) (by kernel_rfl) HBr.out.drew (fun hS0=>?_)
   refine ztk (i:=0) (v:= .slice A' (2*k) c') rfl (fun _ _=>exec_move _ rfl _ rfl) hS0 ?_
   (try simp only[Act.put,zza,zzb,zzc,zzd,zze,zzf])
   refine ztk (i:=1) (v:= .int .u8 (x:Int)) rfl (fun _ _=>exec_move _ rfl _ rfl) hS0 ?_
   (try simp only[Act.put,zza,zzb,zzc,zzd,zze,zzf])
   refine ztk (i:=2) (v:= .int .u8 ((x/16:Nat):Int)) rfl (fun _ _=>exec_shr4 _ _ _ _ rfl x hx rfl rfl) hS0 ?_
   (try simp only[Act.put,zza,zzb,zzc,zzd,zze,zzf])
   refine ztk (i:=3) (v:= .int .u8 ((dg (x/16):Nat):Int)) rfl (fun _ _=>exec_str 9 _ _ rfl ⟨#[48,49,50,51,52,53,54,55,56,57,65,66,67,68,69,70]⟩ rfl .u8 _ rfl (x/16) rfl Tryz.underlying9 _ hd1) hS0 ?_
   (try simp only[Act.put,zza,zzb,zzc,zzd,zze,zzf])
   refine ztk (i:=4) (v:= .int .u8 (x:Int)) rfl (fun _ _=>exec_move _ rfl _ rfl) hS0 ?_
   (try simp only[Act.put,zza,zzb,zzc,zzd,zze,zzf])
   refine ztk (i:=5) (v:= .int .u8 ((x%16:Nat):Int)) rfl (fun _ _=>exec_and15 _ _ _ _ rfl x hx rfl rfl) hS0 ?_
   (try simp only[Act.put,zza,zzb,zzc,zzd,zze,zzf])
   refine ztk (i:=6) (v:= .int .u8 ((dg (x%16):Nat):Int)) rfl (fun _ _=>exec_str 9 _ _ rfl ⟨#[48,49,50,51,52,53,54,55,56,57,65,66,67,68,69,70]⟩ rfl .u8 _ rfl (x%16) rfl Tryz.underlying9 _ hd2) hS0 ?_
   (try simp only[Act.put,zza,zzb,zzc,zzd,zze,zzf])
   refine wpAnyH_ready (rs:=[7]) (by kernel_rfl) (by simp) (AllReadyH.cons rfl (fun K hK=>?_) AllReadyH.nil)
   (try simp only[Act.put,zza,zzb,zzc,zzd,zze,zzf])
   refine Eq.mpr (if_pos (by rfl)) ?_
   refine wp_bs2 22 _ _ rfl (.int .u8 ((dg (x/16):Nat):Int)) (.int .u8 ((dg (x%16):Nat):Int)) rfl rfl _ _ (bs2 _ _ _) ?_
   refine hK.out _ _ (hS0.alloc hS0.size _) (fun hS1=>?_)
   (try simp only[Act.put,zza,zzb,zzc,zzd,zze,zzf])
   clear hK K
   refine wpAnyH_ready (rs:=[8]) (by kernel_rfl) (by simp) (AllReadyH.cons rfl (fun K hK=>?_) AllReadyH.nil)
   (try simp only[Act.put,zza,zzb,zzc,zzd,zze,zzf])
   refine Eq.mpr (if_pos (by rfl)) ?_
   refine wp_app_gen _ _ 22 rfl w.heap.size 5 (.int .u8 0) Tryz.underlying22 info8 rfl _ (2*k) (hexF f) rfl (HovA.out _) (some ⟨wr.drew.heap.size,0,none⟩) 2 2 _ _ (two_reads wr.drew _ _) (fun h=>by cases h) rfl (by omega) (by have:=HBr.out.size;simp;omega) ?_
   intro v3 w3 ho3 hB3
   refine hK.out _ _ (hS1.trans hB3) (fun hS2=>?_)
   (try simp only[Act.put,zza,zzb,zzc,zzd,zze,zzf])
   clear hK K
   refine ztk (i:=9) (v:=v3) rfl (fun _ _=>exec_assign _ rfl _ rfl) hS2 ?_
   (try simp only[Act.put,zza,zzb,zzc,zzd,zze,zzf])
   refine wpAnyH_done (by kernel_rfl) ?_ _
   go_wp2_with fail
   go_round
   case rel=>exact⟨k+1,by omega,val_int (by omega),ho3.ext (fun i hi=>HS.out i (by omega)),hS2⟩
   case measure=>simp[intOf];omega
  obtain rfl:k=L:=by omega
  have hcv:=conv_own Hov.out
  go_wp2
  go_ret
  exact⟨rfl,HBr.out⟩
theorem unhex_bad (n:Nat) (f:Nat→Nat) (i:Nat) (w:World) (hf: ∀i,f i<256) (hn:n≤1000000) (h:BadD 16 n f i):
  Calls Tryz.prog 71 #[.string (strF n f)] w fun e w'=>e= .returned (.tuple #[.slice none 0 0, .iface 65 (.pointer (some ⟨w.heap.size,0,none⟩))])∧Blk w' w.heap.size 68 #[.int .i64 (i:Int), .iface 56 (.int .i64 16)]∧Below w.heap.size w w':=by
 have HR:=hid (rej_bad n f 16 0 i w (.inr rfl) hf hn (by omega) h)
 go_enter Tryz.func71,Tryz.ntmps71
 go_wp2_with (go_at_call 99;refine HR.out.mono ?_;rintro e w1 ⟨rfl,hb,hB⟩)
 go_ret2
 rw[Nat.zero_add] at hb
 exact⟨rfl,hb,hB⟩
set_option maxRecDepth 100000 in
set_option maxHeartbeats 1000000 in
theorem unhex_ok (n m:Nat) (f:Nat→Nat) (w:World) (hf: ∀i,f i<256) (hn:n≤1000000) (h:AllD 16 n f) (ho:n=2*m):
  Calls Tryz.prog 71 #[.string (strF n f)] w fun e w'=>e= .returned (.tuple #[.slice (some ⟨w.heap.size,0,none⟩) m m, .nilIface])∧Blk w' w.heap.size 5 (row m (b8 (unhF f)))∧Below w.heap.size w w':=by
 have HR:=hid (rej_ok n f 16 0 w (.inr rfl) hf hn h)
 have hsz:=strF_size n f
 have hoI:(n:Int)%2=0:=by omega
 have HA:=hid h
 have Ho:=hid ho
 clear h ho
 go_enter Tryz.func71,Tryz.ntmps71
 go_wp2_with (first
  | (go_at_call 99;refine HR.out.mono ?_;rintro e w1 ⟨rfl,rfl⟩)
  | (with_reducible refine wpl_make rfl 22 5 _ _ rfl Tryz.underlying22 info8 _ _ _ _ rfl rfl m (by have:=Ho.out;omega) (by have:=Ho.out;omega) (by have:=Ho.out;omega) ?_))
 have hb0:=Blk.fresh w1 5 (row m (b8 fun _=>0))
 have hB0:Below w1.heap.size w1 (w1.alloc (.cells (row m (b8 fun _=>0)) 5)):=(Below.refl _ _).alloc (Nat.le_refl _) _
 go_loopw [6,23] (fun _ y wr=> ∃(k:Nat) (g:Nat→Nat),k≤m∧y= .int .i64 (k:Int)∧Hid (∀j,j<k→g j=unhF f j)∧Blk wr w1.heap.size 5 (row m (b8 g))∧Below w1.heap.size w1 wr) (fun _ y _=>m-(intOf y).toNat)
 case atStart=>exact⟨0,fun _=>0,by omega,rfl,hid (fun j hj=>by omega),hb0,hB0⟩
 case round=>
  clear hb0 hB0
  obtain⟨k,g,hk,rfl,HG,hb,hB⟩:=hrel
  by_cases hlt:k<m
  ·have hl1:2*k<n:=by have:=Ho.out;omega
   have hl2:2*k+1<n:=by have:=Ho.out;omega
   have hd1:=HA.out _ hl1
   have hd2:=HA.out _ hl2
   have hu:unhF f k=16*dv (f (2*k))+dv (f (2*k+1)):=rfl
   have HU:=hid hu
   clear hu
   go_wp2_with fail
   refine wp_region_still_tail 17 (by kernel_rfl) (by kernel_rfl) ?_
   simp only[List.take_succ_cons,List.take_zero,List.drop_succ_cons,List.drop_zero]
   change wpStill _ _ wr.drew (fun a'=>wpList _ _ _ _ a' wr.drew) _ _
   have hb1:Blk wr.drew w1.heap.size 5 (row m (b8 g)):=hb
   have hB1:=hB.drew
   clear hb hB
   generalize wr.drew=w2 at*
   repeat (first
    | (with_reducible refine wps_val rfl _ (exec_arith .mul (.inr (.inr rfl)) _ _ _ _ rfl 2 (k:Int) rfl rfl (2*(k:Int)) (by rfl) (by omega) (by omega)) ?_)
    | (with_reducible refine wps_val rfl _ (exec_arith .add (.inl rfl) _ _ _ _ rfl (2*(k:Int)) 1 rfl rfl (2*(k:Int)+1) (by rfl) (by omega) (by omega)) ?_)
    | (with_reducible refine wps_str rfl 9 _ _ rfl (strF n f) rfl .i64 _ rfl (2*k) (by omega) Tryz.underlying9 _ (byteAt_strF hl1 (hf _)) ?_)
    | (with_reducible refine wps_str rfl 9 _ _ rfl (strF n f) rfl .i64 _ rfl (2*k+1) (by omega) Tryz.underlying9 _ (byteAt_strF hl2 (hf _)) ?_)
    | (with_reducible refine wps_val rfl _ (exec_shl4 _ _ _ _ rfl (dv (f (2*k))) (by omega) rfl rfl) ?_)
    | (with_reducible refine wps_val rfl _ (exec_or4 _ _ _ _ rfl (dv (f (2*k))) (dv (f (2*k+1))) (by omega) (by omega) rfl rfl) ?_)
    | (with_reducible refine wps_val rfl _ (exec_c8 _ _ _ rfl (16*dv (f (2*k))+dv (f (2*k+1))) (by omega) rfl Tryz.underlying3 Tryz.underlying5) ?_)
    | (with_reducible refine wps_sl rfl 22 _ _ rfl _ m m rfl .i64 _ rfl k rfl 5 Tryz.underlying22 hlt 1 i8q ?_;rw[Nat.mul_one,add_zero_off])
    | still_step
    | still_call (worth_dig (f (2*k)) hd1 (hf _) _)
    | still_call (worth_dig (f (2*k+1)) hd2 (hf _) _))
   refine wpStill_nil ?_
   go_wp2_with (with_reducible refine wpl_st rfl 5 _ _ rfl _ rfl .u8 _ rfl i8q _ (hb1.val k hlt) (hb1.free k) ?_)
   go_round
   case rel=>
    refine⟨k+1,_,by omega,val_int (by omega),hid (fun j hj=>?_),hb1.put k _,hB1.setCell (by simp) _⟩
    by_cases hjk:j=k
    ·subst hjk;rw[upd_same,HU.out]
    rw[upd_other _ _ _ _ hjk];exact HG.out j (by omega)
   case measure=>simp[intOf];omega
  obtain rfl:k=m:=by omega
  have e:=row_b8_ext HG.out
  rw[e] at hb
  clear e
  go_wp2_with fail
  go_ret2
  exact⟨rfl,hb,hB⟩
end Go.Proofs.YtlmacfmfmjhidaaGreatDoor.Dg
namespace Go.Proofs.YtlmacfmfmjhidaaGreatDoor.Dg
open Mem Go.ChangeShapes Go.WideShapes Go.ChangeAt Go.RowKit
section
variable {P:Program}{o:Oper}{a:Act}{w:World}
theorem exec_xor8 (t:TypeId) (x y:Operand) (rt:TypeId) (ho:o.op= .binOp .xor t x y rt) (n m:Nat) (hn:n<256) (hm:m<256) (hx:a.eval x= .int .u8 (n:Int)) (hy:a.eval y= .int .u8 (m:Int)):(execOp a.eval o).run P w= .ok (.value (.int .u8 ((n ^^^ m:Nat):Int))) w:=by
 have e:Op.intBits BinOp.xor IntKind.u8 (n:Int) (m:Int)=pure (.int .u8 (bits .xor .u8 (n:Int) (m:Int))):=rfl
 have h:=u8_xor_nat n m hn hm
 unfold execOp
 simp only[ho,hx,hy,Sem.run_bind]
 simp only[eqGuard,binOp]
 simp only[e,h]
 simp
theorem exec_or8 (t:TypeId) (x y:Operand) (rt:TypeId) (ho:o.op= .binOp .or t x y rt) (n m:Nat) (hn:n<256) (hm:m<256) (hx:a.eval x= .int .u8 (n:Int)) (hy:a.eval y= .int .u8 (m:Int)):(execOp a.eval o).run P w= .ok (.value (.int .u8 ((n ||| m:Nat):Int))) w:=by
 have e:Op.intBits BinOp.or IntKind.u8 (n:Int) (m:Int)=pure (.int .u8 (bits .or .u8 (n:Int) (m:Int))):=rfl
 have h:=u8_or_nat n m hn hm
 unfold execOp
 simp only[ho,hx,hy,Sem.run_bind]
 simp only[eqGuard,binOp]
 simp only[e,h]
 simp
end
theorem xo_zero {u x y:Nat} (hu:u<256) (hx:x<256) (hy:y<256):(u ||| (x ^^^ y)=0↔u=0∧x=y)∧u ||| (x ^^^ y)<256:=by
 refine⟨?_,Nat.or_lt_two_pow (n:=8) hu (Nat.xor_lt_two_pow (n:=8) hx hy)⟩
 rw[Nat.or_eq_zero_iff]
 constructor
 ·rintro⟨h1,h2⟩
  refine⟨h1,?_⟩
  have h3:=congrArg (· ^^^ y) h2
  simp only[Nat.xor_assoc,Nat.xor_self,Nat.xor_zero,Nat.zero_xor] at h3
  exact h3
 rintro⟨h1,h2⟩
 exact⟨h1,by rw[h2,Nat.xor_self]⟩
set_option maxRecDepth 100000 in
set_option maxHeartbeats 1000000 in
theorem equal_any (A1 A2:Option Addr) (L c1 c2:Nat) (f g:Nat→Nat) (w:World) (hL:L≤100000) (hf: ∀i,i<L→f i<256) (hg: ∀i,i<L→g i<256) (hR:Reads w w.heap.size A1 L f) (hR2:Reads w w.heap.size A2 L g):
  Calls Tryz.prog 73 #[.slice A1 L c1, .slice A2 L c2] w fun e w'=>e= .returned (.bool (eqB L f g))∧Below w.heap.size w w':=by
 have HR:=hid hR
 have HR2:=hid hR2
 have Hf:=hid hf
 have Hg:=hid hg
 clear hR hR2 hf hg
 go_enter Tryz.func73,Tryz.ntmps73
 go_wp2
 go_loopw [5,6,14] (fun s _ y wr=> ∃k u:Nat,k≤L∧s= .int .u8 (u:Int)∧y= .int .i64 (k:Int)∧u<256∧Hid (u=0↔∀j,j<k→f j=g j)∧Below w.heap.size w wr) (fun _ _ y _=>L-(intOf y).toNat)
 case atStart=>exact⟨0,0,by omega,rfl,rfl,by omega,hid ⟨fun _ j hj=>by omega,fun _=>rfl⟩,Below.refl _ _⟩
 case round=>
  obtain⟨k,u,hk,rfl,rfl,hu,HU,hB⟩:=hrel
  by_cases hlt:k<L
  ·obtain⟨a1,rfl,ha1,hc1⟩:=HR.out (by omega)
   obtain⟨a2,rfl,ha2,hc2⟩:=HR2.out (by omega)
   have hx:=Hf.out k hlt
   have hy:=Hg.out k hlt
   have hd1:wr.drew.cell? (a1.add k)=some (.int .u8 ((f k:Nat):Int)):=(hB.drew.cell (p:=a1.add k) (by rw[add_block];exact ha1)).trans (hc1 _ hlt)
   have hd2:wr.drew.cell? (a2.add k)=some (.int .u8 ((g k:Nat):Int)):=(hB.drew.cell (p:=a2.add k) (by rw[add_block];exact ha2)).trans (hc2 _ hlt)
   have HZ:=hid (xo_zero hu hx hy)
   have hxy:f k ^^^ g k<256:=Nat.xor_lt_two_pow (n:=8) hx hy
   clear hc1 hc2
   go_wp2_with fail
   refine wp_region_still_tail 11 (by kernel_rfl) (by kernel_rfl) ?_
   simp only[List.take_succ_cons,List.take_zero,List.drop_succ_cons,List.drop_zero]
   change wpStill _ _ wr.drew (fun a'=>wpList _ _ _ _ a' wr.drew) _ _
   have hB1:=hB.drew
   clear hB
   generalize wr.drew=w2 at*
   repeat (first
    | (with_reducible refine wps_sl rfl 22 _ _ rfl a1 L c1 rfl .i64 _ rfl k rfl 5 Tryz.underlying22 hlt 1 i8q ?_;rw[Nat.mul_one])
    | (with_reducible refine wps_sl rfl 22 _ _ rfl a2 L c2 rfl .i64 _ rfl k rfl 5 Tryz.underlying22 hlt 1 i8q ?_;rw[Nat.mul_one])
    | (with_reducible refine wps_ld rfl 5 _ rfl _ rfl .u8 Tryz.underlying5 _ hd1 ?_)
    | (with_reducible refine wps_ld rfl 5 _ rfl _ rfl .u8 Tryz.underlying5 _ hd2 ?_)
    | (with_reducible refine wps_val rfl _ (exec_xor8 _ _ _ _ rfl (f k) (g k) hx hy rfl rfl) ?_)
    | (with_reducible refine wps_val rfl _ (exec_or8 _ _ _ _ rfl u (f k ^^^ g k) hu hxy rfl rfl) ?_)
    | still_step)
   refine wpStill_nil ?_
   go_wp2_with fail
   go_round
   case rel=>
    refine⟨k+1,u ||| (f k ^^^ g k),by omega,rfl,val_int (by omega),HZ.out.2,hid ?_,hB1⟩
    rw[HZ.out.1,HU.out]
    constructor
    ·rintro⟨h1,h2⟩ j hj
     rcases Nat.lt_or_ge j k with h | h
     ·exact h1 j h
     obtain rfl:j=k:=by omega
     exact h2
    intro h
    exact⟨fun j hj=>h j (by omega),h k (by omega)⟩
   case measure=>simp[intOf];omega
  obtain rfl:k=L:=by omega
  have hr:((u:Int) == 0)=eqB k f g:=by
   rw[Bool.eq_iff_iff,eqB_iff,← HU.out]
   simp
  have Hr:=hid hr
  clear hr
  go_wp2_with fail
  go_ret
  rw[← Hr.out]
  exact⟨by simp,hB⟩
end Go.Proofs.YtlmacfmfmjhidaaGreatDoor.Dg
