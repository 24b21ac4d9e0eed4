/-
 What the document's own Bits, place and permute of layer 3 return: contracts over the loaded program.
-/
import Derived.Test.YtlmacfmfmjhidaaGreatDoorLst
import Derived.Test.YtlmacfmfmjhidaaGreatDoorDesX
import Derived.Test.YtlmacfmfmjhidaaGreatDoorBits
namespace Go.Proofs.YtlmacfmfmjhidaaGreatDoor.Des
open Go.ChangeShapes Go.WideShapes Go.ChangeAt Go.RowKit Mem
theorem infoI:(Tryz.prog.info? 3).map (fun i=>(i.zero,i.size,i.bytes))=some (some (.int .i64 0),1,8):=by kernel_rfl
theorem iI:(Tryz.prog.info? 3).map (·.size)=some 1:=by kernel_rfl
set_option maxRecDepth 100000 in
theorem rplace_any (s:ByteArray) (n:Nat) (p:Nat→Nat) (hs:TabS s n p) (i:Nat) (hi:i<n) (hn:n≤1000) (w:World):
  Calls Tryz.prog 139 #[.string s, .int .i64 i] w fun e w'=>e= .returned (.int .i64 (p i:Nat))∧∃q,w'=w.drewN q:=by
 obtain⟨hp,h0,h1⟩:=hs.2 i hi
 have hw1:=wrap_i64 (2*(i:Int)) _ rfl (by omega) (by omega)
 have hw2:=wrap_i64 (2*(i:Int)+1) _ rfl (by omega) (by omega)
 have hu1:=u8_in (48+((p i:Nat):Int)/10-48) (((p i:Nat):Int)/10) (by omega) (by omega) (by omega)
 have hu2:=u8_in (48+((p i:Nat):Int)%10-48) (((p i:Nat):Int)%10) (by omega) (by omega) (by omega)
 have hw3:=wrap_i64 (((p i:Nat):Int)/10) _ rfl (by omega) (by omega)
 have hw4:=wrap_i64 (((p i:Nat):Int)%10) _ rfl (by omega) (by omega)
 have hw5:=wrap_i64 ((((p i:Nat):Int)/10)*10) _ rfl (by omega) (by omega)
 have hw6:=wrap_i64 ((((p i:Nat):Int)/10)*10+((p i:Nat):Int)%10) ((p i:Nat):Int) (by omega) (by omega) (by omega)
 go_enter Tryz.func139,Tryz.ntmps139
 go_wp2_with fail
 refine wp_region_still_lit (by kernel_rfl) (by kernel_rfl) ?_
 repeat (first
  | (with_reducible refine wps_str rfl 9 _ _ rfl s rfl .i64 _ rfl (2*i) (by omega) Tryz.underlying9 _ h0 ?_)
  | (with_reducible refine wps_str rfl 9 _ _ rfl s rfl .i64 _ rfl (2*i+1) (by omega) Tryz.underlying9 _ h1 ?_)
  | still_step)
 refine wpStill_nil ?_
 go_wp2_with fail
 go_ret
 exact⟨rfl,1,rfl⟩
set_option maxRecDepth 100000 in
set_option maxHeartbeats 2000000 in
theorem permute_any (s:ByteArray) (m:Nat) (p:Nat→Nat) (hs:TabS s m p) (A:Option Addr) (n c:Nat) (l:Nat→Nat) (hm:0<m) (hm2:m≤64) (hp: ∀i,i<m→1≤p i∧p i≤n) (w:World) (hL:Lst w 3 A n (iv .i64 l)):
  Calls Tryz.prog 137 #[.slice A n c, .string s] w fun e w'=> ∃A' c',e= .returned (.slice A' m c')∧m≤c'∧Lst w' 3 A' m (iv .i64 fun t=>l (p t-1))∧Below w.heap.size w w':=by
 have Hs:=hid hs
 have Hp:=hid hp
 have hsize:s.size=2*m:=hs.1
 obtain⟨ad,rfl,had⟩:=hL.some
 have HL:=hid hL
 clear hs hp hL
 go_enter Tryz.func137,Tryz.ntmps137
 go_wp2_with fail
 go_loopw [5,6] (fun v i wr=> ∃k:Nat,k≤m∧OwnV wr w.heap.size 3 v k (iv .i64 fun t=>l (p t-1))∧i= .int .i64 k∧Below w.heap.size w wr) (fun _ i _=>m-(intOf i).toNat)
 case atStart=>exact⟨0,by omega,OwnV.nil _ _ _ _,rfl,Below.refl _ _⟩
 case round=>
  obtain⟨k,hk,ho,rfl,hB⟩:=hrel
  by_cases hlt:k<m
  ·obtain⟨hp1,hp2⟩:=Hp.out k hlt
   have hpl:p k<100:=(Hs.out.2 k hlt).1
   have hpn:p k-1<n:=by omega
   have Hc:Hid (∀q,(wr.drewN q).cell? (ad.add (p k-1))=some (.int .i64 ((l (p k-1):Nat):Int))):=hid (fun q=>(hB.cell (by rw[add_block];exact had)).trans (HL.out.at (p k-1) hpn))
   go_wp2_with (first
    | (go_at_call 139;refine(rplace_any s m p Hs.out k hlt (by omega) _).mono ?_;rintro e w' ⟨rfl,q,rfl⟩)
    | (with_reducible refine wpl_sl1 rfl 152 _ _ rfl ad n c rfl .i64 _ rfl (p k-1) (by omega) 3 Tryz.underlying152 hpn iI ?_)
    | (with_reducible refine wpl_ld rfl 3 _ rfl _ rfl .i64 Tryz.underlying3 _ (Hc.out _) ?_)
    | (at_builtin;refine wpl_appN rfl _ _ 152 rfl w.heap.size 3 (.int .i64 0) 8 Tryz.underlying152 infoI rfl _ k _ rfl (ho.drewN _) 1 (fun _=> .int .i64 ((l (p k-1):Nat):Int)) _ (row1v _ _ rfl) (fun _=>rfl) rfl (by omega) (by omega) hB.size ?_))
   intro v' w1 ho1 hB1 _
   have hB2:=hB.trans ((below_drewN (Below.refl _ _) _).trans hB1)
   go_wp2_with fail
   refine⟨⟨k+1,by omega,ho1.ext (fun i hi=>?_),val_int (by omega),hB2⟩,by simp[intOf];omega⟩
   unfold catV
   by_cases h:i<k
   ·rw[if_pos h]
   rw[if_neg h];obtain rfl:i=k:=by omega
   rfl
  go_wp2_with fail
  obtain rfl:k=m:=by omega
  obtain⟨A',c',rfl,hc',hL'⟩:=ho.lst hm
  go_ret
  exact⟨A',c',rfl,hc',hL',hB⟩
def bitsF (f:Nat→Nat):Nat→Nat:=fun t=>f (t/8)/2^(7-t%8)%2
theorem bit_i64 (x k:Nat) (hx:x<256):bits .and .i64 ((x:Int)/2^k) 1=((x/2^k%2:Nat):Int):=by
 have e:((x:Int)/2^k)=((x/2^k:Nat):Int):=by simp
 rw[e]
 exact i64_and_one _ (Nat.lt_of_le_of_lt (Nat.div_le_self _ _) (by omega))
theorem own_step {wx:World}{base:Nat}{e:TypeId}{v:Value}{k:Nat}{F:Nat→Nat}{x:Int} (h:OwnV wx base e v (k+1) (catV k (iv .i64 F) fun _=> .int .i64 x)) (hx:x=((F k:Nat):Int)):OwnV wx base e v (k+1) (iv .i64 F):=h.ext fun i hi=>by
 unfold catV
 by_cases h:i<k
 ·rw[if_pos h]
 rw[if_neg h,hx];obtain rfl:i=k:=by omega
 rfl
set_option maxRecDepth 100000 in
set_option maxHeartbeats 2000000 in
theorem bits_any (A:Option Addr) (n c:Nat) (f:Nat→Nat) (hn:0<n) (hn2:n≤100) (hf: ∀i,i<n→f i<256) (w:World) (hR:Reads w w.heap.size A n f):
  Calls Tryz.prog 96 #[.slice A n c] w fun e w'=> ∃A' c',e= .returned (.slice A' (8*n) c')∧8*n≤c'∧Lst w' 3 A' (8*n) (iv .i64 (bitsF f))∧Below w.heap.size w w':=by
 obtain⟨ad,rfl,had,hcell⟩:=hR hn
 have Hf:=hid hf
 have HC:=hid hcell
 clear hR hf hcell
 go_enter Tryz.func96,Tryz.ntmps96
 go_wp2_with fail
 go_loopw [3,4] (fun v i wr=> ∃k:Nat,k≤n∧OwnV wr w.heap.size 3 v (8*k) (iv .i64 (bitsF f))∧i= .int .i64 k∧Below w.heap.size w wr) (fun _ i _=>n-(intOf i).toNat)
 case atStart=>exact⟨0,by omega,OwnV.nil _ _ _ _,rfl,Below.refl _ _⟩
 case round=>
  obtain⟨k,hk,ho,rfl,hB⟩:=hrel
  rename World=>wo
  by_cases hlt:k<n
  ·have hfk:=Hf.out k hlt
   go_wp2_with fail
   go_loopw [3,5] (fun v j wr=> ∃q:Nat,q≤8∧OwnV wr w.heap.size 3 v (8*k+q) (iv .i64 (bitsF f))∧j= .int .i64 (7-(q:Int))∧Below w.heap.size w wr) (fun _ j _=>(intOf j+1).toNat)
   case atStart=>exact⟨0,by omega,ho,rfl,hB⟩
   case round=>
    clear ho hB
    obtain⟨q,hq,ho,rfl,hB⟩:=hrel
    by_cases hlt2:q<8
    ·have Hc:Hid (wr.cell? (ad.add k)=some (.int .u8 ((f k:Nat):Int))):=hid ((hB.cell (by rw[add_block];exact had)).trans (HC.out k hlt))
     go_wp2_with (first
      | (with_reducible refine wpl_sl1 rfl 22 _ _ rfl ad n c rfl .i64 _ rfl k rfl 5 Tryz.underlying22 hlt i8 ?_)
      | (with_reducible refine wpl_ld rfl 5 _ rfl _ rfl .u8 Tryz.underlying5 _ Hc.out ?_)
      | (at_builtin;refine wpl_appN rfl _ _ 152 rfl w.heap.size 3 (.int .i64 0) 8 Tryz.underlying152 infoI rfl _ (8*k+q) _ rfl ho 1 (fun _=> .int .i64 (bits .and .i64 (((f k:Nat):Int)/2^(7-q)) 1)) _ (row1v _ _ rfl) (fun _=>rfl) rfl (by omega) (by omega) hB.size ?_))
     intro v' w1 ho1 hB1 _
     have hB2:=hB.trans hB1
     have ho2:=own_step ho1 (by
      rw[bit_i64 _ _ hfk]
      unfold bitsF
      rw[show(8*k+q)/8=k by omega,show(8*k+q)%8=q by omega])
     clear ho1 hB1 hB ho
     go_wp2_with fail
     exact⟨⟨q+1,by omega,ho2,val_int (by omega),hB2⟩,by simp[intOf];omega⟩
    obtain rfl:q=8:=by omega
    go_wp2_with fail
    exact⟨⟨k+1,by omega,ho,val_int (by omega),hB⟩,by simp[intOf];omega⟩
  go_wp2_with fail
  obtain rfl:k=n:=by omega
  obtain⟨A',c',rfl,hc',hL'⟩:=ho.lst (by omega)
  go_ret
  exact⟨A',c',rfl,hc',hL',hB⟩
end Go.Proofs.YtlmacfmfmjhidaaGreatDoor.Des
