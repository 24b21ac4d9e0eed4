/-
 GfRefA Ref02A Same02 Row1 Ref02H
-/
import Derived.Test.YtlmacfmfmjhidaaGreatDoorGfX
import Derived.Test.YtlmacfmfmjhidaaGreatDoorBits
import Derived.Test.YtlmacfmfmjhidaaGreatDoorAesY
import Derived.Test.YtlmacfmfmjhidaaGreatDoorMemX
namespace Go.Proofs.YtlmacfmfmjhidaaGreatDoor.Gf
open Go.ChangeShapes Go.WideShapes Go.ChangeAt Go.RowKit
theorem two_pow_cast (n:Nat):(2:Int)^n=((2^n:Nat):Int):=by simp
theorem xor_pow (P n:Nat) (hP:P<32768) (hn:n<15):bits .xor .i64 (P:Int) (wrap64 (2^n))=((P ^^^ 2^n:Nat):Int):=by
 have h:2^n<2^15:=Nat.pow_lt_pow_right (by omega) hn
 rw[two_pow_cast,wrap64_nat _ (by omega),i64_xor_nat _ _ (by omega) (by omega)]
theorem xor_283 (P n:Nat) (hP:P<32768) (hn:n≤6):bits .xor .i64 (P:Int) (wrap64 (283*2^n))=((P ^^^ 283*2^n:Nat):Int):=by
 have h:2^n≤2^6:=Nat.pow_le_pow_right (by omega) hn
 have e:(283:Int)*2^n=((283*2^n:Nat):Int):=by simp
 rw[e,wrap64_nat _ (by omega),i64_xor_nat _ _ (by omega) (by omega)]
set_option maxHeartbeats 1000000 in
theorem refMul_any (a b:Nat) (ha:a<256) (hb:b<256) (w:World):
  Calls Tryz.prog 119 #[.int .u8 a, .int .u8 b] w fun e w'=>e= .returned (.int .u8 (refMul a b:Nat))∧w=w':=by
 go_enter Tryz.func119,Tryz.ntmps119
 go_wp2
 go_loop [5,6,7] (fun p i _=> ∃k P:Nat,k≤8∧P<32768∧Hid (rout a b k=P)∧i= .int .i64 k∧p= .int .i64 P) (fun _ i _=>8-(intOf i).toNat)
 case atStart=>exact⟨0,0,by omega,by omega,hid rfl,rfl,rfl⟩
 case round=>
  obtain⟨k,P,hk,hP,H,rfl,rfl⟩:=hrel
  by_cases hlt:k<8
  ·go_wp2
   go_loop [5,7] (fun p i=> ∃k2 P2:Nat,k2≤8∧P2<32768∧Hid (P ^^^ rin a b k k2=P2)∧i= .int .i64 k2∧p= .int .i64 P2) (fun _ i=>8-(intOf i).toNat)
   case atStart=>exact⟨0,P,by omega,by omega,hid (by show P ^^^ 0=P;rw[Nat.xor_zero]),rfl,rfl⟩
   case round=>
    obtain⟨k2,P2,hk2,hP2,H2,rfl,rfl⟩:=hrel
    have hx:P ^^^ rin a b k (k2+1)<32768∨k2=8:=by
     by_cases e:k2=8
     ·exact Or.inr e
     exact Or.inl (Nat.xor_lt_two_pow (n:=15) hP (rin_lt a b k (k2+1) hlt (by omega)))
    by_cases hlt2:k2<8
    ·have hx':P ^^^ rin a b k (k2+1)<32768:=hx.resolve_right (by omega)
     clear hx
     have step:P ^^^ rin a b k (k2+1)=P2 ^^^ sel (a.testBit k && b.testBit k2) (2^(k+k2)):=by
      show P ^^^ (rin a b k k2 ^^^ _)=_
      rw[← Nat.xor_assoc,H2.out]
     have S:=hid step
     clear step
     have ta:=i64_bit a k (by omega)
     have tb:=i64_bit b k2 (by omega)
     cases ca:a.testBit k
     ·rw[ca] at ta
      have Ca:=hid ca
      clear ca tb
      go_wp2
      refine⟨⟨k2+1,P2,by omega,hP2,hid ?_,val_int (by omega),rfl⟩,by simp[intOf];omega⟩
      rw[S.out,Ca.out]
      simp[sel]
     rw[ca] at ta
     have Ca:=hid ca
     clear ca
     cases cb:b.testBit k2
     ·rw[cb] at tb
      have Cb:=hid cb
      clear cb
      go_wp2
      refine⟨⟨k2+1,P2,by omega,hP2,hid ?_,val_int (by omega),rfl⟩,by simp[intOf];omega⟩
      rw[S.out,Cb.out]
      simp[sel]
     rw[cb] at tb
     have Cb:=hid cb
     clear cb
     go_wp2
     refine⟨⟨k2+1,P2 ^^^ 2^(k+k2),by omega,?_,hid ?_,val_int (by omega),val_int (xor_pow P2 _ hP2 (by omega))⟩,by simp[intOf];omega⟩
     ·rw[S.out,Ca.out,Cb.out] at hx'
      exact hx'
     rw[S.out,Ca.out,Cb.out]
     rfl
    clear hx
    go_wp2
    obtain rfl:k2=8:=by omega
    refine⟨⟨k+1,P2,by omega,hP2,hid ?_,val_int (by omega),rfl⟩,by simp[intOf];omega⟩
    show rout a b k ^^^ rin a b k 8=P2
    rw[H.out,H2.out]
  obtain rfl:k=8:=by omega
  go_wp2
  go_loop [5,8] (fun p i=> ∃j Q:Nat,j≤7∧Q<32768∧Hid (red P j=Q)∧i= .int .i64 (14-(j:Int))∧p= .int .i64 Q) (fun _ i=>(intOf i).toNat)
  case atStart=>exact⟨0,P,by omega,hP,hid rfl,rfl,rfl⟩
  case round=>
   obtain⟨j,Q,hj,hQ,HQ,rfl,rfl⟩:=hrel
   by_cases hlt2:j<7
   ·have hx:=red_lt P (j+1) hP (by omega)
    have step:red P (j+1)=Q ^^^ sel (Q.testBit (14-j)) (283*2^(6-j)):=by
     show red P j ^^^ sel ((red P j).testBit (14-j)) _=_
     rw[HQ.out]
    have S:=hid step
    clear step
    have t:=i64_bit Q (14-j) (by omega)
    cases c:Q.testBit (14-j)
    ·rw[c] at t
     have C:=hid c
     clear c
     go_wp2
     refine⟨⟨j+1,Q,by omega,hQ,hid ?_,val_int (by omega),rfl⟩,by simp[intOf];omega⟩
     rw[S.out,C.out]
     simp[sel]
    rw[c] at t
    have C:=hid c
    clear c
    go_wp2
    refine⟨⟨j+1,Q ^^^ 283*2^(6-j),by omega,?_,hid ?_,val_int (by omega),val_int ?_⟩,by simp[intOf];omega⟩
    ·rw[S.out,C.out] at hx
     exact hx
    ·rw[S.out,C.out]
     rfl
    rw[show 14-j-8=6-j from by omega]
    exact xor_283 Q _ hQ (by omega)
   obtain rfl:j=7:=by omega
   go_wp2
   go_ret
   refine⟨ret_int ?_,rfl⟩
   show(Q:Int)%256=((red (rout a b 8) 7%256:Nat):Int)
   rw[H.out,HQ.out]
   simp
theorem shr_cast (b n:Nat):(b:Int)/2^n=((b/2^n:Nat):Int):=by simp
set_option maxHeartbeats 1000000 in
theorem affine_any (b:Nat) (hb:b<256) (w:World):
  Calls Tryz.prog 140 #[.int .u8 b] w fun e w'=>e= .returned (.int .u8 (aff b:Nat))∧w=w':=by
 go_enter Tryz.func140,Tryz.ntmps140
 go_wp2
 go_loop [4,5,6,7] (fun o i _ _=> ∃k O:Nat,k≤8∧O<256∧Hid (affTo b k=O)∧i= .int .i64 k∧o= .int .i64 O) (fun _ i _ _=>8-(intOf i).toNat)
 case atStart=>exact⟨0,0,by omega,by omega,hid rfl,rfl,rfl⟩
 case round=>
  obtain⟨k,O,hk,hO,H,rfl,rfl⟩:=hrel
  by_cases hlt:k<8
  ·go_wp2
   go_loop [6,7] (fun s i=> ∃m S:Nat,m≤5∧S<256∧Hid (affIn b k m=S)∧i= .int .i64 (4+(m:Int))∧s= .int .i64 S) (fun _ i=>9-(intOf i).toNat)
   case atStart=>exact⟨0,99/2^k,by omega,affIn_lt b k 0 hb,hid rfl,rfl,val_int (shr_cast 99 k)⟩
   case round=>
    obtain⟨m,S,hm,hS,HS,rfl,rfl⟩:=hrel
    by_cases hlt2:m<5
    ·have hq:b/2^((k+(4+m))%8)<256:=Nat.lt_of_le_of_lt (Nat.div_le_self _ _) hb
     go_wp2
     refine⟨⟨m+1,S ^^^ b/2^((k+(4+m))%8),by omega,xor_lt hS hq,hid ?_,val_int (by omega),val_int ?_⟩,by simp[intOf];omega⟩
     ·show affIn b k m ^^^ _=_
      rw[HS.out]
     rw[shr_cast,i64_xor_nat _ _ (by omega) (by omega)]
    obtain rfl:m=5:=by omega
    have hO':=affTo_lt b (k+1) (by omega)
    go_wp2
    refine⟨⟨k+1,O ||| S%2*2^k,by omega,?_,hid ?_,val_int (by omega),val_int ?_⟩,by simp[intOf];omega⟩
    ·show O ||| S%2*2^k<256
     rw[← H.out,← HS.out]
     exact hO'
    ·show affTo b k ||| affIn b k 5%2*2^k=_
     rw[H.out,HS.out]
    have h2:2^k≤2^7:=Nat.pow_le_pow_right (by omega) (by omega)
    have h1:S%2*2^k≤1*2^k:=Nat.mul_le_mul_right _ (by omega)
    have e:bits BinOp.and IntKind.i64 (S:Int) 1*2^k=((S%2*2^k:Nat):Int):=by
     rw[i64_and_one S (by omega)]
     simp
    rw[e,wrap64_nat _ (by omega),i64_or_nat _ _ (by omega) (by omega)]
  obtain rfl:k=8:=by omega
  go_wp2
  go_ret
  exact⟨ret_int (by show(O:Int)=((affTo b 8:Nat):Int);rw[H.out]),rfl⟩
end Go.Proofs.YtlmacfmfmjhidaaGreatDoor.Gf
namespace Go.Proofs.YtlmacfmfmjhidaaGreatDoor.Aes
open Go.ChangeShapes Go.WideShapes Go.ChangeAt Go.RowKit Mem
def l3:List Nat:=[1,3,5,15,17,51,85,255,26,46,114,150,161,248,19,53,95,225,56,72,216,115,149,164,247,2,6,10,30,34,102,170,229,52,92,228,55,89,235,38,106,190,217,112,144,171,230,49,83,245,4,12,20,60,68,204,79,209,104,184,211,110,178,205,76,212,103,169,224,59,77,215,98,166,241,8,24,40,120,136,131,158,185,208,107,189,220,127,129,152,179,206,73,219,118,154,181,196,87,249,16,48,80,240,11,29,39,105,187,214,97,163,254,25,43,125,135,146,173,236,47,113,147,174,233,32,96,160,251,22,58,78,210,109,183,194,93,231,50,86,250,21,63,65,195,94,226,61,71,201,64,192,91,237,44,116,156,191,218,117,159,186,213,100,172,239,42,126,130,157,188,223,122,142,137,128,155,182,193,88,232,35,101,175,234,37,111,177,200,67,197,84,252,31,33,99,165,244,7,9,27,45,119,153,176,203,70,202,69,207,74,222,121,139,134,145,168,227,62,66,198,81,243,14,18,54,90,238,41,123,141,140,143,138,133,148,167,242,13,23,57,75,221,124,132,151,162,253,28,36,108,180,199,82,246,1]
def lg3:List Nat:=[0,0,25,1,50,2,26,198,75,199,27,104,51,238,223,3,100,4,224,14,52,141,129,239,76,113,8,200,248,105,28,193,125,194,29,181,249,185,39,106,77,228,166,114,154,201,9,120,101,47,138,5,33,15,225,36,18,240,130,69,53,147,218,142,150,143,219,189,54,208,206,148,19,92,210,241,64,70,131,56,102,221,253,48,191,6,139,98,179,37,226,152,34,136,145,16,126,110,72,195,163,182,30,66,58,107,40,84,250,133,61,186,43,121,10,21,155,159,94,202,78,212,172,229,243,115,167,87,175,88,168,80,244,234,214,116,79,174,233,213,231,230,173,232,44,215,117,122,235,22,11,245,89,203,95,176,156,169,81,160,127,12,246,111,23,196,73,236,216,67,31,45,164,118,123,183,204,187,62,90,251,96,177,134,59,82,161,108,170,85,41,157,151,178,135,144,97,190,220,252,188,149,207,205,55,63,91,209,83,57,132,60,65,162,109,71,20,42,158,93,86,242,211,171,68,17,146,217,35,32,46,137,180,124,184,38,119,153,227,165,103,74,237,222,197,49,254,24,13,99,140,128,192,247,112,7]
def p3 (k:Nat):Nat:=l3.getD k 0
def g3 (j:Nat):Nat:=lg3.getD j 0
theorem p3_lt: ∀k,k<256→p3 k<256:=by decide+kernel
theorem p3_step: ∀k,k<255→p3 (k+1)=Gf.mul (p3 k) 3:=by decide+kernel
theorem p3_all: ∀j,j<256→j=0∨(g3 j<255∧p3 (g3 j)=j):=by decide+kernel
theorem p3_box: ∀k,k<255→Gf.aff (p3 ((255-k)%255))=Gf.box (p3 k):=by decide+kernel
theorem aff_zero:Gf.aff 0=Gf.box 0:=by decide+kernel
theorem z255:(Tryz.prog.info? 194).map (·.zero)=some (some (.agg (row 255 (b8 fun _=>0)))):=by kernel_rfl
theorem z256:(Tryz.prog.info? 169).map (·.zero)=some (some (.agg (row 256 (b8 fun _=>0)))):=by kernel_rfl
theorem i256:(Tryz.prog.info? 169).map (·.size)=some 256:=by kernel_rfl
theorem i256' (f:Nat→Value):(Tryz.prog.info? 169).map (·.size)=some (row 256 f).size:=by rw[row_size];exact i256
theorem rmul (a b:Nat) (ha:a<256) (hb:b<256) (w:World):Calls Tryz.prog 119 #[.int .u8 a, .int .u8 b] w fun e w'=>e= .returned (.int .u8 (Gf.mul a b:Nat))∧w=w':=by
 rw[Gf.mul_ref a b ha hb];exact Gf.refMul_any a b ha hb w
theorem aff_still (b:Nat) (hb:b<256) (w:World):Calls Tryz.prog 140 #[.int .u8 b] w fun e w'=>e= .returned (.int .u8 (Gf.aff b:Nat))∧w'=w:=(Gf.affine_any b hb w).mono fun _ _ ⟨h1,h2⟩=>⟨h1,h2.symm⟩
def pre3 (k:Nat):Nat→Nat:=fun j=>if j<k then p3 j else 0
def Bx (k:Nat) (o:Nat→Nat):Prop:=o 0=Gf.box 0∧∀i,i<k→o (p3 i)=Gf.box (p3 i)
theorem Bx.step {k:Nat}{o:Nat→Nat} (h:Bx k o):Bx (k+1) (upd o (p3 k) (Gf.box (p3 k))):=by
 refine⟨?_,fun i hi=>?_⟩
 ·unfold upd
  by_cases h0:0=p3 k
  ·rw[if_pos h0,← h0]
  rw[if_neg h0,h.1]
 unfold upd
 by_cases h0:p3 i=p3 k
 ·rw[if_pos h0,h0]
 rw[if_neg h0]
 have:i≠k:=fun e=>h0 (by rw[e])
 exact h.2 i (by omega)
theorem Bx.all {o:Nat→Nat} (h:Bx 255 o) (j:Nat) (hj:j<256):o j=Gf.box j:=by
 rcases p3_all j hj with rfl | ⟨h1,h2⟩
 ·exact h.1
 have:=h.2 (g3 j) h1
 rwa[h2] at this
set_option maxRecDepth 100000 in
set_option maxHeartbeats 4000000 in
theorem boxes_any (w:World):Calls Tryz.prog 118 #[] w fun e w'=>e= .returned (.agg (row 256 (b8 Gf.box)))∧Below w.heap.size w w':=by
 go_enter Tryz.func118,Tryz.ntmps118
 go_wp2_with (first | (with_reducible refine wpl_alloc rfl 169 rfl _ z256 ?_) | (with_reducible refine wpl_alloc rfl 194 rfl _ z255 ?_))
 go_loopw [2,3] (fun x i wr=> ∃(k:Nat),k≤255∧x= .int .u8 (p3 k:Nat)∧i= .int .i64 k∧Blk wr w.heap.size 169 (row 256 (b8 fun _=>0))∧Blk wr (w.heap.size+1) 194 (row 255 (b8 (pre3 k)))∧Below w.heap.size w wr∧Hid (wr.heap.size=w.heap.size+2)) (fun _ i _=>255-(intOf i).toNat)
 case atStart=>
  refine⟨0,by omega,rfl,rfl,(Blk.fresh _ _ _).alloc _,?_,((Below.refl _ _).alloc (Nat.le_refl _) _).alloc (by simp) _,hid (by simp)⟩
  have:=Blk.fresh (w.alloc (.cells (row 256 (b8 fun _=>0)) 169)) 194 (row 255 (b8 fun _=>0))
  rw[row_b8_ext (f:=pre3 0) (g:=fun _=>0) (fun j _=>by unfold pre3;rw[if_neg (by omega)])]
  simpa using this
 case round=>
  obtain⟨k,hk,rfl,rfl,hb1,hb2,hB,HZ⟩:=hrel
  by_cases hlt:k<255
  ·have hp:=p3_lt k (by omega)
   have Hs:=hid (p3_step k hlt)
   go_wp2_with (first
    | (with_reducible refine wpl_at rfl 194 _ _ rfl _ rfl .i64 _ rfl k rfl 255 5 Tryz.underlying194 hlt i8 ?_)
    | (with_reducible refine wpl_st rfl 5 _ _ rfl _ rfl .u8 _ rfl i8 _ (hb2.val k hlt) (hb2.free k) ?_))
   refine(rmul _ 3 hp (by omega) _).mono ?_
   rintro e w' ⟨rfl,rfl⟩
   rw[← Hs.out]
   go_wp2_with fail
   go_round
   case rel=>
    refine⟨k+1,by omega,rfl,val_int (by omega),hb1.other _ _ (by simp),?_,hB.setCell (by simp) _,hid (by simpa using HZ.out)⟩
    have:=hb2.put k (p3 k)
    rwa[row_b8_ext (f:=upd (pre3 k) k (p3 k)) (g:=pre3 (k+1)) (fun j _=>fill_step (F:=p3) (f:=fun _=>0) (fun j=>rfl) j)] at this
   case measure=>simp[intOf];omega
  obtain rfl:k=255:=by omega
  have hsz:=HZ.out
  go_wp2_with (first | (with_reducible refine wpl_alloc rfl 169 rfl _ z256 ?_))
  have hb1':=hb1.alloc (.cells (row 256 (b8 fun _=>0)) 169)
  have hb2':=hb2.alloc (.cells (row 256 (b8 fun _=>0)) 169)
  have hb3:=Blk.fresh wr 169 (row 256 (b8 fun _=>0))
  rw[hsz] at hb3
  have hB':=hB.alloc (by omega) (.cells (row 256 (b8 fun _=>0)) 169)
  clear hb1 hb2 hB hsz HZ
  generalize wr.alloc (.cells (row 256 (b8 fun _=>0)) 169)=w1 at*
  refine(Gf.affine_any 0 (by omega) _).mono ?_
  rintro e w' ⟨rfl,rfl⟩
  go_wp2_with (first
   | (with_reducible refine wpl_at rfl 169 _ _ rfl _ rfl .i64 _ rfl 0 rfl 256 5 Tryz.underlying169 (by omega) i8 ?_)
   | (with_reducible refine wpl_st rfl 5 _ _ rfl _ rfl .u8 _ rfl i8 _ (hb3.val 0 (by omega)) (hb3.free 0) ?_))
  go_loopw [5] (fun i wr=> ∃(k:Nat) (o:Nat→Nat),k≤255∧i= .int .i64 k∧Hid (Bx k o)∧Blk wr w.heap.size 169 (row 256 (b8 fun _=>0))∧Blk wr (w.heap.size+1) 194 (row 255 (b8 (pre3 255)))∧Blk wr (w.heap.size+2) 169 (row 256 (b8 o))∧Below w.heap.size w wr) (fun i _=>255-(intOf i).toNat)
  case atStart=>
   exact⟨0,upd (fun _=>0) 0 (Gf.aff 0),by omega,rfl,hid ⟨by rw[upd_same,aff_zero],fun i hi=>by omega⟩,hb1'.other _ _ (by simp),hb2'.other _ _ (by simp),hb3.put 0 _,hB'.setCell (by simp) _⟩
  case round=>
   clear hb1' hb2' hb3 hB'
   obtain⟨k,o,hk,rfl,HB,hb1,hb2,hb3,hB⟩:=hrel
   by_cases hlt:k<255
   ·have hp:=p3_lt k (by omega)
    have hq:(255-k)%255<255:=Nat.mod_lt _ (by omega)
    have hp2:=p3_lt ((255-k)%255) (by omega)
    have Hbox:=hid (p3_box k hlt)
    have v1:=hid (show pre3 255 k=p3 k by unfold pre3;rw[if_pos hlt])
    have v2:=hid (show pre3 255 ((255-k)%255)=p3 ((255-k)%255) by unfold pre3;rw[if_pos hq])
    go_wp2_with fail
    refine wp_region_still_tail 10 (by kernel_rfl) (by kernel_rfl) ?_
    simp only[List.take_succ_cons,List.take_zero,List.drop_succ_cons,List.drop_zero]
    change wpStill _ _ wr.drew (fun a'=>wpList _ _ _ _ a' wr.drew) _ _
    have hb1':Blk wr.drew w.heap.size 169 (row 256 (b8 fun _=>0)):=hb1
    have hb2':Blk wr.drew (w.heap.size+1) 194 (row 255 (b8 (pre3 255))):=hb2
    have hb3':Blk wr.drew (w.heap.size+2) 169 (row 256 (b8 o)):=hb3
    have hB':=hB.drew
    clear hb1 hb2 hb3 hB
    generalize wr.drew=w2 at*
    have hd1:=hb2'.val k hlt
    rw[v1.out] at hd1
    have hd2:=hb2'.val ((255-k)%255) hq
    rw[v2.out] at hd2
    have hw1:=wrap_i64 (255-(k:Int)) _ rfl (by omega) (by omega)
    have ht1:(255-(k:Int)).tmod 255=(255-(k:Int))%255:=Int.tmod_eq_emod_of_nonneg (by omega)
    repeat (first
     | (with_reducible refine wps_at rfl 194 _ _ rfl _ rfl .i64 _ rfl k rfl 255 5 Tryz.underlying194 hlt i8 ?_)
     | (with_reducible refine wps_at rfl 194 _ _ rfl _ rfl .i64 _ rfl ((255-k)%255) (by omega) 255 5 Tryz.underlying194 hq i8 ?_)
     | (with_reducible refine wps_at rfl 169 _ _ rfl _ rfl .u8 _ rfl (p3 k) rfl 256 5 Tryz.underlying169 hp i8 ?_)
     | (with_reducible refine wps_ld rfl 5 _ rfl _ rfl .u8 Tryz.underlying5 _ hd1 ?_)
     | (with_reducible refine wps_ld rfl 5 _ rfl _ rfl .u8 Tryz.underlying5 _ hd2 ?_)
     | still_step
     | still_call (aff_still _ hp2 _))
    refine wpStill_nil ?_
    clear hw1 ht1
    go_wp2_with (with_reducible refine wpl_st rfl 5 _ _ rfl _ rfl .u8 _ rfl i8 _ (hb3'.val _ hp) (hb3'.free _) ?_)
    go_round
    case rel=>
     rw[Hbox.out]
     exact⟨k+1,_,by omega,val_int (by omega),hid HB.out.step,hb1'.other _ _ (by simp),hb2'.other _ _ (by simp),hb3'.put _ _,hB'.setCell (by simp) _⟩
    case measure=>simp[intOf];omega
   obtain rfl:k=255:=by omega
   go_wp2_with (first
    | (with_reducible refine wpl_load rfl 169 _ rfl _ rfl 169 _ hb3 256 5 Tryz.underlying169 (i256' _) ?_)
    | (with_reducible refine wpl_store rfl 169 _ _ rfl _ _ rfl rfl 169 _ hb1 (i256' _) (by simp[row_size]) (one_b8 _ _) ?_))
   exact ret_row Tryz.results118 rfl w.heap.size rfl 169 256 _ (hb1.setRow _) 5 Tryz.underlying169 i256 ⟨ret_agg HB.out.all,below_setRow' hB (Nat.le_refl _) _⟩
end Go.Proofs.YtlmacfmfmjhidaaGreatDoor.Aes
namespace Go.Proofs.YtlmacfmfmjhidaaGreatDoor.Aes
open Go.ChangeShapes Go.WideShapes Go.ChangeAt Go.RowKit Mem
set_option maxRecDepth 100000 in
set_option maxHeartbeats 2000000 in
theorem same_yes (A A':Option Addr) (n c c':Nat) (f:Nat→Nat) (w:World) (hn:n≤100000) (hR:Reads w w.heap.size A n f) (hR':Reads w w.heap.size A' n f):
  Calls Tryz.prog 17 #[.slice A n c, .slice A' n c'] w fun e w'=>e= .returned (.bool true)∧Below w.heap.size w w':=by
 have HR:=hid hR
 have HR':=hid hR'
 clear hR hR'
 go_enter Tryz.func17,Tryz.ntmps17
 go_wp2_with fail
 go_loopw [5] (fun i wr=> ∃k:Nat,k≤n∧i= .int .i64 k∧Below w.heap.size w wr) (fun i _=>n-(intOf i).toNat)
 case atStart=>exact⟨0,by omega,rfl,Below.refl _ _⟩
 case round=>
  obtain⟨k,hk,rfl,hB⟩:=hrel
  by_cases hlt:k<n
  ·obtain⟨ad,rfl,hbl,hcs⟩:=HR.out (by omega)
   obtain⟨ad',rfl,hbl',hcs'⟩:=HR'.out (by omega)
   have hc:=(hB.cell (p:=ad.add k) (by rw[add_block];exact hbl)).trans (hcs k hlt)
   have hc':=(hB.cell (p:=ad'.add k) (by rw[add_block];exact hbl')).trans (hcs' k hlt)
   clear hcs hcs'
   go_wp2_with fail
   refine wp_region_still_lit (by kernel_rfl) (by kernel_rfl) ?_
   change wpStill _ _ wr.drew _ _ _
   have hd:wr.drew.cell? (ad.add (k*1))=some (.int .u8 ((f k:Nat):Int)):=by rw[Nat.mul_one];exact hc
   have hd':wr.drew.cell? (ad'.add (k*1))=some (.int .u8 ((f k:Nat):Int)):=by rw[Nat.mul_one];exact hc'
   clear hc hc'
   have hB':=hB.drew
   generalize hw2:wr.drew=w2 at*
   repeat (first
    | (with_reducible refine wps_sl rfl 22 _ _ rfl ad n c rfl .i64 _ rfl k rfl 5 Tryz.underlying22 hlt 1 i8 ?_)
    | (with_reducible refine wps_sl rfl 22 _ _ rfl ad' n c' rfl .i64 _ rfl k rfl 5 Tryz.underlying22 hlt 1 i8 ?_)
    | (with_reducible refine wps_ld rfl 5 _ rfl _ rfl .u8 Tryz.underlying5 _ hd ?_)
    | (with_reducible refine wps_ld rfl 5 _ rfl _ rfl .u8 Tryz.underlying5 _ hd' ?_)
    | still_step)
   refine wpStill_nil ?_
   go_wp2_with fail
   go_round
   case rel=>exact⟨k+1,by omega,val_int (by omega),hB'⟩
   case measure=>simp[intOf];omega
  go_wp2_with fail
  go_ret
  exact⟨rfl,hB⟩
end Go.Proofs.YtlmacfmfmjhidaaGreatDoor.Aes
namespace Go.Proofs.YtlmacfmfmjhidaaGreatDoor.Aes
open Go.ChangeShapes Go.WideShapes Go.ChangeAt Go.RowKit Mem
def NewBytes (n:Nat) (f:Nat→Nat) (w:World) (e:Ending) (w':World):Prop:= ∃A c,e= .returned (.slice A n c)∧n≤c∧Reads w' w'.heap.size A n f∧Below w.heap.size w w'
theorem row1 (f:Nat→Nat) (a:Int) (h:a=(f 0:Nat)): #[Value.int .u8 a]=row (1*1) (b8 f):=by
 subst h
 apply row_of (by rfl)
 intro i hi
 match i,hi with
 | 0,_=>rfl
 | n+1,h=>omega
end Go.Proofs.YtlmacfmfmjhidaaGreatDoor.Aes
namespace Go.Proofs.YtlmacfmfmjhidaaGreatDoor.Aes
open Go.ChangeShapes Go.WideShapes Go.ChangeAt Go.RowKit Mem
theorem infoA4:(Tryz.prog.info? 193).map (fun i=>(i.zero,i.size,i.bytes))=some (some (.agg (row 4 (b8 fun _=>0))),4,4):=by kernel_rfl
theorem bs4 (x y z u:Int) (w:World):(Instr.buildSlice 192 1 #[(0, .agg #[.int .u8 x, .int .u8 y, .int .u8 z, .int .u8 u])]).run Tryz.prog w= .ok (.slice (some ⟨w.heap.size,0,none⟩) 1 1) (w.alloc (.cells #[.int .u8 x, .int .u8 y, .int .u8 z, .int .u8 u] 193)):=by kernel_rfl
theorem bs4' (f:Nat→Nat) (w:World):(Instr.buildSlice 192 1 #[(0, .agg (row 4 (b8 f)))]).run Tryz.prog w= .ok (.slice (some ⟨w.heap.size,0,none⟩) 1 1) (w.alloc (.cells (row 4 (b8 f)) 193)):=by
 rw[← row4 f _ _ _ _ rfl rfl rfl rfl];exact bs4 _ _ _ _ w
theorem cat4 (f T:Nat→Nat) (F:Nat→Nat) (n:Nat) (h1: ∀i,i<n*4→f i=F i) (h2: ∀j,j<4→T j=F (n*4+j)): ∀i,i< (n+1)*4→cat (n*4) f T i=F i:=by
 intro i hi
 unfold cat
 by_cases h:i<n*4
 ·rw[if_pos h,h1 i h]
 rw[if_neg h,h2 (i-n*4) (by omega),show n*4+(i-n*4)=i by omega]
theorem cat41 (f T:Nat→Nat) (k:Nat) (h2: ∀j,j<4→T j=f (4*k+j)): ∀i,i< (4*k+4)*1→cat (4*k*1) f T i=f i:=by
 intro i hi
 unfold cat
 by_cases h:i<4*k*1
 ·rw[if_pos h]
 rw[if_neg h,h2 (i-4*k*1) (by omega),show 4*k+(i-4*k*1)=i by omega]
theorem bsB4 (x y z u:Int) (w:World):(Instr.buildSlice 22 4 #[(0, .int .u8 x),(1, .int .u8 y),(2, .int .u8 z),(3, .int .u8 u)]).run Tryz.prog w= .ok (.slice (some ⟨w.heap.size,0,none⟩) 4 4) (w.alloc (.cells #[.int .u8 x, .int .u8 y, .int .u8 z, .int .u8 u] 5)):=by kernel_rfl
theorem wp_bsB4 {o:Oper}{a:Act}{w:World}{K:Act→World→Prop}{Q:Exit→Act→World→Prop} (p q r s:Operand) (ho:o.op= .buildSlice 22 4 #[(0,p),(1,q),(2,r),(3,s)]) (f:Nat→Nat) (x y z u:Int)
  (hp:a.eval p= .int .u8 x) (hq:a.eval q= .int .u8 y) (hr:a.eval r= .int .u8 z) (hs:a.eval s= .int .u8 u) (h0:x=(f 0:Nat)) (h1:y=(f 1:Nat)) (h2:z=(f 2:Nat)) (h3:u=(f 3:Nat))
  (h:K (a.put o.dst (.slice (some ⟨w.heap.size,0,none⟩) 4 4)) (w.alloc (.cells (row 4 (b8 f)) 5))):o.wp Tryz.prog a w K Q:=by
 rw[← row4 f x y z u h0 h1 h2 h3] at h
 unfold Oper.wp execOp
 simp only[ho,List.map_toArray,List.map_cons,List.map_nil,hp,hq,hr,hs,bsB4,Sem.run_bind,Sem.run_pure,Result.andThen_ok]
 exact h
theorem cs41 (T:Nat→Nat):row 4 (b8 T)=row (4*1) (b8 T):=rfl
theorem hz4:(Value.agg (row 4 (b8 fun _=>0))).cells.size=4:=by simp[Value.cells,row_size]
theorem cs14 (T:Nat→Nat):row 4 (b8 T)=row (1*4) (b8 T):=rfl
theorem ex_old (L:Nat) (key:Nat→Nat) (t i:Nat) (h:i<L+4*t):ex L key t i=ex L key (t+1) i:=by
 show _=if L+4*t≤i∧i<L+4*t+4 then _ else ex L key t i
 rw[if_neg (by omega)]
theorem ex_new (L:Nat) (key:Nat→Nat) (t j:Nat) (hj:j<4):ex L key (t+1) (L+4*t+j)=ex L key t (4*t+j) ^^^ nw L (ex L key t) t j:=by
 show(if L+4*t≤L+4*t+j∧L+4*t+j<L+4*t+4 then _ else _)=_
 rw[if_pos (by omega),show L+4*t+j-L=4*t+j by omega,show L+4*t+j-(L+4*t)=j by omega]
end Go.Proofs.YtlmacfmfmjhidaaGreatDoor.Aes
