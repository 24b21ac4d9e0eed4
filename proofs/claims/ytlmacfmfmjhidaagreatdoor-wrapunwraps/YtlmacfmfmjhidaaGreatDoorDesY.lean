/-
 DesBlock DesKeys DesRev3 DesTriple
-/
import Derived.Test.YtlmacfmfmjhidaaGreatDoorDesX
import Derived.Test.YtlmacfmfmjhidaaGreatDoorConcat
import Derived.RegionTactic
import Derived.BigRegion
namespace Go.Proofs.YtlmacfmfmjhidaaGreatDoor.Des
open Go.ChangeShapes Go.WideShapes Go.ChangeAt Go.RowKit Mem
theorem or_32 (a b:Nat) (ha:a<2^32) (hb:b<2^32):bits .or .u64 ((a:Int)*4294967296) (b:Int)=((a*2^32+b:Nat):Int):=by
 rw[show(a:Int)*4294967296=((a*2^32:Nat):Int) by omega,u64_or_nat _ _ (by omega) (by omega),or_add 32 _ _ hb]
theorem rounds_lt (n r:Nat):rounds n r<281474976710656:=pk_lt _ _ _ _
set_option maxRecDepth 100000 in
set_option maxHeartbeats 4000000 in
theorem block_fwd (f b:Nat→Nat) (hf:By8 f) (hb:By8 b) (w:World):
  Calls Tryz.prog 153 #[.agg (row 8 (b8 f)), .agg (row 8 (b8 b)), .bool false] w fun e w'=>e= .returned (.agg (row 8 (b8 (des f b false))))∧Below w.heap.size w w':=by
 have Hf:=hid hf
 have Hb:=hid hb
 clear hf hb
 have hb1:=((Blk.fresh w 174 (row 8 (b8 f))).alloc (.cells (row 8 (b8 b)) 174)).alloc (.cells (row 8 (b8 fun _=>0)) 174)
 have hb2:=(two_new w (.cells (row 8 (b8 f)) 174) (row 8 (b8 b)) 174).alloc (.cells (row 8 (b8 fun _=>0)) 174)
 have hb3:Blk (((w.alloc (.cells (row 8 (b8 f)) 174)).alloc (.cells (row 8 (b8 b)) 174)).alloc (.cells (row 8 (b8 fun _=>0)) 174)) (w.heap.size+2) 174 (row 8 (b8 fun _=>0)):=by simpa using Blk.fresh ((w.alloc (.cells (row 8 (b8 f)) 174)).alloc (.cells (row 8 (b8 b)) 174)) 174 (row 8 (b8 fun _=>0))
 have hB3:Below w.heap.size w (((w.alloc (.cells (row 8 (b8 f)) 174)).alloc (.cells (row 8 (b8 b)) 174)).alloc (.cells (row 8 (b8 fun _=>0)) 174)):=(((Below.refl _ _).alloc (Nat.le_refl _) _).alloc (by simp) _).alloc (by simp;omega) _
 go_enter Tryz.func153,Tryz.ntmps153
 go_wp2_with (first
  | (with_reducible refine wpl_alloc rfl 174 rfl _ z8 ?_)
  | (with_reducible refine wpl_load rfl 174 _ rfl _ rfl 174 _ hb1 8 5 Tryz.underlying174 (i8a' _) ?_))
 refine(rounds_any f Hf.out _).mono ?_
 rintro e w1 ⟨rfl,hB4⟩
 have hb2a:=(hb2.below hB4 hb2.lt).alloc (.cells (row 16 (iv .u64 (rounds (num f 8)))) 224)
 have hb3a:=(hb3.below hB4 hb3.lt).alloc (.cells (row 16 (iv .u64 (rounds (num f 8)))) 224)
 have hB4a:=hB3.trans (hB4.mono hB3.size)
 have hB5a:=hB4a.alloc hB4a.size (.cells (row 16 (iv .u64 (rounds (num f 8)))) 224)
 have hba:=Blk.fresh w1 224 (row 16 (iv .u64 (rounds (num f 8))))
 have hg:w.heap.size+2<w1.heap.size:=by have:=hb3.lt;have:=hB4.size;omega
 clear hb1 hb2 hb3 hB3 hB4 hB4a
 go_wp2_with (first
  | (with_reducible refine wpl_alloc rfl 224 rfl _ zR16 ?_)
  | (with_reducible refine wpl_store_newi rfl 224 _ _ rfl w1 _ 16 _ (fun _=>rfl) rfl rfl 224 iR16 (row_size _ _) ?_)
  | (with_reducible refine wpl_load rfl 174 _ rfl _ rfl 174 _ hb2a 8 5 Tryz.underlying174 (i8a' _) ?_))
 have hb7:=hba
 have hb2b:=hb2a
 have hb3b:=hb3a
 have hBb:=hB5a
 clear hb2a hb3a hB5a hba
 generalize w1.alloc (.cells (row 16 (iv .u64 (rounds (num f 8)))) 224)=w2 at*
 generalize w1.heap.size=g at*
 have HK:Hid (∀i,i<16→kk f false i=(rounds (num f 8)) i):=hid (fun _ _=>rfl)
 have HKl:Hid (∀i,(rounds (num f 8)) i<281474976710656):=hid (fun _=>rounds_lt _ _)
 generalize hKe:(rounds (num f 8))=K at*
 clear hKe
 refine(num_any b Hb.out _).mono ?_
 rintro e w3 ⟨rfl,hB8⟩
 have hb7c:=hb7.below hB8 hb7.lt
 have hb3c:=hb3b.below hB8 hb3b.lt
 have hBc:=hBb.trans (hB8.mono hBb.size)
 clear hb7 hb3b hBb hB8 hb2b
 go_wp2_with fail
 refine(pick_any _ 64 ip (by decide+kernel) _ 64 (num_lt64 Hb.out) (by omega) (by omega) (fun i hi=>(ip_range i hi).2) _).mono ?_
 rintro e w4 ⟨rfl,q,rfl⟩
 have hb7d:=hb7c.drewN q
 have hb3d:=hb3c.drewN q
 have hBd:=below_drewN hBc q
 clear hb7c hb3c hBc
 generalize w3.drewN q=w4 at*
 have hP:pk ip 64 (num b 8) 64<18446744073709551616:=pk_lt ip 64 (num b 8) 64
 have HX:Hid (∀J:Nat→Nat,blk J (num b 8)=fin (fe J (pk ip 64 (num b 8) 64/4294967296) (pk ip 64 (num b 8) 64%4294967296) 16)):=hid (fun _=>rfl)
 generalize pk ip 64 (num b 8) 64=B at*
 have HF:=hid (fun i=>fe_lt K (l:=B/4294967296) (r:=B%4294967296) (by omega) (by omega) i)
 go_wp2_with (with_reducible refine wpl_load rfl 224 _ rfl _ rfl 224 _ hb7d 16 181 Tryz.underlying224 (iR16' _) ?_)
 go_loopw [9,10,27] (fun l r i wr=> ∃(k:Nat),k≤16∧l= .int .u32 ((fe K (B/4294967296) (B%4294967296) k).1:Nat)∧r= .int .u32 ((fe K (B/4294967296) (B%4294967296) k).2:Nat)∧i= .int .i64 k∧Blk wr (w.heap.size+2) 174 (row 8 (b8 fun _=>0))∧Below w.heap.size w wr) (fun _ _ i _=>16-(intOf i).toNat)
 case atStart=>exact⟨0,by omega,val_int (by rw[fe];omega),val_int (by rw[fe];omega),rfl,hb3d,hBd⟩
 case round=>
  clear hb7d hb3d hBd
  obtain⟨k,hk,rfl,rfl,rfl,hb3,hB⟩:=hrel
  by_cases hlt:k<16
  ·obtain⟨hl1,hr1⟩:=HF.out k
   have hr1':(fe K (B/4294967296) (B%4294967296) k).2<4294967296:=hr1
   have hkk:=HKl.out k
   have hff:=ff_lt (fe K (B/4294967296) (B%4294967296) k).2 (K k)
   have Hx:=hid (u32_xor_nat _ _ hl1 hff)
   have H1:Hid ((fe K (B/4294967296) (B%4294967296) (k+1)).1=(fe K (B/4294967296) (B%4294967296) k).2):=hid rfl
   have H2:Hid ((fe K (B/4294967296) (B%4294967296) (k+1)).2=(fe K (B/4294967296) (B%4294967296) k).1 ^^^ ff (fe K (B/4294967296) (B%4294967296) k).2 (K k)):=hid rfl
   generalize (fe K (B/4294967296) (B%4294967296) k).1=l1 at*
   generalize (fe K (B/4294967296) (B%4294967296) k).2=r1 at*
   go_wp2_with (with_reducible refine wpl_index rfl 224 _ _ rfl _ rfl .i64 _ rfl k rfl 16 181 Tryz.underlying224 hlt .u64 Tryz.underlying181 iU64 _ (iv_get .u64 16 K k hlt) ?_)
   refine(mixed_any r1 (K k) hr1' hkk _).mono ?_
   rintro e w5 ⟨rfl,hB5⟩
   have hb3':=hb3.below hB5 hb3.lt
   have hB':=hB.trans (hB5.mono hB.size)
   clear hb3 hB hB5
   go_wp2_with fail
   exact⟨⟨k+1,by omega,val_int (by rw[H1.out]),val_int (by rw[Hx.out,H2.out]),val_int (by omega),hb3',hB'⟩,by simp[intOf];omega⟩
  obtain⟨hl1,hr1⟩:=HF.out k
  have Hk:Hid (k=16):=hid (by omega)
  have Hor:=hid (or_32 _ _ hr1 hl1)
  have Hfin:Hid (fin (fe K (B/4294967296) (B%4294967296) k)=up ip 64 ((fe K (B/4294967296) (B%4294967296) k).2*2^32+(fe K (B/4294967296) (B%4294967296) k).1) 64):=hid rfl
  have Hdes:Hid (des f b false=byt (fin (fe K (B/4294967296) (B%4294967296) k))):=hid (by
   show byt (blk (kk f false) (num b 8))=_
   rw[blk_ext _ HK.out,HX.out,Hk.out])
  have hfl:fin (fe K (B/4294967296) (B%4294967296) k)<18446744073709551616:=up_lt _
  have hsum:(fe K (B/4294967296) (B%4294967296) k).2*2^32+(fe K (B/4294967296) (B%4294967296) k).1<18446744073709551616:=by omega
  generalize (fe K (B/4294967296) (B%4294967296) k).1=l1 at*
  generalize (fe K (B/4294967296) (B%4294967296) k).2=r1 at*
  generalize fin (fe K (B/4294967296) (B%4294967296) k)=F at*
  go_wp2_with fail
  rw[Hor.out]
  refine(unpick_any _ (by decide+kernel) _ hsum _).mono ?_
  rintro e w5 ⟨rfl,q2,rfl⟩
  rw[← Hfin.out]
  have hb3':=hb3.drewN q2
  have hB':=below_drewN hB q2
  clear hb3 hB
  generalize wr.drewN q2=w6 at*
  go_wp2_with fail
  refine(byt_any F hfl _).mono ?_
  rintro e w7 ⟨rfl,hB7⟩
  have hb4:=hb3'.below hB7 hb3'.lt
  have hB8:=hB'.trans (hB7.mono hB'.size)
  clear hb3' hB' hB7
  go_wp2_with (with_reducible refine wpl_store rfl 174 _ _ rfl _ _ rfl rfl 174 _ hb4 (i8a' _) (by simp[row_size]) (one_b8 _ _) ?_)
  exact ret_row Tryz.results153 rfl (w.heap.size+2) rfl 174 8 _ (hb4.setRow _) 5 Tryz.underlying174 i8a ⟨by rw[Hdes.out],below_setRow' hB8 (by omega) _⟩
set_option maxRecDepth 100000 in
set_option maxHeartbeats 4000000 in
theorem block_bwd (f b:Nat→Nat) (hf:By8 f) (hb:By8 b) (w:World):
  Calls Tryz.prog 153 #[.agg (row 8 (b8 f)), .agg (row 8 (b8 b)), .bool true] w fun e w'=>e= .returned (.agg (row 8 (b8 (des f b true))))∧Below w.heap.size w w':=by
 have Hf:=hid hf
 have Hb:=hid hb
 clear hf hb
 have hb1:=((Blk.fresh w 174 (row 8 (b8 f))).alloc (.cells (row 8 (b8 b)) 174)).alloc (.cells (row 8 (b8 fun _=>0)) 174)
 have hb2:=(two_new w (.cells (row 8 (b8 f)) 174) (row 8 (b8 b)) 174).alloc (.cells (row 8 (b8 fun _=>0)) 174)
 have hb3:Blk (((w.alloc (.cells (row 8 (b8 f)) 174)).alloc (.cells (row 8 (b8 b)) 174)).alloc (.cells (row 8 (b8 fun _=>0)) 174)) (w.heap.size+2) 174 (row 8 (b8 fun _=>0)):=by simpa using Blk.fresh ((w.alloc (.cells (row 8 (b8 f)) 174)).alloc (.cells (row 8 (b8 b)) 174)) 174 (row 8 (b8 fun _=>0))
 have hB3:Below w.heap.size w (((w.alloc (.cells (row 8 (b8 f)) 174)).alloc (.cells (row 8 (b8 b)) 174)).alloc (.cells (row 8 (b8 fun _=>0)) 174)):=(((Below.refl _ _).alloc (Nat.le_refl _) _).alloc (by simp) _).alloc (by simp;omega) _
 go_enter Tryz.func153,Tryz.ntmps153
 go_wp2_with (first
  | (with_reducible refine wpl_alloc rfl 174 rfl _ z8 ?_)
  | (with_reducible refine wpl_load rfl 174 _ rfl _ rfl 174 _ hb1 8 5 Tryz.underlying174 (i8a' _) ?_))
 refine(rounds_any f Hf.out _).mono ?_
 rintro e w1 ⟨rfl,hB4⟩
 have hb2a:=(hb2.below hB4 hb2.lt).alloc (.cells (row 16 (iv .u64 (rounds (num f 8)))) 224)
 have hb3a:=(hb3.below hB4 hb3.lt).alloc (.cells (row 16 (iv .u64 (rounds (num f 8)))) 224)
 have hB4a:=hB3.trans (hB4.mono hB3.size)
 have hB5a:=hB4a.alloc hB4a.size (.cells (row 16 (iv .u64 (rounds (num f 8)))) 224)
 have hba:=Blk.fresh w1 224 (row 16 (iv .u64 (rounds (num f 8))))
 have hg:w.heap.size+2<w1.heap.size:=by have:=hb3.lt;have:=hB4.size;omega
 clear hb1 hb2 hb3 hB3 hB4 hB4a
 go_wp2_with (first
  | (with_reducible refine wpl_alloc rfl 224 rfl _ zR16 ?_)
  | (with_reducible refine wpl_store_newi rfl 224 _ _ rfl w1 _ 16 _ (fun _=>rfl) rfl rfl 224 iR16 (row_size _ _) ?_)
  | (with_reducible refine wpl_load rfl 174 _ rfl _ rfl 174 _ hb2a 8 5 Tryz.underlying174 (i8a' _) ?_))
 refine(rev_any _ _ _ hba).mono ?_
 rintro e w2 ⟨rfl,hb7,hO⟩
 have hb2b:=hO.blk hb2a (by omega)
 have hb3b:=hO.blk hb3a (by omega)
 have hBb:=hB5a.trans (hO.below (B:=w.heap.size) (by omega))
 clear hb2a hb3a hB5a hba hO
 generalize w1.heap.size=g at*
 go_wp2_with (with_reducible refine wpl_load rfl 174 _ rfl _ rfl 174 _ hb2b 8 5 Tryz.underlying174 (i8a' _) ?_)
 have HK:Hid (∀i,i<16→kk f true i=(fun i=>rounds (num f 8) (15-i)) i):=hid (fun _ _=>rfl)
 have HKl:Hid (∀i,(fun i=>rounds (num f 8) (15-i)) i<281474976710656):=hid (fun _=>rounds_lt _ _)
 generalize hKe:(fun i=>rounds (num f 8) (15-i))=K at*
 clear hKe
 refine(num_any b Hb.out _).mono ?_
 rintro e w3 ⟨rfl,hB8⟩
 have hb7c:=hb7.below hB8 hb7.lt
 have hb3c:=hb3b.below hB8 hb3b.lt
 have hBc:=hBb.trans (hB8.mono hBb.size)
 clear hb7 hb3b hBb hB8 hb2b
 go_wp2_with fail
 refine(pick_any _ 64 ip (by decide+kernel) _ 64 (num_lt64 Hb.out) (by omega) (by omega) (fun i hi=>(ip_range i hi).2) _).mono ?_
 rintro e w4 ⟨rfl,q,rfl⟩
 have hb7d:=hb7c.drewN q
 have hb3d:=hb3c.drewN q
 have hBd:=below_drewN hBc q
 clear hb7c hb3c hBc
 generalize w3.drewN q=w4 at*
 have hP:pk ip 64 (num b 8) 64<18446744073709551616:=pk_lt ip 64 (num b 8) 64
 have HX:Hid (∀J:Nat→Nat,blk J (num b 8)=fin (fe J (pk ip 64 (num b 8) 64/4294967296) (pk ip 64 (num b 8) 64%4294967296) 16)):=hid (fun _=>rfl)
 generalize pk ip 64 (num b 8) 64=B at*
 have HF:=hid (fun i=>fe_lt K (l:=B/4294967296) (r:=B%4294967296) (by omega) (by omega) i)
 go_wp2_with (with_reducible refine wpl_load rfl 224 _ rfl _ rfl 224 _ hb7d 16 181 Tryz.underlying224 (iR16' _) ?_)
 go_loopw [9,10,27] (fun l r i wr=> ∃(k:Nat),k≤16∧l= .int .u32 ((fe K (B/4294967296) (B%4294967296) k).1:Nat)∧r= .int .u32 ((fe K (B/4294967296) (B%4294967296) k).2:Nat)∧i= .int .i64 k∧Blk wr (w.heap.size+2) 174 (row 8 (b8 fun _=>0))∧Below w.heap.size w wr) (fun _ _ i _=>16-(intOf i).toNat)
 case atStart=>exact⟨0,by omega,val_int (by rw[fe];omega),val_int (by rw[fe];omega),rfl,hb3d,hBd⟩
 case round=>
  clear hb7d hb3d hBd
  obtain⟨k,hk,rfl,rfl,rfl,hb3,hB⟩:=hrel
  by_cases hlt:k<16
  ·obtain⟨hl1,hr1⟩:=HF.out k
   have hr1':(fe K (B/4294967296) (B%4294967296) k).2<4294967296:=hr1
   have hkk:=HKl.out k
   have hff:=ff_lt (fe K (B/4294967296) (B%4294967296) k).2 (K k)
   have Hx:=hid (u32_xor_nat _ _ hl1 hff)
   have H1:Hid ((fe K (B/4294967296) (B%4294967296) (k+1)).1=(fe K (B/4294967296) (B%4294967296) k).2):=hid rfl
   have H2:Hid ((fe K (B/4294967296) (B%4294967296) (k+1)).2=(fe K (B/4294967296) (B%4294967296) k).1 ^^^ ff (fe K (B/4294967296) (B%4294967296) k).2 (K k)):=hid rfl
   generalize (fe K (B/4294967296) (B%4294967296) k).1=l1 at*
   generalize (fe K (B/4294967296) (B%4294967296) k).2=r1 at*
   go_wp2_with (with_reducible refine wpl_index rfl 224 _ _ rfl _ rfl .i64 _ rfl k rfl 16 181 Tryz.underlying224 hlt .u64 Tryz.underlying181 iU64 _ (iv_get .u64 16 K k hlt) ?_)
   refine(mixed_any r1 (K k) hr1' hkk _).mono ?_
   rintro e w5 ⟨rfl,hB5⟩
   have hb3':=hb3.below hB5 hb3.lt
   have hB':=hB.trans (hB5.mono hB.size)
   clear hb3 hB hB5
   go_wp2_with fail
   exact⟨⟨k+1,by omega,val_int (by rw[H1.out]),val_int (by rw[Hx.out,H2.out]),val_int (by omega),hb3',hB'⟩,by simp[intOf];omega⟩
  obtain⟨hl1,hr1⟩:=HF.out k
  have Hk:Hid (k=16):=hid (by omega)
  have Hor:=hid (or_32 _ _ hr1 hl1)
  have Hfin:Hid (fin (fe K (B/4294967296) (B%4294967296) k)=up ip 64 ((fe K (B/4294967296) (B%4294967296) k).2*2^32+(fe K (B/4294967296) (B%4294967296) k).1) 64):=hid rfl
  have Hdes:Hid (des f b true=byt (fin (fe K (B/4294967296) (B%4294967296) k))):=hid (by
   show byt (blk (kk f true) (num b 8))=_
   rw[blk_ext _ HK.out,HX.out,Hk.out])
  have hfl:fin (fe K (B/4294967296) (B%4294967296) k)<18446744073709551616:=up_lt _
  have hsum:(fe K (B/4294967296) (B%4294967296) k).2*2^32+(fe K (B/4294967296) (B%4294967296) k).1<18446744073709551616:=by omega
  generalize (fe K (B/4294967296) (B%4294967296) k).1=l1 at*
  generalize (fe K (B/4294967296) (B%4294967296) k).2=r1 at*
  generalize fin (fe K (B/4294967296) (B%4294967296) k)=F at*
  go_wp2_with fail
  rw[Hor.out]
  refine(unpick_any _ (by decide+kernel) _ hsum _).mono ?_
  rintro e w5 ⟨rfl,q2,rfl⟩
  rw[← Hfin.out]
  have hb3':=hb3.drewN q2
  have hB':=below_drewN hB q2
  clear hb3 hB
  generalize wr.drewN q2=w6 at*
  go_wp2_with fail
  refine(byt_any F hfl _).mono ?_
  rintro e w7 ⟨rfl,hB7⟩
  have hb4:=hb3'.below hB7 hb3'.lt
  have hB8:=hB'.trans (hB7.mono hB'.size)
  clear hb3' hB' hB7
  go_wp2_with (with_reducible refine wpl_store rfl 174 _ _ rfl _ _ rfl rfl 174 _ hb4 (i8a' _) (by simp[row_size]) (one_b8 _ _) ?_)
  exact ret_row Tryz.results153 rfl (w.heap.size+2) rfl 174 8 _ (hb4.setRow _) 5 Tryz.underlying174 i8a ⟨by rw[Hdes.out],below_setRow' hB8 (by omega) _⟩
theorem block_any (f b:Nat→Nat) (back:Bool) (hf:By8 f) (hb:By8 b) (w:World):
  Calls Tryz.prog 153 #[.agg (row 8 (b8 f)), .agg (row 8 (b8 b)), .bool back] w fun e w'=>e= .returned (.agg (row 8 (b8 (des f b back))))∧Below w.heap.size w w':=by
 cases back
 ·exact block_fwd f b hf hb w
 exact block_bwd f b hf hb w
end Go.Proofs.YtlmacfmfmjhidaaGreatDoor.Des
namespace Go.Proofs.YtlmacfmfmjhidaaGreatDoor.Des
open Go.ChangeShapes Go.WideShapes Go.ChangeAt Go.RowKit Mem
section
variable {P:Program}{o:Oper}{a:Act}{w:World}
theorem exec_loadR (ty:TypeId) (x:Operand) (ho:o.op= .load ty x) (p:Addr) (hx:a.eval x= .pointer (some p)) (n:Nat) (f:Nat→Nat) (hc: ∀i,i<n→w.cell? (p.add i)=some (.int .u8 ((f i:Nat):Int)))
  (e:TypeId) (hu:P.underlying ty=some (.array n e)) (hi:(P.info? ty).map (·.size)=some n):(execOp a.eval o).run P w= .ok (.value (.agg (row n (b8 f)))) w:=by
 have h:=run_loadCells (P:=P) w p n (b8 f) hc
 have e1:((List.range n).map (b8 f)).toArray=row n (b8 f):=by
  apply row_of (by simp)
  intro i hi
  simp[hi,b8]
 rw[e1] at h
 unfold execOp
 simp[ho,hx,Instr.loadAt,Instr.sureAddr,loadVar,isAgg,run_underlying hu,run_size hi,h]
theorem exec_arr (ty:TypeId) (x:Operand) (ho:o.op= .sliceToArrayPointer ty x) (p:Addr) (L c:Nat) (hx:a.eval x= .slice (some p) L c) (n:Nat) (e:TypeId) (hu:P.underlying ty=some (.array n e)) (hL:n≤L):
  (execOp a.eval o).run P w= .ok (.value (.pointer (some p))) w:=by
 unfold execOp
 simp[ho,hx,Instr.arrayAt,run_underlying hu,show¬L<n by omega]
end
def three (L:Nat) (key:Nat→Nat):Nat→Nat:=fun i=>tkey L key (i/8) (i%8)
theorem z83:(Tryz.prog.info? 202).map (·.zero)=some (some (.agg (row 24 (b8 fun _=>0)))):=by kernel_rfl
theorem i83:(Tryz.prog.info? 202).map (·.size)=some 24:=by kernel_rfl
theorem i83' (f:Nat→Value):(Tryz.prog.info? 202).map (·.size)=some (row 24 f).size:=by rw[row_size];exact i83
theorem built83 (f0 f1 f2:Nat→Nat):Tryz.prog.built 202 [(0, .agg (row 8 (b8 f0))),(1, .agg (row 8 (b8 f1))),(2, .agg (row 8 (b8 f2)))]=some (row 24 (b8 fun i=>if i<8 then f0 i else if i<16 then f1 (i-8) else f2 (i-16))):=by kernel_rfl
theorem add_off (a:Addr) (k i:Nat):(⟨a.block,a.off+(k+1),none⟩:Addr).add i=(a.add (k+1)).add i:=by simp[Addr.add]
theorem exec_build {P:Program}{o:Oper}{a:Act}{w:World} (ty:TypeId) (l:List (Nat×Operand)) (ho:o.op= .build ty l.toArray) (cs:Array Value) (hb:P.built ty (l.map fun p=>(p.1,a.eval p.2))=some cs):
  (execOp a.eval o).run P w= .ok (.value (.agg cs)) w:=by
 have e:=run_build (P:=P) w ty (l.map fun p=>(p.1,a.eval p.2)).toArray cs hb
 unfold execOp
 simp only[ho,List.map_toArray,e,Sem.run_bind,Sem.run_pure,Result.andThen_ok]
theorem wps_build {P:Program}{ops:Array Oper}{rest:List Oper}{o:Oper}{a:Act}{w:World}{Q:Act→Prop} (hgd:o.guard=none) (ty:TypeId) (l:List (Nat×Operand)) (ho:o.op= .build ty l.toArray) (cs:Array Value) (hb:P.built ty (l.map fun p=>(p.1,a.eval p.2))=some cs)
  (h:wpStill P ops w Q rest (a.put o.dst (.agg cs))):wpStill P ops w Q (o::rest) a:=wps_val hgd _ (exec_build ty l ho cs hb) h
theorem ret_row_tmp2 {P:Program}{fn:Func}{p q:Tmp}{ty:TypeId}{R:Ending→World→Prop}{a:Act}{w:World} (h:fn.results=#[.cell p ty, .tmp q]) (hd:a.defers=[]) (g:Nat) (hp:a.tmps.getD p undef= .pointer (some ⟨g,0,none⟩)) (v:Value) (hq:a.tmps.getD q undef=v)
  (t:TypeId) (n:Nat) (c:Nat→Value) (hg:Blk w g t (row n c)) (m:Nat) (e:TypeId) (hu:P.underlying ty=some (.array m e)) (hi:(P.info? ty).map (·.size)=some n) (hR:R (.returned (.tuple #[.agg (row n c),v])) w):bodyPost P fn R .ret a w:=by
 refine bodyPost_ret ?_ hd hR
 have hl:=run_loadVar_row (P:=P) w g t ty (row n c) (0,0) _ hg hu rfl (by rw[row_size];exact hi)
 have hp':a.tmps[p]?.getD undef= .pointer (some ⟨g,0,none⟩):=by simpa using hp
 have hq':a.tmps[q]?.getD undef=v:=by simpa using hq
 simp[results,h,hp',hq',asAddr,hl]
theorem three_of24 (key:Nat→Nat) (i:Nat) (hi:i<24):(if i<8 then key i else if i<16 then key (8+(i-8)) else key (16+(i-16)))=three 24 key i:=by
 unfold three tkey
 simp only[show¬24=8 by omega,show¬24=16 by omega,if_false,show 8*(i/8)+i%8=i by omega]
 by_cases h:i<8
 ·rw[if_pos h]
 by_cases h2:i<16
 ·rw[if_neg h,if_pos h2,show 8+(i-8)=i by omega]
 rw[if_neg h,if_neg h2,show 16+(i-16)=i by omega]
set_option maxRecDepth 100000 in
set_option maxHeartbeats 2000000 in
theorem three24 (A:Option Addr) (c:Nat) (key:Nat→Nat) (w:World) (hc:24≤c) (hR:Reads w w.heap.size A 24 key):
  Calls Tryz.prog 151 #[.slice A 24 c] w fun e w'=>e= .returned (.tuple #[.agg (row 24 (b8 (three 24 key))), .bool true])∧Below w.heap.size w w':=by
 obtain⟨ad,rfl,had,hcell⟩:=hR (by omega)
 have hbW:=Blk.fresh w 202 (row 24 (b8 fun _=>0))
 have hBW:Below w.heap.size w (w.alloc (.cells (row 24 (b8 fun _=>0)) 202)):=(Below.refl _ _).alloc (Nat.le_refl _) _
 have HC:Hid (∀i,i<24→(w.alloc (.cells (row 24 (b8 fun _=>0)) 202)).cell? (ad.add i)=some (.int .u8 ((key i:Nat):Int))):=hid (fun i hi=>(hBW.cell (by rw[add_block];exact had)).trans (hcell i hi))
 clear hcell hR
 go_enter Tryz.func151,Tryz.ntmps151
 go_wp2_with (with_reducible refine wpl_alloc rfl 202 rfl _ z83 ?_)
 generalize w.alloc (.cells (row 24 (b8 fun _=>0)) 202)=w1 at*
 have t8:(8:Int)≤(c:Int):=by omega
 have t16:(16:Int)≤(c:Int):=by omega
 have t24:(24:Int)≤(c:Int):=by omega
 have n8: ¬c=8:=by omega
 have n16: ¬c=16:=by omega
 refine wp_region_still_tail 13 (by kernel_rfl) (by kernel_rfl) ?_
 simp only[List.take_succ_cons,List.take_zero,List.drop_succ_cons,List.drop_zero]
 change wpStill _ _ w1.drew (fun a'=>wpList _ _ _ _ a' w1.drew) _ _
 have hbz:=hbW.drew
 have hBz:=hBW.drew
 have HCz:Hid (∀i,i<24→w1.drew.cell? (ad.add i)=some (.int .u8 ((key i:Nat):Int))):=hid (fun i hi=>HC.out i hi)
 have hl0:=fun i (hi:i<8)=>HCz.out i (by omega)
 have hl1: ∀i,i<8→w1.drew.cell? ((⟨ad.block,ad.off+8,none⟩:Addr).add i)=some (.int .u8 ((key (8+i):Nat):Int)):=fun i hi=>by rw[add_off,add_add];exact HCz.out _ (by omega)
 have hl2: ∀i,i<8→w1.drew.cell? ((⟨ad.block,ad.off+16,none⟩:Addr).add i)=some (.int .u8 ((key (16+i):Nat):Int)):=fun i hi=>by rw[add_off,add_add];exact HCz.out _ (by omega)
 have Hl0:=hid hl0
 have Hl1:=hid hl1
 have Hl2:=hid hl2
 clear hbW hBW HC HCz hl0 hl1 hl2
 generalize w1.drew=wz at*
 repeat (first
  | (with_reducible refine wps_val rfl _ (exec_arr 174 _ rfl _ _ _ rfl 8 5 Tryz.underlying174 (by omega)) ?_)
  | (with_reducible refine wps_val rfl _ (exec_loadR 174 _ rfl ad rfl 8 _ Hl0.out 5 Tryz.underlying174 i8a) ?_)
  | (with_reducible refine wps_val rfl _ (exec_loadR 174 _ rfl ⟨ad.block,ad.off+8,none⟩ rfl 8 _ Hl1.out 5 Tryz.underlying174 i8a) ?_)
  | (with_reducible refine wps_val rfl _ (exec_loadR 174 _ rfl ⟨ad.block,ad.off+16,none⟩ rfl 8 _ Hl2.out 5 Tryz.underlying174 i8a) ?_)
  | ((with_reducible refine wps_build rfl 202 _ rfl (row 24 (b8 fun i=>if i<8 then key i else if i<16 then key (8+(i-8)) else key (16+(i-16)))) ?_ ?_);exact built83 key (fun i=>key (8+i)) (fun i=>key (16+i)))
  | still_step)
 refine wpStill_nil ?_
 go_wp2_with (with_reducible refine wpl_store rfl 202 _ _ rfl _ _ rfl rfl 202 _ hbz (i83' _) (by simp[row_size]) (one_b8 _ _) ?_)
 exact ret_row_tmp2 Tryz.results151 rfl w.heap.size rfl (.bool true) rfl 202 24 _ (hbz.setRow _) 3 174 Tryz.underlying202 i83 ⟨by rw[row_b8_ext (g:=three 24 key) (fun i hi=>three_of24 key i hi)],below_setRow' hBz (Nat.le_refl _) _⟩
theorem three_of16 (key:Nat→Nat) (i:Nat) (hi:i<24):(if i<8 then cat 16 key key i else if i<16 then cat 16 key key (8+(i-8)) else cat 16 key key (16+(i-16)))=three 16 key i:=by
 unfold three tkey cat
 simp only[show¬16=8 by omega,if_true,if_false,show 8*(i/8)+i%8=i by omega]
 by_cases h:i<8
 ·rw[if_pos h,if_pos (by omega),show i%16=i by omega]
 by_cases h2:i<16
 ·rw[if_neg h,if_pos h2,if_pos (by omega),show 8+(i-8)=i by omega,show i%16=i by omega]
 rw[if_neg h,if_neg h2,if_neg (by omega),show 16+(i-16)-16=i%16 by omega]
theorem three_of8 (key:Nat→Nat) (i:Nat) (hi:i<24):(if i<8 then cat 16 (cat 8 key key) (cat 8 key key) i else if i<16 then cat 16 (cat 8 key key) (cat 8 key key) (8+(i-8)) else cat 16 (cat 8 key key) (cat 8 key key) (16+(i-16)))=three 8 key i:=by
 unfold three tkey cat
 simp only[if_true]
 by_cases h:i<8
 ·rw[if_pos h,if_pos (by omega),if_pos (by omega),show i%8=i by omega]
 by_cases h2:i<16
 ·rw[if_neg h,if_pos h2,if_pos (by omega),if_neg (by omega),show 8+(i-8)-8=i%8 by omega]
 rw[if_neg h,if_neg h2,if_neg (by omega),if_pos (by omega),show 16+(i-16)-16=i%8 by omega]
theorem wpl_bs2 {P:Program}{ops:Array Oper}{rest:List Oper}{o:Oper}{a:Act}{w:World}{Q:Exit→Act→World→Prop} (hgd:o.guard=none) (t:TypeId) (x y:Operand) (ho:o.op= .buildSlice t 2 #[(0,x),(1,y)]) (v u:Value) (hx:a.eval x=v) (hy:a.eval y=u) (e:TypeId)
  (hr:(Instr.buildSlice t 2 #[(0,v),(1,u)]).run P w= .ok (.slice (some ⟨w.heap.size,0,none⟩) 2 2) (w.alloc (.cells #[v,u] e)))
  (h:wpList P ops Q rest (a.put o.dst (.slice (some ⟨w.heap.size,0,none⟩) 2 2)) (w.alloc (.cells #[v,u] e))):wpList P ops Q (o::rest) a w:=by
 refine wpList_plain hgd fun _ hK=>?_
 unfold Oper.wp execOp
 simp only[ho,List.map_toArray,List.map_cons,List.map_nil,hx,hy,hr,Sem.run_bind,Sem.run_pure,Result.andThen_ok]
 exact hK _ _ h
theorem bs2 (A B:Option Addr) (n m c d:Nat) (w:World):(Instr.buildSlice 126 2 #[(0, .slice A n c),(1, .slice B m d)]).run Tryz.prog w= .ok (.slice (some ⟨w.heap.size,0,none⟩) 2 2) (w.alloc (.cells #[.slice A n c, .slice B m d] 22)):=by kernel_rfl
set_option maxRecDepth 100000 in
set_option maxHeartbeats 2000000 in
theorem three16 (A:Option Addr) (c:Nat) (key:Nat→Nat) (w:World) (hc:16≤c) (hR:Reads w w.heap.size A 16 key):
  Calls Tryz.prog 151 #[.slice A 16 c] w fun e w'=>e= .returned (.tuple #[.agg (row 24 (b8 (three 16 key))), .bool true])∧Below w.heap.size w w':=by
 have hb1:=Blk.fresh w 202 (row 24 (b8 fun _=>0))
 have hB1:Below w.heap.size w (w.alloc (.cells (row 24 (b8 fun _=>0)) 202)):=(Below.refl _ _).alloc (Nat.le_refl _) _
 have hR1:=(hR.below hB1).more hB1.size
 have t8:(8:Int)≤(c:Int):=by omega
 obtain⟨ad,rfl,had,hcell⟩:=hR (by omega)
 have HR1:=hid hR1
 clear hR hcell hR1
 go_enter Tryz.func151,Tryz.ntmps151
 go_wp2_with (first
  | (with_reducible refine wpl_alloc rfl 202 rfl _ z83 ?_)
  | (with_reducible refine wpl_bs2 rfl 126 _ _ rfl (.slice (some ad) 16 c) (.slice (some ad) 8 c) rfl rfl 22 (bs2 _ _ _ _ _ _ _) ?_))
 have hbk:Blk ((w.alloc (.cells (row 24 (b8 fun _=>0)) 202)).alloc (.cells #[.slice (some ad) 16 c, .slice (some ad) 8 c] 22)) (w.heap.size+1) 22 #[.slice (some ad) 16 c, .slice (some ad) 8 c]:=by simpa using Blk.fresh (w.alloc (.cells (row 24 (b8 fun _=>0)) 202)) 22 #[.slice (some ad) 16 c, .slice (some ad) 8 c]
 have hb2:=hb1.alloc (.cells #[.slice (some ad) 16 c, .slice (some ad) 8 c] 22)
 have hB2:=hB1.alloc hB1.size (.cells #[.slice (some ad) 16 c, .slice (some ad) 8 c] 22)
 have hR2:=(HR1.out.below ((Below.refl _ (w.alloc (.cells (row 24 (b8 fun _=>0)) 202))).alloc (Nat.le_refl _) (.cells #[.slice (some ad) 16 c, .slice (some ad) 8 c] 22))).more (B':=((w.alloc (.cells (row 24 (b8 fun _=>0)) 202)).alloc (.cells #[.slice (some ad) 16 c, .slice (some ad) 8 c] 22)).heap.size) (by simp)
 refine(concat_any _ _ _ 16 8 _ _ key key (by omega) (by omega) (by omega) _ hbk hR2 (hR2.less (by omega))).mono ?_
 rintro e w3 ⟨A2,c2,rfl,hc2,hR3,hB3⟩
 have hbW:=hb2.below hB3 hb2.lt
 have hBW:=hB2.trans (hB3.mono hB2.size)
 clear hb1 hB1 hbk hb2 hB2 hR2 HR1
 clear hB3
 obtain⟨ad,rfl,had,hcell⟩:=hR3 (by omega)
 have HC:=hid (fun i (hi:i<24)=>hcell i (by omega))
 clear hcell hR3 t8
 go_wp2_with fail
 have t8:(8:Int)≤(c2:Int):=by omega
 have t16:(16:Int)≤(c2:Int):=by omega
 have t24:(24:Int)≤(c2:Int):=by omega
 have n8: ¬c2=8:=by omega
 have n16: ¬c2=16:=by omega
 refine wp_region_still_tail 13 (by kernel_rfl) (by kernel_rfl) ?_
 simp only[List.take_succ_cons,List.take_zero,List.drop_succ_cons,List.drop_zero]
 change wpStill _ _ w3.drew (fun a'=>wpList _ _ _ _ a' w3.drew) _ _
 have hbz:=hbW.drew
 have hBz:=hBW.drew
 have HCz:Hid (∀i,i<24→w3.drew.cell? (ad.add i)=some (.int .u8 (((cat 16 key key) i:Nat):Int))):=hid (fun i hi=>HC.out i hi)
 have hl0:=fun i (hi:i<8)=>HCz.out i (by omega)
 have hl1: ∀i,i<8→w3.drew.cell? ((⟨ad.block,ad.off+8,none⟩:Addr).add i)=some (.int .u8 (((cat 16 key key) (8+i):Nat):Int)):=fun i hi=>by rw[add_off,add_add];exact HCz.out _ (by omega)
 have hl2: ∀i,i<8→w3.drew.cell? ((⟨ad.block,ad.off+16,none⟩:Addr).add i)=some (.int .u8 (((cat 16 key key) (16+i):Nat):Int)):=fun i hi=>by rw[add_off,add_add];exact HCz.out _ (by omega)
 have Hl0:=hid hl0
 have Hl1:=hid hl1
 have Hl2:=hid hl2
 clear hbW hBW HC HCz hl0 hl1 hl2
 generalize w3.drew=wz at*
 repeat (first
  | (with_reducible refine wps_val rfl _ (exec_arr 174 _ rfl _ _ _ rfl 8 5 Tryz.underlying174 (by omega)) ?_)
  | (with_reducible refine wps_val rfl _ (exec_loadR 174 _ rfl ad rfl 8 _ Hl0.out 5 Tryz.underlying174 i8a) ?_)
  | (with_reducible refine wps_val rfl _ (exec_loadR 174 _ rfl ⟨ad.block,ad.off+8,none⟩ rfl 8 _ Hl1.out 5 Tryz.underlying174 i8a) ?_)
  | (with_reducible refine wps_val rfl _ (exec_loadR 174 _ rfl ⟨ad.block,ad.off+16,none⟩ rfl 8 _ Hl2.out 5 Tryz.underlying174 i8a) ?_)
  | ((with_reducible refine wps_build rfl 202 _ rfl (row 24 (b8 fun i=>if i<8 then(cat 16 key key) i else if i<16 then(cat 16 key key) (8+(i-8)) else(cat 16 key key) (16+(i-16)))) ?_ ?_);exact built83 (cat 16 key key) (fun i=>(cat 16 key key) (8+i)) (fun i=>(cat 16 key key) (16+i)))
  | still_step)
 refine wpStill_nil ?_
 go_wp2_with (with_reducible refine wpl_store rfl 202 _ _ rfl _ _ rfl rfl 202 _ hbz (i83' _) (by simp[row_size]) (one_b8 _ _) ?_)
 exact ret_row_tmp2 Tryz.results151 rfl w.heap.size rfl (.bool true) rfl 202 24 _ (hbz.setRow _) 3 174 Tryz.underlying202 i83 ⟨by rw[row_b8_ext (g:=three 16 key) (fun i hi=>three_of16 key i hi)],below_setRow' hBz (Nat.le_refl _) _⟩
set_option maxRecDepth 100000 in
set_option maxHeartbeats 2000000 in
theorem three8 (A:Option Addr) (c:Nat) (key:Nat→Nat) (w:World) (hR:Reads w w.heap.size A 8 key):
  Calls Tryz.prog 151 #[.slice A 8 c] w fun e w'=>e= .returned (.tuple #[.agg (row 24 (b8 (three 8 key))), .bool true])∧Below w.heap.size w w':=by
 have hb1:=Blk.fresh w 202 (row 24 (b8 fun _=>0))
 have hB1:Below w.heap.size w (w.alloc (.cells (row 24 (b8 fun _=>0)) 202)):=(Below.refl _ _).alloc (Nat.le_refl _) _
 have hR1:=(hR.below hB1).more hB1.size
 obtain⟨ad,rfl,had,hcell⟩:=hR (by omega)
 have HR1:=hid hR1
 clear hR hcell hR1
 go_enter Tryz.func151,Tryz.ntmps151
 go_wp2_with (first
  | (with_reducible refine wpl_alloc rfl 202 rfl _ z83 ?_)
  | (with_reducible refine wpl_bs2 rfl 126 _ _ rfl (.slice (some ad) 8 c) (.slice (some ad) 8 c) rfl rfl 22 (bs2 _ _ _ _ _ _ _) ?_))
 have hbk:Blk ((w.alloc (.cells (row 24 (b8 fun _=>0)) 202)).alloc (.cells #[.slice (some ad) 8 c, .slice (some ad) 8 c] 22)) (w.heap.size+1) 22 #[.slice (some ad) 8 c, .slice (some ad) 8 c]:=by simpa using Blk.fresh (w.alloc (.cells (row 24 (b8 fun _=>0)) 202)) 22 #[.slice (some ad) 8 c, .slice (some ad) 8 c]
 have hb2:=hb1.alloc (.cells #[.slice (some ad) 8 c, .slice (some ad) 8 c] 22)
 have hB2:=hB1.alloc hB1.size (.cells #[.slice (some ad) 8 c, .slice (some ad) 8 c] 22)
 have hR2:=(HR1.out.below ((Below.refl _ (w.alloc (.cells (row 24 (b8 fun _=>0)) 202))).alloc (Nat.le_refl _) (.cells #[.slice (some ad) 8 c, .slice (some ad) 8 c] 22))).more (B':=((w.alloc (.cells (row 24 (b8 fun _=>0)) 202)).alloc (.cells #[.slice (some ad) 8 c, .slice (some ad) 8 c] 22)).heap.size) (by simp)
 refine(concat_any _ _ _ 8 8 _ _ key key (by omega) (by omega) (by omega) _ hbk hR2 hR2).mono ?_
 rintro e w3 ⟨A2,c2,rfl,hc2,hR3,hB3⟩
 have hb3:=hb2.below hB3 hb2.lt
 have hB4:=hB2.trans (hB3.mono hB2.size)
 clear hb1 hB1 hbk hb2 hB2 hR2 HR1
 clear hB3 had
 obtain⟨ad2,rfl,had2,hcell2⟩:=hR3 (by omega)
 have HR3:=hid hR3
 clear hcell2 hR3
 have t8:(8:Int)≤(c2:Int):=by omega
 go_wp2_with (with_reducible refine wpl_bs2 rfl 126 _ _ rfl (.slice (some ad2) 16 c2) (.slice (some ad2) 8 c2) rfl rfl 22 (bs2 _ _ _ _ _ _ _) ?_)
 have hbk:=Blk.fresh w3 22 #[.slice (some ad2) 16 c2, .slice (some ad2) 8 c2]
 have hb5:=hb3.alloc (.cells #[.slice (some ad2) 16 c2, .slice (some ad2) 8 c2] 22)
 have hB5:=hB4.alloc hB4.size (.cells #[.slice (some ad2) 16 c2, .slice (some ad2) 8 c2] 22)
 have hR5:=(HR3.out.below ((Below.refl _ w3).alloc (Nat.le_refl _) (.cells #[.slice (some ad2) 16 c2, .slice (some ad2) 8 c2] 22))).more (B':=(w3.alloc (.cells #[.slice (some ad2) 16 c2, .slice (some ad2) 8 c2] 22)).heap.size) (by simp)
 refine(concat_any _ _ _ 16 8 _ _ (cat 8 key key) (cat 8 key key) (by omega) (by omega) (by omega) _ hbk hR5 (hR5.less (by omega))).mono ?_
 rintro e w5 ⟨A5,c5,rfl,hc5,hR6,hB6⟩
 have hbW:=hb5.below hB6 hb5.lt
 have hBW:=hB5.trans (hB6.mono hB5.size)
 clear hb3 hB4 hbk hb5 hB5 hR5 HR3 had2
 clear hB6
 obtain⟨ad,rfl,had,hcell⟩:=hR6 (by omega)
 have HC:=hid (fun i (hi:i<24)=>hcell i (by omega))
 clear hcell hR6 t8
 go_wp2_with fail
 have t8:(8:Int)≤(c5:Int):=by omega
 have t16:(16:Int)≤(c5:Int):=by omega
 have t24:(24:Int)≤(c5:Int):=by omega
 have n8: ¬c5=8:=by omega
 have n16: ¬c5=16:=by omega
 refine wp_region_still_tail 13 (by kernel_rfl) (by kernel_rfl) ?_
 simp only[List.take_succ_cons,List.take_zero,List.drop_succ_cons,List.drop_zero]
 change wpStill _ _ w5.drew (fun a'=>wpList _ _ _ _ a' w5.drew) _ _
 have hbz:=hbW.drew
 have hBz:=hBW.drew
 have HCz:Hid (∀i,i<24→w5.drew.cell? (ad.add i)=some (.int .u8 (((cat 16 (cat 8 key key) (cat 8 key key)) i:Nat):Int))):=hid (fun i hi=>HC.out i hi)
 have hl0:=fun i (hi:i<8)=>HCz.out i (by omega)
 have hl1: ∀i,i<8→w5.drew.cell? ((⟨ad.block,ad.off+8,none⟩:Addr).add i)=some (.int .u8 (((cat 16 (cat 8 key key) (cat 8 key key)) (8+i):Nat):Int)):=fun i hi=>by rw[add_off,add_add];exact HCz.out _ (by omega)
 have hl2: ∀i,i<8→w5.drew.cell? ((⟨ad.block,ad.off+16,none⟩:Addr).add i)=some (.int .u8 (((cat 16 (cat 8 key key) (cat 8 key key)) (16+i):Nat):Int)):=fun i hi=>by rw[add_off,add_add];exact HCz.out _ (by omega)
 have Hl0:=hid hl0
 have Hl1:=hid hl1
 have Hl2:=hid hl2
 clear hbW hBW HC HCz hl0 hl1 hl2
 generalize w5.drew=wz at*
 repeat (first
  | (with_reducible refine wps_val rfl _ (exec_arr 174 _ rfl _ _ _ rfl 8 5 Tryz.underlying174 (by omega)) ?_)
  | (with_reducible refine wps_val rfl _ (exec_loadR 174 _ rfl ad rfl 8 _ Hl0.out 5 Tryz.underlying174 i8a) ?_)
  | (with_reducible refine wps_val rfl _ (exec_loadR 174 _ rfl ⟨ad.block,ad.off+8,none⟩ rfl 8 _ Hl1.out 5 Tryz.underlying174 i8a) ?_)
  | (with_reducible refine wps_val rfl _ (exec_loadR 174 _ rfl ⟨ad.block,ad.off+16,none⟩ rfl 8 _ Hl2.out 5 Tryz.underlying174 i8a) ?_)
  | ((with_reducible refine wps_build rfl 202 _ rfl (row 24 (b8 fun i=>if i<8 then(cat 16 (cat 8 key key) (cat 8 key key)) i else if i<16 then(cat 16 (cat 8 key key) (cat 8 key key)) (8+(i-8)) else(cat 16 (cat 8 key key) (cat 8 key key)) (16+(i-16)))) ?_ ?_);exact built83 (cat 16 (cat 8 key key) (cat 8 key key)) (fun i=>(cat 16 (cat 8 key key) (cat 8 key key)) (8+i)) (fun i=>(cat 16 (cat 8 key key) (cat 8 key key)) (16+i)))
  | still_step)
 refine wpStill_nil ?_
 go_wp2_with (with_reducible refine wpl_store rfl 202 _ _ rfl _ _ rfl rfl 202 _ hbz (i83' _) (by simp[row_size]) (one_b8 _ _) ?_)
 exact ret_row_tmp2 Tryz.results151 rfl w.heap.size rfl (.bool true) rfl 202 24 _ (hbz.setRow _) 3 174 Tryz.underlying202 i83 ⟨by rw[row_b8_ext (g:=three 8 key) (fun i hi=>three_of8 key i hi)],below_setRow' hBz (Nat.le_refl _) _⟩
def IsTKey (L:Nat):Prop:=L=8∨L=16∨L=24
theorem three_any (A:Option Addr) (L c:Nat) (hL:IsTKey L) (hc:L≤c) (key:Nat→Nat) (w:World) (hR:Reads w w.heap.size A L key):
  Calls Tryz.prog 151 #[.slice A L c] w fun e w'=>e= .returned (.tuple #[.agg (row 24 (b8 (three L key))), .bool true])∧Below w.heap.size w w':=by
 rcases hL with rfl | rfl | rfl
 ·exact three8 A c key w hR
 ·exact three16 A c key w hc hR
 exact three24 A c key w hc hR
end Go.Proofs.YtlmacfmfmjhidaaGreatDoor.Des
namespace Go.Proofs.YtlmacfmfmjhidaaGreatDoor.Des
open Go.ChangeShapes Go.WideShapes Go.ChangeAt Go.RowKit Mem
def swap3 (f:Nat→Nat):Nat→Nat:=fun i=>if i<8 then f (16+i) else if i<16 then f i else f (i-16)
theorem swap3_of (f:Nat→Nat) (i:Nat) (hi:i<24):(upd (upd (upd (upd (upd (upd (upd (upd (upd (upd (upd (upd (upd (upd (upd (upd (f) 0 (f 16)) 1 (f 17)) 2 (f 18)) 3 (f 19)) 4 (f 20)) 5 (f 21)) 6 (f 22)) 7 (f 23)) 16 (f 0)) 17 (f 1)) 18 (f 2)) 19 (f 3)) 20 (f 4)) 21 (f 5)) 22 (f 6)) 23 (f 7)) i=swap3 f i:=by
 have all:i=0∨i=1∨i=2∨i=3∨i=4∨i=5∨i=6∨i=7∨i=8∨i=9∨i=10∨i=11∨i=12∨i=13∨i=14∨i=15∨i=16∨i=17∨i=18∨i=19∨i=20∨i=21∨i=22∨i=23:=by omega
 rcases all with rfl | rfl | rfl | rfl | rfl | rfl | rfl | rfl | rfl | rfl | rfl | rfl | rfl | rfl | rfl | rfl | rfl | rfl | rfl | rfl | rfl | rfl | rfl | rfl<;>rfl
set_option maxRecDepth 100000 in
set_option maxHeartbeats 4000000 in
theorem rev3_any (g:Nat) (f:Nat→Nat) (w:World) (hb:Blk w g 202 (row 24 (b8 f))):
  Calls Tryz.prog 152 #[.slice (some ⟨g,0,none⟩) 3 3] w fun e w'=>e= .returned (.tuple #[])∧Blk w' g 202 (row 24 (b8 (swap3 f)))∧Only g w w':=by
 go_enter Tryz.func152,Tryz.ntmps152
 go_wp2_with fail
 go_loopw [2,3] (fun i j wr=> ∃k:Nat,k≤1∧i= .int .i64 k∧j= .int .i64 (2-(k:Int))∧Blk wr g 202 (row 24 (b8 (if k=0 then f else swap3 f)))∧Only g w wr) (fun i _ _=>1-(intOf i).toNat)
 case atStart=>exact⟨0,by omega,rfl,rfl,hb,Only.refl _ _⟩
 case round=>
  obtain⟨k,hk,rfl,rfl,hb1,hO⟩:=hrel
  rcases(show k=0∨k=1 by omega) with rfl | rfl
  ·simp only[if_true] at hb1
   have v0:=hb1.val 0 (by omega)
   have v1:=hb1.val 1 (by omega)
   have v2:=hb1.val 2 (by omega)
   have v3:=hb1.val 3 (by omega)
   have v4:=hb1.val 4 (by omega)
   have v5:=hb1.val 5 (by omega)
   have v6:=hb1.val 6 (by omega)
   have v7:=hb1.val 7 (by omega)
   have v16:=hb1.val 16 (by omega)
   have v17:=hb1.val 17 (by omega)
   have v18:=hb1.val 18 (by omega)
   have v19:=hb1.val 19 (by omega)
   have v20:=hb1.val 20 (by omega)
   have v21:=hb1.val 21 (by omega)
   have v22:=hb1.val 22 (by omega)
   have v23:=hb1.val 23 (by omega)
   have fr:=fun i=>hb1.free i
   go_wp2_with fail
   go_region
   have hb2:=((((((((((((((((hb1.put 0 (f 16)).put 1 (f 17)).put 2 (f 18)).put 3 (f 19)).put 4 (f 20)).put 5 (f 21)).put 6 (f 22)).put 7 (f 23)).put 16 (f 0)).put 17 (f 1)).put 18 (f 2)).put 19 (f 3)).put 20 (f 4)).put 21 (f 5)).put 22 (f 6)).put 23 (f 7)).drew
   have hO2:=((((((((((((((((hO.setCell 0 (.int .u8 ((f 16:Nat):Int))).setCell 1 (.int .u8 ((f 17:Nat):Int))).setCell 2 (.int .u8 ((f 18:Nat):Int))).setCell 3 (.int .u8 ((f 19:Nat):Int))).setCell 4 (.int .u8 ((f 20:Nat):Int))).setCell 5 (.int .u8 ((f 21:Nat):Int))).setCell 6 (.int .u8 ((f 22:Nat):Int))).setCell 7 (.int .u8 ((f 23:Nat):Int))).setCell 16 (.int .u8 ((f 0:Nat):Int))).setCell 17 (.int .u8 ((f 1:Nat):Int))).setCell 18 (.int .u8 ((f 2:Nat):Int))).setCell 19 (.int .u8 ((f 3:Nat):Int))).setCell 20 (.int .u8 ((f 4:Nat):Int))).setCell 21 (.int .u8 ((f 5:Nat):Int))).setCell 22 (.int .u8 ((f 6:Nat):Int))).setCell 23 (.int .u8 ((f 7:Nat):Int))).drew
   rw[row_b8_ext (fun i hi=>swap3_of f i hi)] at hb2
   clear v0 v1 v2 v3 v4 v5 v6 v7 v16 v17 v18 v19 v20 v21 v22 v23 fr hb1 hO
   generalize ((((((((((((((((wr.setCell ⟨g,0,none⟩ (.int .u8 ((f 16:Nat):Int))).setCell ⟨g,1,none⟩ (.int .u8 ((f 17:Nat):Int))).setCell ⟨g,2,none⟩ (.int .u8 ((f 18:Nat):Int))).setCell ⟨g,3,none⟩ (.int .u8 ((f 19:Nat):Int))).setCell ⟨g,4,none⟩ (.int .u8 ((f 20:Nat):Int))).setCell ⟨g,5,none⟩ (.int .u8 ((f 21:Nat):Int))).setCell ⟨g,6,none⟩ (.int .u8 ((f 22:Nat):Int))).setCell ⟨g,7,none⟩ (.int .u8 ((f 23:Nat):Int))).setCell ⟨g,16,none⟩ (.int .u8 ((f 0:Nat):Int))).setCell ⟨g,17,none⟩ (.int .u8 ((f 1:Nat):Int))).setCell ⟨g,18,none⟩ (.int .u8 ((f 2:Nat):Int))).setCell ⟨g,19,none⟩ (.int .u8 ((f 3:Nat):Int))).setCell ⟨g,20,none⟩ (.int .u8 ((f 4:Nat):Int))).setCell ⟨g,21,none⟩ (.int .u8 ((f 5:Nat):Int))).setCell ⟨g,22,none⟩ (.int .u8 ((f 6:Nat):Int))).setCell ⟨g,23,none⟩ (.int .u8 ((f 7:Nat):Int))).drew=w2 at*
   go_wp2_with fail
   exact⟨⟨1,by omega,rfl,rfl,hb2,hO2⟩,by simp[intOf]⟩
  go_wp2_with fail
  go_end0
  exact⟨rfl,hb1,hO⟩
end Go.Proofs.YtlmacfmfmjhidaaGreatDoor.Des
namespace Go.Proofs.YtlmacfmfmjhidaaGreatDoor.Des
open Go.ChangeShapes Go.WideShapes Go.ChangeAt Go.RowKit Mem
theorem three_at (L:Nat) (key:Nat→Nat) (k i:Nat) (hi:i<8):three L key (8*k+i)=tkey L key k i:=by
 unfold three
 rw[show(8*k+i)/8=k by omega,show(8*k+i)%8=i by omega]
theorem swap_at (L:Nat) (key:Nat→Nat) (k i:Nat) (hk:k<3) (hi:i<8):swap3 (three L key) (8*k+i)=tkey L key (2-k) i:=by
 unfold swap3
 rcases(show k=0∨k=1∨k=2 by omega) with rfl | rfl | rfl
 ·rw[if_pos (by omega)];have:=three_at L key 2 i hi;rw[← this];congr 1;omega
 ·rw[if_neg (by omega),if_pos (by omega)];exact three_at L key 1 i hi
 rw[if_neg (by omega),if_neg (by omega)];have:=three_at L key 0 i hi;rw[← this];congr 1;omega
theorem tkey_by {L:Nat} (hL:IsTKey L){key:Nat→Nat} (h: ∀i,i<L→key i<256) (k:Nat) (hk:k<3):By8 (tkey L key k):=by
 intro i hi
 unfold tkey
 rcases hL with rfl | rfl | rfl
 ·rw[if_pos rfl];exact h i hi
 ·rw[if_neg (by omega),if_pos rfl];exact h _ (by omega)
 rw[if_neg (by omega),if_neg (by omega)];exact h _ (by omega)
theorem wpl_at8 {P:Program}{ops:Array Oper}{rest:List Oper}{o:Oper}{a:Act}{w:World}{Q:Exit→Act→World→Prop} (hgd:o.guard=none) (ty:TypeId) (x ix:Operand) (ho:o.op= .indexAddr ty x ix) (g:Nat) (hx:a.eval x= .pointer (some ⟨g,0,none⟩)) (z:Int) (hix:a.eval ix= .int .i64 z) (k:Nat) (hz:z=(k:Int))
  (n:Nat) (e:TypeId) (hu:P.underlying ty=some (.array n e)) (hk:k<n) (s:Nat) (hs:(P.info? e).map (·.size)=some s) (off:Nat) (hoff:k*s=off)
  (h:wpList P ops Q rest (a.put o.dst (.pointer (some ⟨g,off,none⟩))) w):wpList P ops Q (o::rest) a w:=by
 subst hz;subst hoff
 refine wpList_plain hgd fun _ hK=>?_
 have hr:(Instr.indexAt ty (.pointer (some ⟨g,0,none⟩)) (.int .i64 (k:Int))).run P w= .ok (.pointer (some ⟨g,k*s,none⟩)) w:=by
  simp[Instr.indexAt,Instr.sureAddr,asIntOf,Sem.run_bind,run_underlying hu,run_size hs,show¬n≤k by omega,add_zero_off]
 unfold Oper.wp execOp
 simp only[ho,hx,hix,hr,Sem.run_bind,Sem.run_pure,Result.andThen_ok]
 exact hK _ _ h
theorem blk_mid {w:World}{g:Nat}{t:TypeId}{F:Nat→Nat} (h:Blk w g t (row 24 (b8 F))) (k:Nat) (hk:k<3) (off:Nat) (ho:8*k=off): ∀i,i<8→w.cell? ⟨g,off+i,none⟩=some (.int .u8 ((F (8*k+i):Nat):Int)):=by
 subst ho;intro i hi;exact h.val _ (by omega)
def T3 (w0 wr:World) (hs g:Nat) (b F:Nat→Nat):Prop:=Blk wr hs 174 (row 8 (b8 b))∧Blk wr (hs+1) 174 (row 8 (b8 fun _=>0))∧Blk wr g 202 (row 24 (b8 F))∧hs+1<g∧Below hs w0 wr
section
variable {w0 wr w':World}{hs g:Nat}{b F:Nat→Nat}
theorem T3.blk (h:T3 w0 wr hs g b F):Blk wr hs 174 (row 8 (b8 b)):=h.1
theorem T3.res (h:T3 w0 wr hs g b F):Blk wr (hs+1) 174 (row 8 (b8 fun _=>0)):=h.2.1
theorem T3.bel (h:T3 w0 wr hs g b F):Below hs w0 wr:=h.2.2.2.2
theorem T3.ks (h:T3 w0 wr hs g b F):Blk wr g 202 (row 24 (b8 F)):=h.2.2.1
theorem T3.below (h:T3 w0 wr hs g b F) (hb:Below wr.heap.size wr w'):T3 w0 w' hs g b F:=
 ⟨h.1.below hb h.1.lt,h.2.1.below hb h.2.1.lt,h.2.2.1.below hb h.2.2.1.lt,h.2.2.2.1,h.2.2.2.2.trans (hb.mono (Nat.le_of_lt h.1.lt))⟩
theorem T3.put (h:T3 w0 wr hs g b F) (b':Nat→Nat):T3 w0 (wr.setRow hs (row 8 (b8 b'))) hs g b' F:=
 ⟨h.1.setRow _,h.2.1.otherRow _ _ (by omega),h.2.2.1.otherRow _ _ (by have:=h.2.2.2.1;omega),h.2.2.2.1,below_setRow' h.2.2.2.2 (Nat.le_refl _) _⟩
theorem T3.keys (h:T3 w0 wr hs g b F){F':Nat→Nat} (ho:Only g wr w') (hb:Blk w' g 202 (row 24 (b8 F'))):T3 w0 w' hs g b F':=
 ⟨ho.blk h.1 (by have:=h.2.2.2.1;omega),ho.blk h.2.1 (by have:=h.2.2.2.1;omega),hb,h.2.2.2.1,h.2.2.2.2.trans (ho.below (by have:=h.2.2.2.1;omega))⟩
end
set_option maxRecDepth 100000 in
set_option maxHeartbeats 4000000 in
theorem triple_fwd (A:Option Addr) (L c:Nat) (hL:IsTKey L) (hc:L≤c) (key b:Nat→Nat) (w:World) (hk: ∀i,i<L→key i<256) (hb:By8 b) (hR:Reads w w.heap.size A L key):
  Calls Tryz.prog 126 #[.slice A L c, .agg (row 8 (b8 b)), .bool false] w fun e w'=>e= .returned (.tuple #[.agg (row 8 (b8 (tdes L key b false))), .nilIface])∧Below w.heap.size w w':=by
 have Hk:=hid (fun k (h:k<3)=>tkey_by hL hk k h)
 have Hb:=hid hb
 have HL:=hid hL
 clear hk hb hL
 have hb1:=(Blk.fresh w 174 (row 8 (b8 b))).alloc (.cells (row 8 (b8 fun _=>0)) 174)
 have hb2:=two_new w (.cells (row 8 (b8 b)) 174) (row 8 (b8 fun _=>0)) 174
 have hB2:Below w.heap.size w ((w.alloc (.cells (row 8 (b8 b)) 174)).alloc (.cells (row 8 (b8 fun _=>0)) 174)):=((Below.refl _ _).alloc (Nat.le_refl _) _).alloc (by simp) _
 have hR2:=(hR.below hB2).more hB2.size
 have q0:0*8=0:=rfl
 have q1:1*8=8:=rfl
 have q2:2*8=16:=rfl
 go_enter Tryz.func126,Tryz.ntmps126
 go_wp2_with (with_reducible refine wpl_alloc rfl 174 rfl _ z8 ?_)
 refine(three_any A L c HL.out hc key _ hR2).mono ?_
 rintro e w1 ⟨rfl,hB3⟩
 have hB4:=hB2.trans (hB3.mono hB2.size)
 have hT:T3 w (w1.alloc (.cells (row 24 (b8 (three L key))) 202)) w.heap.size w1.heap.size b (three L key):=
  ⟨(hb1.below hB3 hb1.lt).alloc _,(hb2.below hB3 hb2.lt).alloc _,Blk.fresh _ _ _,by have:=hb2.lt;have:=hB3.size;omega,hB4.alloc hB4.size _⟩
 clear hb1 hb2 hB2 hR2 hB3 hB4 hR
 have HF:Hid (∀k,k<3→∀i,i<8→(three L key) (8*k+i)=tkey L key (k) i):=hid (fun k hk i hi=>three_at L key k i hi)
 have hT1:=hT
 clear hT
 have m0:=hid (blk_mid hT1.ks 0 (by omega) 0 rfl)
 go_wp2_with (first
  | (with_reducible refine wpl_alloc rfl 202 rfl _ z83 ?_)
  | (with_reducible refine wpl_store_new rfl 202 _ _ rfl w1 _ 24 _ rfl rfl 202 i83 (row_size _ _) ?_)
  | (with_reducible refine wpl_at8 rfl 202 _ _ rfl _ rfl _ rfl 0 rfl 3 174 Tryz.underlying202 (by omega) 8 i8a 0 q0 ?_)
  | (with_reducible refine wpl_val rfl _ (exec_loadO 174 _ rfl _ 0 rfl 8 _ m0.out 5 Tryz.underlying174 i8a) ?_)
  | (with_reducible refine wpl_load rfl 174 _ rfl _ rfl 174 _ hT1.blk 8 5 Tryz.underlying174 (i8a' _) ?_))
 generalize w1.alloc (.cells (row 24 (b8 (three L key))) 202)=w2 at*
 generalize w1.heap.size=g at*
 have HB: ∀k,k<3→By8 (fun i=>(three L key) (8*k+i)):=fun k hk i hi=>by
  show(three L key) (8*k+i)<256
  rw[HF.out k hk i hi];exact Hk.out _ (by omega) i hi
 have HB':=hid HB
 clear HB
 have Hres:Hid (des (fun i=>(three L key) (8*2+i)) (des (fun i=>(three L key) (8*1+i)) (des (fun i=>(three L key) (8*0+i)) b false) true) false=tdes L key b false):=hid (by
  unfold tdes
  rw[des_ext (k:=fun i=>(three L key) (8*0+i)) (fun i hi=>HF.out 0 (by omega) i hi) (fun _ _=>rfl),des_ext (k:=fun i=>(three L key) (8*1+i)) (fun i hi=>HF.out 1 (by omega) i hi) (fun _ _=>rfl),des_ext (k:=fun i=>(three L key) (8*2+i)) (fun i hi=>HF.out 2 (by omega) i hi) (fun _ _=>rfl)]
  rfl)
 clear HF Hk
 generalize (three L key)=F at*
 refine(block_any (fun i=>F (8*0+i)) b false (HB'.out 0 (by omega)) Hb.out _).mono ?_
 rintro e w3 ⟨rfl,hB3⟩
 have Hd1:=hid (des_by (fun i=>F (8*0+i)) b false)
 generalize des (fun i=>F (8*0+i)) b false=b1 at*
 have hT2:=(hT1.below hB3).put b1
 have hT1':=hT1.below hB3
 have m1:=hid (blk_mid hT2.ks 1 (by omega) 8 rfl)
 clear hT1 hB3 m0
 go_wp2_with (first
  | (with_reducible refine wpl_store rfl 174 _ _ rfl _ _ rfl rfl 174 _ hT1'.blk (i8a' _) (by simp[row_size]) (one_b8 _ _) ?_)
  | (with_reducible refine wpl_at8 rfl 202 _ _ rfl _ rfl _ rfl 1 rfl 3 174 Tryz.underlying202 (by omega) 8 i8a 8 q1 ?_)
  | (with_reducible refine wpl_val rfl _ (exec_loadO 174 _ rfl _ 8 rfl 8 _ m1.out 5 Tryz.underlying174 i8a) ?_)
  | (with_reducible refine wpl_load rfl 174 _ rfl _ rfl 174 _ hT2.blk 8 5 Tryz.underlying174 (i8a' _) ?_))
 clear hT1'
 generalize w3.setRow w.heap.size (row 8 (b8 b1))=w4 at*
 refine(block_any (fun i=>F (8*1+i)) b1 true (HB'.out 1 (by omega)) Hd1.out _).mono ?_
 rintro e w5 ⟨rfl,hB5⟩
 have Hd2:=hid (des_by (fun i=>F (8*1+i)) b1 true)
 generalize des (fun i=>F (8*1+i)) b1 true=b2 at*
 have hT3:=(hT2.below hB5).put b2
 have hT2':=hT2.below hB5
 have m2:=hid (blk_mid hT3.ks 2 (by omega) 16 rfl)
 clear hT2 hB5 m1
 go_wp2_with (first
  | (with_reducible refine wpl_store rfl 174 _ _ rfl _ _ rfl rfl 174 _ hT2'.blk (i8a' _) (by simp[row_size]) (one_b8 _ _) ?_)
  | (with_reducible refine wpl_at8 rfl 202 _ _ rfl _ rfl _ rfl 2 rfl 3 174 Tryz.underlying202 (by omega) 8 i8a 16 q2 ?_)
  | (with_reducible refine wpl_val rfl _ (exec_loadO 174 _ rfl _ 16 rfl 8 _ m2.out 5 Tryz.underlying174 i8a) ?_)
  | (with_reducible refine wpl_load rfl 174 _ rfl _ rfl 174 _ hT3.blk 8 5 Tryz.underlying174 (i8a' _) ?_))
 clear hT2'
 generalize w5.setRow w.heap.size (row 8 (b8 b2))=w6 at*
 refine(block_any (fun i=>F (8*2+i)) b2 false (HB'.out 2 (by omega)) Hd2.out _).mono ?_
 rintro e w7 ⟨rfl,hB7⟩
 have hT4:=hT3.below hB7
 clear hT3 hB7
 rw[Hres.out]
 go_wp2_with (with_reducible refine wpl_store rfl 174 _ _ rfl _ _ rfl rfl 174 _ hT4.res (i8a' _) (by simp[row_size]) (one_b8 _ _) ?_)
 exact ret_row_tmp Tryz.results126 rfl (w.heap.size+1) rfl .nilIface rfl 174 8 _ (hT4.res.setRow _) 5 Tryz.underlying174 i8a ⟨rfl,below_setRow' hT4.bel (by omega) _⟩
set_option maxRecDepth 100000 in
set_option maxHeartbeats 4000000 in
theorem triple_bwd (A:Option Addr) (L c:Nat) (hL:IsTKey L) (hc:L≤c) (key b:Nat→Nat) (w:World) (hk: ∀i,i<L→key i<256) (hb:By8 b) (hR:Reads w w.heap.size A L key):
  Calls Tryz.prog 126 #[.slice A L c, .agg (row 8 (b8 b)), .bool true] w fun e w'=>e= .returned (.tuple #[.agg (row 8 (b8 (tdes L key b true))), .nilIface])∧Below w.heap.size w w':=by
 have Hk:=hid (fun k (h:k<3)=>tkey_by hL hk k h)
 have Hb:=hid hb
 have HL:=hid hL
 clear hk hb hL
 have hb1:=(Blk.fresh w 174 (row 8 (b8 b))).alloc (.cells (row 8 (b8 fun _=>0)) 174)
 have hb2:=two_new w (.cells (row 8 (b8 b)) 174) (row 8 (b8 fun _=>0)) 174
 have hB2:Below w.heap.size w ((w.alloc (.cells (row 8 (b8 b)) 174)).alloc (.cells (row 8 (b8 fun _=>0)) 174)):=((Below.refl _ _).alloc (Nat.le_refl _) _).alloc (by simp) _
 have hR2:=(hR.below hB2).more hB2.size
 have q0:0*8=0:=rfl
 have q1:1*8=8:=rfl
 have q2:2*8=16:=rfl
 go_enter Tryz.func126,Tryz.ntmps126
 go_wp2_with (with_reducible refine wpl_alloc rfl 174 rfl _ z8 ?_)
 refine(three_any A L c HL.out hc key _ hR2).mono ?_
 rintro e w1 ⟨rfl,hB3⟩
 have hB4:=hB2.trans (hB3.mono hB2.size)
 have hT:T3 w (w1.alloc (.cells (row 24 (b8 (three L key))) 202)) w.heap.size w1.heap.size b (three L key):=
  ⟨(hb1.below hB3 hb1.lt).alloc _,(hb2.below hB3 hb2.lt).alloc _,Blk.fresh _ _ _,by have:=hb2.lt;have:=hB3.size;omega,hB4.alloc hB4.size _⟩
 clear hb1 hb2 hB2 hR2 hB3 hB4 hR
 have HF:Hid (∀k,k<3→∀i,i<8→(swap3 (three L key)) (8*k+i)=tkey L key (2-k) i):=hid (fun k hk i hi=>swap_at L key k i hk hi)
 go_wp2_with (first
  | (with_reducible refine wpl_alloc rfl 202 rfl _ z83 ?_)
  | (with_reducible refine wpl_store_new rfl 202 _ _ rfl w1 _ 24 _ rfl rfl 202 i83 (row_size _ _) ?_))
 refine(rev3_any _ _ _ hT.ks).mono ?_
 rintro e w2 ⟨rfl,hb3,hO⟩
 have hT1:=hT.keys hO hb3
 clear hT hb3 hO
 generalize w1.heap.size=g at*
 have m0:=hid (blk_mid hT1.ks 0 (by omega) 0 rfl)
 go_wp2_with (first
  | (with_reducible refine wpl_at8 rfl 202 _ _ rfl _ rfl _ rfl 0 rfl 3 174 Tryz.underlying202 (by omega) 8 i8a 0 q0 ?_)
  | (with_reducible refine wpl_val rfl _ (exec_loadO 174 _ rfl _ 0 rfl 8 _ m0.out 5 Tryz.underlying174 i8a) ?_)
  | (with_reducible refine wpl_load rfl 174 _ rfl _ rfl 174 _ hT1.blk 8 5 Tryz.underlying174 (i8a' _) ?_))
 have HB: ∀k,k<3→By8 (fun i=>(swap3 (three L key)) (8*k+i)):=fun k hk i hi=>by
  show(swap3 (three L key)) (8*k+i)<256
  rw[HF.out k hk i hi];exact Hk.out _ (by omega) i hi
 have HB':=hid HB
 clear HB
 have Hres:Hid (des (fun i=>(swap3 (three L key)) (8*2+i)) (des (fun i=>(swap3 (three L key)) (8*1+i)) (des (fun i=>(swap3 (three L key)) (8*0+i)) b true) false) true=tdes L key b true):=hid (by
  unfold tdes
  rw[des_ext (k:=fun i=>(swap3 (three L key)) (8*0+i)) (fun i hi=>HF.out 0 (by omega) i hi) (fun _ _=>rfl),des_ext (k:=fun i=>(swap3 (three L key)) (8*1+i)) (fun i hi=>HF.out 1 (by omega) i hi) (fun _ _=>rfl),des_ext (k:=fun i=>(swap3 (three L key)) (8*2+i)) (fun i hi=>HF.out 2 (by omega) i hi) (fun _ _=>rfl)]
  rfl)
 clear HF Hk
 generalize (swap3 (three L key))=F at*
 refine(block_any (fun i=>F (8*0+i)) b true (HB'.out 0 (by omega)) Hb.out _).mono ?_
 rintro e w3 ⟨rfl,hB3⟩
 have Hd1:=hid (des_by (fun i=>F (8*0+i)) b true)
 generalize des (fun i=>F (8*0+i)) b true=b1 at*
 have hT2:=(hT1.below hB3).put b1
 have hT1':=hT1.below hB3
 have m1:=hid (blk_mid hT2.ks 1 (by omega) 8 rfl)
 clear hT1 hB3 m0
 go_wp2_with (first
  | (with_reducible refine wpl_store rfl 174 _ _ rfl _ _ rfl rfl 174 _ hT1'.blk (i8a' _) (by simp[row_size]) (one_b8 _ _) ?_)
  | (with_reducible refine wpl_at8 rfl 202 _ _ rfl _ rfl _ rfl 1 rfl 3 174 Tryz.underlying202 (by omega) 8 i8a 8 q1 ?_)
  | (with_reducible refine wpl_val rfl _ (exec_loadO 174 _ rfl _ 8 rfl 8 _ m1.out 5 Tryz.underlying174 i8a) ?_)
  | (with_reducible refine wpl_load rfl 174 _ rfl _ rfl 174 _ hT2.blk 8 5 Tryz.underlying174 (i8a' _) ?_))
 clear hT1'
 generalize w3.setRow w.heap.size (row 8 (b8 b1))=w4 at*
 refine(block_any (fun i=>F (8*1+i)) b1 false (HB'.out 1 (by omega)) Hd1.out _).mono ?_
 rintro e w5 ⟨rfl,hB5⟩
 have Hd2:=hid (des_by (fun i=>F (8*1+i)) b1 false)
 generalize des (fun i=>F (8*1+i)) b1 false=b2 at*
 have hT3:=(hT2.below hB5).put b2
 have hT2':=hT2.below hB5
 have m2:=hid (blk_mid hT3.ks 2 (by omega) 16 rfl)
 clear hT2 hB5 m1
 go_wp2_with (first
  | (with_reducible refine wpl_store rfl 174 _ _ rfl _ _ rfl rfl 174 _ hT2'.blk (i8a' _) (by simp[row_size]) (one_b8 _ _) ?_)
  | (with_reducible refine wpl_at8 rfl 202 _ _ rfl _ rfl _ rfl 2 rfl 3 174 Tryz.underlying202 (by omega) 8 i8a 16 q2 ?_)
  | (with_reducible refine wpl_val rfl _ (exec_loadO 174 _ rfl _ 16 rfl 8 _ m2.out 5 Tryz.underlying174 i8a) ?_)
  | (with_reducible refine wpl_load rfl 174 _ rfl _ rfl 174 _ hT3.blk 8 5 Tryz.underlying174 (i8a' _) ?_))
 clear hT2'
 generalize w5.setRow w.heap.size (row 8 (b8 b2))=w6 at*
 refine(block_any (fun i=>F (8*2+i)) b2 true (HB'.out 2 (by omega)) Hd2.out _).mono ?_
 rintro e w7 ⟨rfl,hB7⟩
 have hT4:=hT3.below hB7
 clear hT3 hB7
 rw[Hres.out]
 go_wp2_with (with_reducible refine wpl_store rfl 174 _ _ rfl _ _ rfl rfl 174 _ hT4.res (i8a' _) (by simp[row_size]) (one_b8 _ _) ?_)
 exact ret_row_tmp Tryz.results126 rfl (w.heap.size+1) rfl .nilIface rfl 174 8 _ (hT4.res.setRow _) 5 Tryz.underlying174 i8a ⟨rfl,below_setRow' hT4.bel (by omega) _⟩
theorem triple_any (A:Option Addr) (L c:Nat) (hL:IsTKey L) (hc:L≤c) (key b:Nat→Nat) (back:Bool) (w:World) (hk: ∀i,i<L→key i<256) (hb:By8 b) (hR:Reads w w.heap.size A L key):
  Calls Tryz.prog 126 #[.slice A L c, .agg (row 8 (b8 b)), .bool back] w fun e w'=>e= .returned (.tuple #[.agg (row 8 (b8 (tdes L key b back))), .nilIface])∧Below w.heap.size w w':=by
 cases back
 ·exact triple_fwd A L c hL hc key b w hk hb hR
 exact triple_bwd A L c hL hc key b w hk hb hR
end Go.Proofs.YtlmacfmfmjhidaaGreatDoor.Des
