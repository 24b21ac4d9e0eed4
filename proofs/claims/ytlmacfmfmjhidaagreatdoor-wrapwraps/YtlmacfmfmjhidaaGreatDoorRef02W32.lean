/-
 What lockboxref02.Words returns of a key of 32 bytes.
-/
import Derived.Test.YtlmacfmfmjhidaaGreatDoorRef02X
namespace Go.Proofs.YtlmacfmfmjhidaaGreatDoor.Aes
open Go.ChangeShapes Go.WideShapes Go.ChangeAt Go.RowKit Mem
set_option linter.unusedSimpArgs false in
set_option maxRecDepth 100000 in
set_option maxHeartbeats 8000000 in
theorem rwords32 (A:Option Addr) (c:Nat) (key:Nat→Nat) (w:World) (hk: ∀i,i<32→key i<256) (hR:Reads w w.heap.size A 32 key):
  Calls Tryz.prog 117 #[.slice A 32 c] w (NewBytes 240 (words 32 key) w):=by
 have Hk:=hid hk
 obtain⟨ad,rfl,hbl,hcs⟩:=hR (by omega)
 have Hcs:=hid hcs
 clear hk hR hcs
 go_enter Tryz.func117,Tryz.ntmps117
 go_wp2_with fail
 refine(boxes_any _).mono ?_
 rintro e w1 ⟨rfl,hB1⟩
 go_wp2_with (first | (with_reducible refine wpl_alloc rfl 169 rfl _ z256 ?_) | (with_reducible refine wpl_store_new rfl 169 _ _ rfl w1 _ 256 _ rfl rfl 169 i256 (row_size _ _) ?_))
 have hlb:w.heap.size< (w1.alloc (.cells (row 256 (b8 Gf.box)) 169)).heap.size:=by have:=hB1.size;simp;omega
 have hbx:=Blk.fresh w1 169 (row 256 (b8 Gf.box))
 have hBb:=hB1.alloc hB1.size (.cells (row 256 (b8 Gf.box)) 169)
 clear hB1
 generalize w1.alloc (.cells (row 256 (b8 Gf.box)) 169)=wb at*
 go_loopw [5,6] (fun v i wr=> ∃k:Nat,k≤8∧i= .int .i64 k∧Own wr wb.heap.size 193 4 v k key∧Below wb.heap.size wb wr) (fun _ i _=>8-(intOf i).toNat)
 case atStart=>exact⟨0,by omega,rfl,Own.nil _ _ _ _ _,Below.refl _ _⟩
 case round=>
  obtain⟨k,hk,rfl,ho,hB⟩:=hrel
  by_cases hlt:k<8
  ·have hcell: ∀W,Below wb.heap.size wb W→∀j,j<4→W.cell? (ad.add (4*k+j))=some (.int .u8 ((key (4*k+j):Nat):Int)):=fun W hW j hj=>
    ((hW.cell (by rw[add_block];omega)).trans (hBb.cell (by rw[add_block];exact hbl))).trans (Hcs.out (4*k+j) (by omega))
   have Hc:=hid hcell
   clear hcell
   go_wp2_with fail
   refine wp_region_held_drew (S:=fun w'=>Below wb.heap.size wb w') (by kernel_rfl) hB.drew (fun hS0=>?_)
   refine ztk (i:=0) rfl (fun W hW=>exec_move _ rfl _ rfl) hS0 ?_
   (try simp only[Act.put,zza,zzb,zzc,zzd,zze,zzf])
   refine ztk (i:=1) rfl (fun W hW=>exec_move _ rfl _ rfl) hS0 ?_
   (try simp only[Act.put,zza,zzb,zzc,zzd,zze,zzf])
   refine ztk (i:=2) rfl (fun W hW=>exec_move _ rfl _ rfl) hS0 ?_
   (try simp only[Act.put,zza,zzb,zzc,zzd,zze,zzf])
   refine ztk (i:=3) rfl (fun W hW=>exec_arith .mul (by simp) _ _ _ _ rfl _ _ rfl rfl (4*(k:Int)) (by rfl) (by omega) (by omega)) hS0 ?_
   (try simp only[Act.put,zza,zzb,zzc,zzd,zze,zzf])
   refine ztk (i:=4) rfl (fun W hW=>exec_sl1 22 _ _ rfl ad 32 c rfl .i64 _ rfl (4*k+0) (by omega) 5 Tryz.underlying22 (by omega) i8) hS0 ?_
   (try simp only[Act.put,zza,zzb,zzc,zzd,zze,zzf])
   refine ztk (i:=5) rfl (fun W hW=>exec_ld 5 _ rfl _ rfl .u8 Tryz.underlying5 _ (Hc.out W hW 0 (by omega))) hS0 ?_
   (try simp only[Act.put,zza,zzb,zzc,zzd,zze,zzf])
   refine ztk (i:=6) rfl (fun W hW=>exec_move _ rfl _ rfl) hS0 ?_
   (try simp only[Act.put,zza,zzb,zzc,zzd,zze,zzf])
   refine ztk (i:=7) rfl (fun W hW=>exec_move _ rfl _ rfl) hS0 ?_
   (try simp only[Act.put,zza,zzb,zzc,zzd,zze,zzf])
   refine ztk (i:=8) rfl (fun W hW=>exec_arith .mul (by simp) _ _ _ _ rfl _ _ rfl rfl (4*(k:Int)) (by rfl) (by omega) (by omega)) hS0 ?_
   (try simp only[Act.put,zza,zzb,zzc,zzd,zze,zzf])
   refine ztk (i:=9) rfl (fun W hW=>exec_arith .add (by simp) _ _ _ _ rfl _ _ rfl rfl (4*(k:Int)+1) (by rfl) (by omega) (by omega)) hS0 ?_
   (try simp only[Act.put,zza,zzb,zzc,zzd,zze,zzf])
   refine ztk (i:=10) rfl (fun W hW=>exec_sl1 22 _ _ rfl ad 32 c rfl .i64 _ rfl (4*k+1) (by omega) 5 Tryz.underlying22 (by omega) i8) hS0 ?_
   (try simp only[Act.put,zza,zzb,zzc,zzd,zze,zzf])
   refine ztk (i:=11) rfl (fun W hW=>exec_ld 5 _ rfl _ rfl .u8 Tryz.underlying5 _ (Hc.out W hW 1 (by omega))) hS0 ?_
   (try simp only[Act.put,zza,zzb,zzc,zzd,zze,zzf])
   refine ztk (i:=12) rfl (fun W hW=>exec_move _ rfl _ rfl) hS0 ?_
   (try simp only[Act.put,zza,zzb,zzc,zzd,zze,zzf])
   refine ztk (i:=13) rfl (fun W hW=>exec_move _ rfl _ rfl) hS0 ?_
   (try simp only[Act.put,zza,zzb,zzc,zzd,zze,zzf])
   refine ztk (i:=14) rfl (fun W hW=>exec_arith .mul (by simp) _ _ _ _ rfl _ _ rfl rfl (4*(k:Int)) (by rfl) (by omega) (by omega)) hS0 ?_
   (try simp only[Act.put,zza,zzb,zzc,zzd,zze,zzf])
   refine ztk (i:=15) rfl (fun W hW=>exec_arith .add (by simp) _ _ _ _ rfl _ _ rfl rfl (4*(k:Int)+2) (by rfl) (by omega) (by omega)) hS0 ?_
   (try simp only[Act.put,zza,zzb,zzc,zzd,zze,zzf])
   refine ztk (i:=16) rfl (fun W hW=>exec_sl1 22 _ _ rfl ad 32 c rfl .i64 _ rfl (4*k+2) (by omega) 5 Tryz.underlying22 (by omega) i8) hS0 ?_
   (try simp only[Act.put,zza,zzb,zzc,zzd,zze,zzf])
   refine ztk (i:=17) rfl (fun W hW=>exec_ld 5 _ rfl _ rfl .u8 Tryz.underlying5 _ (Hc.out W hW 2 (by omega))) hS0 ?_
   (try simp only[Act.put,zza,zzb,zzc,zzd,zze,zzf])
   refine ztk (i:=18) rfl (fun W hW=>exec_move _ rfl _ rfl) hS0 ?_
   (try simp only[Act.put,zza,zzb,zzc,zzd,zze,zzf])
   refine ztk (i:=19) rfl (fun W hW=>exec_move _ rfl _ rfl) hS0 ?_
   (try simp only[Act.put,zza,zzb,zzc,zzd,zze,zzf])
   refine ztk (i:=20) rfl (fun W hW=>exec_arith .mul (by simp) _ _ _ _ rfl _ _ rfl rfl (4*(k:Int)) (by rfl) (by omega) (by omega)) hS0 ?_
   (try simp only[Act.put,zza,zzb,zzc,zzd,zze,zzf])
   refine ztk (i:=21) rfl (fun W hW=>exec_arith .add (by simp) _ _ _ _ rfl _ _ rfl rfl (4*(k:Int)+3) (by rfl) (by omega) (by omega)) hS0 ?_
   (try simp only[Act.put,zza,zzb,zzc,zzd,zze,zzf])
   refine ztk (i:=22) rfl (fun W hW=>exec_sl1 22 _ _ rfl ad 32 c rfl .i64 _ rfl (4*k+3) (by omega) 5 Tryz.underlying22 (by omega) i8) hS0 ?_
   (try simp only[Act.put,zza,zzb,zzc,zzd,zze,zzf])
   refine ztk (i:=23) rfl (fun W hW=>exec_ld 5 _ rfl _ rfl .u8 Tryz.underlying5 _ (Hc.out W hW 3 (by omega))) hS0 ?_
   (try simp only[Act.put,zza,zzb,zzc,zzd,zze,zzf])
   refine ztk (i:=24) rfl (fun W hW=>exec_build4 193 _ _ _ _ rfl (fun i=>key (4*k+i)) _ _ _ _ rfl rfl rfl rfl rfl rfl rfl rfl built4) hS0 ?_
   (try simp only[Act.put,zza,zzb,zzc,zzd,zze,zzf])
   refine wpAnyH_ready (rs:=[25]) (by kernel_rfl) (by simp) (AllReadyH.cons rfl (fun K hK=>?_) AllReadyH.nil)
   (try simp only[Act.put,zza,zzb,zzc,zzd,zze,zzf])
   refine Eq.mpr (if_pos (by rfl)) ?_
   refine wp_bs 192 _ rfl _ rfl _ 193 (bs4' _ _) ?_
   refine hK.out _ _ (hS0.alloc hS0.size _) (fun hS1=>?_)
   (try simp only[Act.put,zza,zzb,zzc,zzd,zze,zzf])
   refine wpAnyH_ready (rs:=[26]) (by kernel_rfl) (by simp) (AllReadyH.cons rfl (fun K hK=>?_) AllReadyH.nil)
   (try simp only[Act.put,zza,zzb,zzc,zzd,zze,zzf])
   refine Eq.mpr (if_pos (by rfl)) ?_
   refine wp_app _ _ 192 rfl wb.heap.size 193 4 (.agg (row 4 (b8 fun _=>0))) Tryz.underlying192 infoA4 rfl (by omega) _ k _ rfl (show Own wr.drew wb.heap.size 193 4 u5 k key from ho) 1 (fun i=>key (4*k+i)) _ rfl rfl (by omega) hB.size ?_
   intro v' w3 ho3 hB3
   have ho4:Own w3 wb.heap.size 193 4 v' (k+1) key:=ho3.ext (cat4 key _ key k (fun _ _=>rfl) (fun j _=>by show key (4*k+j)=_;congr 1;omega))
   have hB4:=hB.drew.trans hB3
   refine hK.out _ _ hB4 (fun hS2=>?_)
   clear ho ho3 hB3 hB
   (try simp only[Act.put,zza,zzb,zzc,zzd,zze,zzf])
   refine ztk (i:=27) rfl (fun W hW=>exec_assign _ rfl _ rfl) hS2 ?_
   (try simp only[Act.put,zza,zzb,zzc,zzd,zze,zzf])
   refine wpAnyH_done (by kernel_rfl) ?_ _
   go_wp2_with fail
   go_round
   case rel=>exact⟨k+1,by omega,val_int (by omega),ho4,hB4⟩
   case measure=>simp[intOf];omega
  have Hk4:Hid (k=8):=hid (by omega)
  rw[Hk4.out] at ho
  have ho0:=ho.ext (g:=ex 32 key 0) (fun i hi=>by show key i=if i<32 then key i else 0;rw[if_pos (by omega)])
  clear ho
  go_wp2_with fail
  go_loopw [5,7] (fun v i wr=> ∃t:Nat,t≤52∧i= .int .i64 (8+(t:Int))∧Own wr wb.heap.size 193 4 v (8+t) (ex 32 key t)∧Below wb.heap.size wb wr) (fun _ i _=>60-(intOf i).toNat)
  case atStart=>exact⟨0,by omega,rfl,ho0,hB⟩
  case round=>
   rename World=>wo
   clear ho0 hB
   obtain⟨t,ht,rfl,ho,hB⟩:=hrel
   have Hx:=hid (ex_lt 32 key t Hk.out)
   obtain⟨A5,c5,rfl,hc5⟩:=ho.slice
   obtain⟨g,rfl,hgb,hgl,hgc⟩:=ho.cells (by omega)
   have Hgc:=hid hgc
   clear hgc
   by_cases hlt:t<52
   ·have HL:Hid (∀i,i<4→wo.cell? ⟨g,(7+t)*4+i,none⟩=some (.int .u8 ((ex 32 key t (28+4*t+i):Nat):Int))):=hid (fun i hi=>by
     rw[show(7+t)*4+i=28+4*t+i by omega];exact Hgc.out _ (by omega))
    have hbxr:=hbx.below hB hbx.lt
    have t69:decide ((8:Int)+(t:Int)<60)=true:=by simp;omega
    by_cases hm:t%8=0
    ·have t1:((8+(t:Int))%8 == 0)=true:=by simp;omega
     have t1b:((t:Int)%8 == 0)=true:=by simp;omega
     have T1h:=hid hm
     have Hq:Hid ((8+(t:Int))/8=((t/8:Nat):Int)+1):=hid (by omega)
     have r0:=row_val 4 (fun j=>ex 32 key t (28+4*t+j)) 0 (by omega)
     have r1:=row_val 4 (fun j=>ex 32 key t (28+4*t+j)) 1 (by omega)
     have r2:=row_val 4 (fun j=>ex 32 key t (28+4*t+j)) 2 (by omega)
     have r3:=row_val 4 (fun j=>ex 32 key t (28+4*t+j)) 3 (by omega)
     clear hm
     go_wp2_with (first
      | ((with_reducible refine wpl_val rfl _ (exec_slN 192 _ _ rfl g (8+t) c5 rfl .i64 _ rfl (7+t) (by omega) 193 Tryz.underlying192 (by omega) 4 i4) ?_); (try simp only[Act.put,zzd,zze,zzf]))
      | ((with_reducible refine wpl_val rfl _ (exec_loadO 193 _ rfl g ((7+t)*4) rfl 4 (fun j=>ex 32 key t (28+4*t+j)) HL.out 5 Tryz.underlying193 i4) ?_); (try simp only[Act.put,zzd,zze,zzf]))
      | ((with_reducible refine wpl_alloc rfl 193 rfl _ z4 ?_); (try simp only[Act.put,zzd,zze,zzf]))
      | ((with_reducible refine wpl_store_new rfl 193 _ _ rfl wo _ 4 _ rfl rfl 193 i4 (row_size _ _) ?_); (try simp only[Act.put,zzd,zze,zzf]))
      | ((with_reducible refine wpl_build4 rfl 193 _ _ _ _ rfl (fun j=>ex 32 key t (28+4*t+(j+1)%4)) _ _ _ _ rfl rfl rfl rfl ?_ ?_ ?_ ?_ built4 ?_);exact rfl;exact rfl;exact rfl;exact rfl; (try simp only[Act.put,zzd,zze,zzf])))
     clear r0 r1 r2 r3
     have hh:=Blk.fresh wo 193 (row 4 (b8 fun j=>ex 32 key t (28+4*t+(j+1)%4)))
     have hBc:Below wo.heap.size wo (wo.alloc (.cells (row 4 (b8 fun j=>ex 32 key t (28+4*t+(j+1)%4))) 193)):=(Below.refl _ _).alloc (Nat.le_refl _) _
     have HT1:Hid (∀j,(fun j=>ex 32 key t (28+4*t+(j+1)%4)) j<256):=hid (fun j=>Hx.out _)
     have HW1:Hid (∀j,(fun j=>ex 32 key t (28+4*t+(j+1)%4)) j=ex 32 key t (28+4*t+(j+1)%4)):=hid (fun j=>rfl)
     obtain⟨T1,HE⟩: ∃T1:Nat→Nat,Hid ((fun j=>ex 32 key t (28+4*t+(j+1)%4))=T1):=⟨_,hid rfl⟩
     rw[HE.out] at hh hBc HT1 ⊢
     have HE2:Hid (∀j,T1 j=ex 32 key t (28+4*t+(j+1)%4)):=hid (fun j=>by rw[← HE.out])
     clear HE HW1
     generalize wo.alloc (.cells (row 4 (b8 T1)) 193)=w2 at*
     try rw[show(8+(t:Int))%8=(t:Int)%8 by omega]
     go_loopw [9] (fun y wr=> ∃(k:Nat) (T:Nat→Nat),k≤4∧y= .int .i64 k∧Hid (∀j,T j=if j<k then Gf.box (T1 j) else T1 j)∧Blk wr wo.heap.size 193 (row 4 (b8 T))∧Below wo.heap.size wo wr) (fun y _=>4-(intOf y).toNat)
     case atStart=>exact⟨0,T1,by omega,rfl,hid (by simp),hh,hBc⟩
     case round=>
      clear hh hBc
      obtain⟨k,T,hk4,rfl,HT,hh,hBc⟩:=hrel
      by_cases hlt4:k<4
      ·have HTk:=hid (show T k=T1 k by rw[HT.out k,if_neg (by omega)])
       have htl:T k<256:=by rw[HTk.out];exact HT1.out k
       have hbc:=hbxr.below hBc hbxr.lt
       go_wp2_with (first
        | ((with_reducible refine wpl_at rfl 193 _ _ rfl _ rfl .i64 _ rfl k rfl 4 5 Tryz.underlying193 hlt4 i8 ?_); (try simp only[Act.put,zzd,zze,zzf]))
        | ((with_reducible refine wpl_ld rfl 5 _ rfl _ rfl .u8 Tryz.underlying5 _ (hh.val k hlt4) ?_); (try simp only[Act.put,zzd,zze,zzf]))
        | ((with_reducible refine wpl_at rfl 169 _ _ rfl _ rfl .u8 _ rfl (T k) rfl 256 5 Tryz.underlying169 htl i8 ?_); (try simp only[Act.put,zzd,zze,zzf]))
        | ((with_reducible refine wpl_ld rfl 5 _ rfl _ rfl .u8 Tryz.underlying5 _ (hbc.val (T k) htl) ?_); (try simp only[Act.put,zzd,zze,zzf]))
        | ((with_reducible refine wpl_st rfl 5 _ _ rfl _ rfl .u8 _ rfl i8 _ (hh.val k hlt4) (hh.free k) ?_); (try simp only[Act.put,zzd,zze,zzf])))
       go_round
       case rel=>
        rw[HTk.out]
        exact⟨k+1,_,by omega,val_int (by omega),hid (fill_step (F:=fun j=>Gf.box (T1 j)) HT.out),hh.put k _,hBc.setCell (by simp) _⟩
       case measure=>simp[intOf];omega
      have Hk4:=hid (show k=4 by omega)
      go_wp2_with fail
      try rw[show(8+(t:Int))%8=(t:Int)%8 by omega]
      go_loop [10,11] (fun p y=> ∃m:Nat,m≤t/8∧p= .int .u8 (pw m:Nat)∧y= .int .i64 ((m:Int)+1)) (fun _ y=>t/8+1-(intOf y).toNat)
      case atStart=>exact⟨0,by omega,rfl,rfl⟩
      case round=>
       obtain⟨m,hm,rfl,rfl⟩:=hrel
       have hpm:=pw_lt m
       by_cases hmt:m<t/8
       ·have u1:decide ((m:Int)+1< (8+(t:Int))/8)=true:=by simp;omega
        go_wp2_with (go_at_call 119;refine(rmul _ 2 hpm (by omega) _).mono ?_;rintro e w' ⟨rfl,rfl⟩)
        go_round
        case rel=>exact⟨m+1,by omega,rfl,val_int (by omega)⟩
        case measure=>simp[intOf];omega
       have u1:decide ((m:Int)+1< (8+(t:Int))/8)=false:=by simp;omega
       have Hmt:Hid (m=t/8):=hid (by omega)
       have hb0:T 0<256:=by rw[HT.out 0,if_pos (by have:=Hk4.out;omega)];exact Gf.box_lt _ (HT1.out 0)
       go_wp2_with (first
        | ((with_reducible refine wpl_at rfl 193 _ _ rfl _ rfl .i64 _ rfl 0 rfl 4 5 Tryz.underlying193 (by omega) i8 ?_); (try simp only[Act.put,zzd,zze,zzf]))
        | ((with_reducible refine wpl_ld rfl 5 _ rfl _ rfl .u8 Tryz.underlying5 _ (hh.val 0 (by omega)) ?_); (try simp only[Act.put,zzd,zze,zzf]))
        | ((with_reducible refine wpl_st rfl 5 _ _ rfl _ rfl .u8 _ rfl i8 _ (hh.val 0 (by omega)) (hh.free 0) ?_); (try simp only[Act.put,zzd,zze,zzf])))
       rw[u8_xor_nat _ _ hb0 hpm]
       have hh5:=hh.put 0 (T 0 ^^^ pw m)
       have hBc5:=hBc.setCell (p:=⟨wo.heap.size,0,none⟩) (Nat.le_refl _) (.int .u8 ((T 0 ^^^ pw m:Nat):Int))
       have HW:Hid (SameW (upd T 0 (T 0 ^^^ pw m)) 32 key t):=hid (by
        intro q hq
        unfold nw
        rw[if_pos T1h.out,show 32+4*t-4=28+4*t by omega]
        by_cases h0:q=0
        ·subst h0;rw[upd_same,if_pos rfl,HT.out 0,if_pos (by have:=Hk4.out;omega),HE2.out,Hmt.out]
        rw[upd_other _ _ _ _ h0,if_neg h0,Nat.xor_zero,HT.out q,if_pos (by have:=Hk4.out;omega),HE2.out])
       clear hh hBc u1
       have hh:=hh5
       have hBc:=hBc5
       clear hh5 hBc5
       generalize (World.setCell _ ⟨wo.heap.size,0,none⟩ (.int .u8 ((T 0 ^^^ pw m:Nat):Int)))=w5 at*
       generalize upd T 0 (T 0 ^^^ pw m)=W at*
       try rw[show(8+(t:Int))%8=(t:Int)%8 by omega]
       go_loopw [12] (fun y wr=> ∃(k:Nat) (T:Nat→Nat),k≤4∧y= .int .i64 k∧Hid (∀j,T j=if j<k then W j ^^^ ex 32 key t (4*t+j) else W j)∧Blk wr wo.heap.size 193 (row 4 (b8 T))∧Below wo.heap.size wo wr) (fun y _=>4-(intOf y).toNat)
       case atStart=>exact⟨0,W,by omega,rfl,hid (by simp),hh,hBc⟩
       case round=>
        clear hh hBc
        obtain⟨k,T,hk4,rfl,HT,hh,hBc⟩:=hrel
        by_cases hlt4:k<4
        ·have HTk:=hid (show T k=W k by rw[HT.out k,if_neg (by omega)])
         have HWk:=hid (HW.out k hlt4)
         have hwl:=nw_lt 32 (ex 32 key t) t k Hx.out
         have hxl:=Hx.out (4*t+k)
         have hgc:=(hBc.cell (p:=⟨g,t*4+k,none⟩) hgl).trans (Hgc.out (t*4+k) (by omega))
         rw[show t*4+k=4*t+k by omega] at hgc
         go_wp2_with fail
         refine wp_region_still_tail 14 (by kernel_rfl) (by kernel_rfl) ?_
         simp only[List.take_succ_cons,List.take_zero,List.drop_succ_cons,List.drop_zero]
         change wpStill _ _ wr.drew (fun a'=>wpList _ _ _ _ a' wr.drew) _ _
         have hh':Blk wr.drew wo.heap.size 193 (row 4 (b8 T)):=hh
         have hd2:wr.drew.cell? ⟨g,t*4+k,none⟩=some (.int .u8 ((ex 32 key t (4*t+k):Nat):Int)):=by rw[show t*4+k=4*t+k by omega];exact hgc
         have hB':=hBc.drew
         clear hh hBc hgc
         generalize wr.drew=w4 at*
         have hd1:=hh'.val k hlt4
         have y1:=wrap_i64 (8+(t:Int)-8) (t:Int) (by omega) (by omega) (by omega)
         have y2:=wrap_i64 (t:Int) (t:Int) rfl (by omega) (by omega)
         repeat (first
          | ((with_reducible refine wps_at rfl 193 _ _ rfl wo.heap.size rfl .i64 _ rfl k rfl 4 5 Tryz.underlying193 hlt4 i8 ?_); (try simp only[Act.put,zzd,zze,zzf]))
          | ((with_reducible refine wps_val rfl _ (exec_slN 192 _ _ rfl g (8+t) c5 rfl .i64 _ rfl t (by omega) 193 Tryz.underlying192 (by omega) 4 i4) ?_); (try simp only[Act.put,zzd,zze,zzf]))
          | ((with_reducible refine wps_val rfl _ (exec_atO 193 _ _ rfl g (t*4) rfl .i64 _ rfl k rfl 4 5 Tryz.underlying193 hlt4 i8) ?_); (try simp only[Act.put,zzd,zze,zzf]))
          | ((with_reducible refine wps_ld rfl 5 _ rfl _ rfl .u8 Tryz.underlying5 _ hd1 ?_); (try simp only[Act.put,zzd,zze,zzf]))
          | ((with_reducible refine wps_ld rfl 5 _ rfl _ rfl .u8 Tryz.underlying5 _ hd2 ?_); (try simp only[Act.put,zzd,zze,zzf]))
          | still_step)
         refine wpStill_nil ?_
         clear y1 y2
         go_wp2_with ((with_reducible refine wpl_st rfl 5 _ _ rfl _ rfl .u8 _ rfl i8 _ hd1 (hh'.free k) ?_); (try simp only[Act.put,zzd,zze,zzf]))
         go_round
         case rel=>
          rw[HTk.out,HWk.out,u8_xor_nat _ _ hwl hxl]
          refine⟨k+1,_,by omega,val_int (by omega),hid (fill_step (F:=fun j=>W j ^^^ ex 32 key t (4*t+j)) HT.out),?_,hB'.setCell (by simp) _⟩
          show Blk _ _ _ (row 4 (b8 (upd T k (W k ^^^ ex 32 key t (4*t+k)))))
          rw[HWk.out]
          exact hh'.put k _
         case measure=>simp[intOf];omega
        have Hk4:=hid (show k=4 by omega)
        have hoc:=ho.below hBc (Nat.le_refl _)
        have hszc:=Nat.le_trans hB.size hBc.size
        go_wp2_with (first
         | ((with_reducible refine wpl_load rfl 193 _ rfl _ rfl 193 _ hh 4 5 Tryz.underlying193 (i4' _) ?_); (try simp only[Act.put,zzd,zze,zzf]))
         | ((with_reducible refine wpl_bs rfl 192 _ rfl (.agg (row 4 (b8 T))) rfl (row 4 (b8 T)) 193 (bs4' T wr) ?_); (try simp only[Act.put,zzd,zze,zzf]))
         | (at_builtin;with_reducible refine wpl_app rfl _ _ 192 rfl wb.heap.size 193 4 _ Tryz.underlying192 infoA4 hz4 (by omega) _ (8+t) _ rfl hoc 1 T _ (cs14 T) rfl (by omega) hszc ?_))
        intro v' w6 ho6 hB6
        have ho7:Own w6 wb.heap.size 193 4 v' (8+(t+1)) (ex 32 key (t+1)):=ho6.ext (cat4 (ex 32 key t) T (ex 32 key (t+1)) (8+t) (fun i hi=>ex_old 32 key t i (by omega)) (fun j hj=>by
         rw[show(8+t)*4+j=32+4*t+j by omega,ex_new 32 key t j hj,HT.out j,if_pos (by have:=Hk4.out;omega),HW.out j hj,Nat.xor_comm]))
        have hB7:=(hB.trans (hBc.mono hB.size)).trans hB6
        clear hh hBc hoc ho6 hB6 ho
        go_wp2_with fail
        go_round
        case rel=>exact⟨t+1,by omega,val_int (by omega),ho7,hB7⟩
        case measure=>simp[intOf];omega
    by_cases hm2:t%8=4
    ·have t1:((8+(t:Int))%8 == 0)=false:=by simp;omega
     have t1b:((t:Int)%8 == 0)=false:=by simp;omega
     have t2:((8+(t:Int))%8 == 4)=true:=by simp;omega
     have t2b:((t:Int)%8 == 4)=true:=by simp;omega
     have T1h:=hid hm
     have T2h:=hid hm2
     clear hm2
     clear hm
     go_wp2_with (first
      | ((with_reducible refine wpl_val rfl _ (exec_slN 192 _ _ rfl g (8+t) c5 rfl .i64 _ rfl (7+t) (by omega) 193 Tryz.underlying192 (by omega) 4 i4) ?_); (try simp only[Act.put,zzd,zze,zzf]))
      | ((with_reducible refine wpl_val rfl _ (exec_loadO 193 _ rfl g ((7+t)*4) rfl 4 (fun j=>ex 32 key t (28+4*t+j)) HL.out 5 Tryz.underlying193 i4) ?_); (try simp only[Act.put,zzd,zze,zzf]))
      | ((with_reducible refine wpl_alloc rfl 193 rfl _ z4 ?_); (try simp only[Act.put,zzd,zze,zzf]))
      | ((with_reducible refine wpl_store_new rfl 193 _ _ rfl wo _ 4 _ rfl rfl 193 i4 (row_size _ _) ?_); (try simp only[Act.put,zzd,zze,zzf])))
     have hh:=Blk.fresh wo 193 (row 4 (b8 fun j=>ex 32 key t (28+4*t+j)))
     have hBc:Below wo.heap.size wo (wo.alloc (.cells (row 4 (b8 fun j=>ex 32 key t (28+4*t+j))) 193)):=(Below.refl _ _).alloc (Nat.le_refl _) _
     have HT1:Hid (∀j,(fun j=>ex 32 key t (28+4*t+j)) j<256):=hid (fun j=>Hx.out _)
     obtain⟨T1,HE⟩: ∃T1:Nat→Nat,Hid ((fun j=>ex 32 key t (28+4*t+j))=T1):=⟨_,hid rfl⟩
     rw[HE.out] at hh hBc HT1 ⊢
     have HE2:Hid (∀j,T1 j=ex 32 key t (28+4*t+j)):=hid (fun j=>by rw[← HE.out])
     clear HE
     generalize wo.alloc (.cells (row 4 (b8 T1)) 193)=w2 at*
     try rw[show(8+(t:Int))%8=(t:Int)%8 by omega]
     go_loopw [9] (fun y wr=> ∃(k:Nat) (T:Nat→Nat),k≤4∧y= .int .i64 k∧Hid (∀j,T j=if j<k then Gf.box (T1 j) else T1 j)∧Blk wr wo.heap.size 193 (row 4 (b8 T))∧Below wo.heap.size wo wr) (fun y _=>4-(intOf y).toNat)
     case atStart=>exact⟨0,T1,by omega,rfl,hid (by simp),hh,hBc⟩
     case round=>
      clear hh hBc
      obtain⟨k,T,hk4,rfl,HT,hh,hBc⟩:=hrel
      by_cases hlt4:k<4
      ·have HTk:=hid (show T k=T1 k by rw[HT.out k,if_neg (by omega)])
       have htl:T k<256:=by rw[HTk.out];exact HT1.out k
       have hbc:=hbxr.below hBc hbxr.lt
       go_wp2_with (first
        | ((with_reducible refine wpl_at rfl 193 _ _ rfl _ rfl .i64 _ rfl k rfl 4 5 Tryz.underlying193 hlt4 i8 ?_); (try simp only[Act.put,zzd,zze,zzf]))
        | ((with_reducible refine wpl_ld rfl 5 _ rfl _ rfl .u8 Tryz.underlying5 _ (hh.val k hlt4) ?_); (try simp only[Act.put,zzd,zze,zzf]))
        | ((with_reducible refine wpl_at rfl 169 _ _ rfl _ rfl .u8 _ rfl (T k) rfl 256 5 Tryz.underlying169 htl i8 ?_); (try simp only[Act.put,zzd,zze,zzf]))
        | ((with_reducible refine wpl_ld rfl 5 _ rfl _ rfl .u8 Tryz.underlying5 _ (hbc.val (T k) htl) ?_); (try simp only[Act.put,zzd,zze,zzf]))
        | ((with_reducible refine wpl_st rfl 5 _ _ rfl _ rfl .u8 _ rfl i8 _ (hh.val k hlt4) (hh.free k) ?_); (try simp only[Act.put,zzd,zze,zzf])))
       go_round
       case rel=>
        rw[HTk.out]
        exact⟨k+1,_,by omega,val_int (by omega),hid (fill_step (F:=fun j=>Gf.box (T1 j)) HT.out),hh.put k _,hBc.setCell (by simp) _⟩
       case measure=>simp[intOf];omega
      have Hk4:=hid (show k=4 by omega)
      have HW:Hid (SameW T 32 key t):=hid (by
       intro q hq
       unfold nw
       rw[if_neg T1h.out,if_pos ⟨rfl,T2h.out⟩,show 32+4*t-4=28+4*t by omega,HT.out q,if_pos (by have:=Hk4.out;omega),HE2.out])
      clear HT HE2 HT1
      generalize T=W at*
      go_wp2_with fail
      try rw[show(8+(t:Int))%8=(t:Int)%8 by omega]
      go_loopw [12] (fun y wr=> ∃(k:Nat) (T:Nat→Nat),k≤4∧y= .int .i64 k∧Hid (∀j,T j=if j<k then W j ^^^ ex 32 key t (4*t+j) else W j)∧Blk wr wo.heap.size 193 (row 4 (b8 T))∧Below wo.heap.size wo wr) (fun y _=>4-(intOf y).toNat)
      case atStart=>exact⟨0,W,by omega,rfl,hid (by simp),hh,hBc⟩
      case round=>
       clear hh hBc
       obtain⟨k,T,hk4,rfl,HT,hh,hBc⟩:=hrel
       by_cases hlt4:k<4
       ·have HTk:=hid (show T k=W k by rw[HT.out k,if_neg (by omega)])
        have HWk:=hid (HW.out k hlt4)
        have hwl:=nw_lt 32 (ex 32 key t) t k Hx.out
        have hxl:=Hx.out (4*t+k)
        have hgc:=(hBc.cell (p:=⟨g,t*4+k,none⟩) hgl).trans (Hgc.out (t*4+k) (by omega))
        rw[show t*4+k=4*t+k by omega] at hgc
        go_wp2_with fail
        refine wp_region_still_tail 14 (by kernel_rfl) (by kernel_rfl) ?_
        simp only[List.take_succ_cons,List.take_zero,List.drop_succ_cons,List.drop_zero]
        change wpStill _ _ wr.drew (fun a'=>wpList _ _ _ _ a' wr.drew) _ _
        have hh':Blk wr.drew wo.heap.size 193 (row 4 (b8 T)):=hh
        have hd2:wr.drew.cell? ⟨g,t*4+k,none⟩=some (.int .u8 ((ex 32 key t (4*t+k):Nat):Int)):=by rw[show t*4+k=4*t+k by omega];exact hgc
        have hB':=hBc.drew
        clear hh hBc hgc
        generalize wr.drew=w4 at*
        have hd1:=hh'.val k hlt4
        have y1:=wrap_i64 (8+(t:Int)-8) (t:Int) (by omega) (by omega) (by omega)
        have y2:=wrap_i64 (t:Int) (t:Int) rfl (by omega) (by omega)
        repeat (first
         | ((with_reducible refine wps_at rfl 193 _ _ rfl wo.heap.size rfl .i64 _ rfl k rfl 4 5 Tryz.underlying193 hlt4 i8 ?_); (try simp only[Act.put,zzd,zze,zzf]))
         | ((with_reducible refine wps_val rfl _ (exec_slN 192 _ _ rfl g (8+t) c5 rfl .i64 _ rfl t (by omega) 193 Tryz.underlying192 (by omega) 4 i4) ?_); (try simp only[Act.put,zzd,zze,zzf]))
         | ((with_reducible refine wps_val rfl _ (exec_atO 193 _ _ rfl g (t*4) rfl .i64 _ rfl k rfl 4 5 Tryz.underlying193 hlt4 i8) ?_); (try simp only[Act.put,zzd,zze,zzf]))
         | ((with_reducible refine wps_ld rfl 5 _ rfl _ rfl .u8 Tryz.underlying5 _ hd1 ?_); (try simp only[Act.put,zzd,zze,zzf]))
         | ((with_reducible refine wps_ld rfl 5 _ rfl _ rfl .u8 Tryz.underlying5 _ hd2 ?_); (try simp only[Act.put,zzd,zze,zzf]))
         | still_step)
        refine wpStill_nil ?_
        clear y1 y2
        go_wp2_with ((with_reducible refine wpl_st rfl 5 _ _ rfl _ rfl .u8 _ rfl i8 _ hd1 (hh'.free k) ?_); (try simp only[Act.put,zzd,zze,zzf]))
        go_round
        case rel=>
         rw[HTk.out,HWk.out,u8_xor_nat _ _ hwl hxl]
         refine⟨k+1,_,by omega,val_int (by omega),hid (fill_step (F:=fun j=>W j ^^^ ex 32 key t (4*t+j)) HT.out),?_,hB'.setCell (by simp) _⟩
         show Blk _ _ _ (row 4 (b8 (upd T k (W k ^^^ ex 32 key t (4*t+k)))))
         rw[HWk.out]
         exact hh'.put k _
        case measure=>simp[intOf];omega
       have Hk4:=hid (show k=4 by omega)
       have hoc:=ho.below hBc (Nat.le_refl _)
       have hszc:=Nat.le_trans hB.size hBc.size
       go_wp2_with (first
        | ((with_reducible refine wpl_load rfl 193 _ rfl _ rfl 193 _ hh 4 5 Tryz.underlying193 (i4' _) ?_); (try simp only[Act.put,zzd,zze,zzf]))
        | ((with_reducible refine wpl_bs rfl 192 _ rfl (.agg (row 4 (b8 T))) rfl (row 4 (b8 T)) 193 (bs4' T wr) ?_); (try simp only[Act.put,zzd,zze,zzf]))
        | (at_builtin;with_reducible refine wpl_app rfl _ _ 192 rfl wb.heap.size 193 4 _ Tryz.underlying192 infoA4 hz4 (by omega) _ (8+t) _ rfl hoc 1 T _ (cs14 T) rfl (by omega) hszc ?_))
       intro v' w6 ho6 hB6
       have ho7:Own w6 wb.heap.size 193 4 v' (8+(t+1)) (ex 32 key (t+1)):=ho6.ext (cat4 (ex 32 key t) T (ex 32 key (t+1)) (8+t) (fun i hi=>ex_old 32 key t i (by omega)) (fun j hj=>by
        rw[show(8+t)*4+j=32+4*t+j by omega,ex_new 32 key t j hj,HT.out j,if_pos (by have:=Hk4.out;omega),HW.out j hj,Nat.xor_comm]))
       have hB7:=(hB.trans (hBc.mono hB.size)).trans hB6
       clear hh hBc hoc ho6 hB6 ho
       go_wp2_with fail
       go_round
       case rel=>exact⟨t+1,by omega,val_int (by omega),ho7,hB7⟩
       case measure=>simp[intOf];omega
    have t1:((8+(t:Int))%8 == 0)=false:=by simp;omega
    have t1b:((t:Int)%8 == 0)=false:=by simp;omega
    have T1h:=hid hm
    have t2:((8+(t:Int))%8 == 4)=false:=by simp;omega
    have t2b:((t:Int)%8 == 4)=false:=by simp;omega
    have T2h:=hid hm2
    clear hm2
    clear hm
    go_wp2_with (first
     | ((with_reducible refine wpl_val rfl _ (exec_slN 192 _ _ rfl g (8+t) c5 rfl .i64 _ rfl (7+t) (by omega) 193 Tryz.underlying192 (by omega) 4 i4) ?_); (try simp only[Act.put,zzd,zze,zzf]))
     | ((with_reducible refine wpl_val rfl _ (exec_loadO 193 _ rfl g ((7+t)*4) rfl 4 (fun j=>ex 32 key t (28+4*t+j)) HL.out 5 Tryz.underlying193 i4) ?_); (try simp only[Act.put,zzd,zze,zzf]))
     | ((with_reducible refine wpl_alloc rfl 193 rfl _ z4 ?_); (try simp only[Act.put,zzd,zze,zzf]))
     | ((with_reducible refine wpl_store_new rfl 193 _ _ rfl wo _ 4 _ rfl rfl 193 i4 (row_size _ _) ?_); (try simp only[Act.put,zzd,zze,zzf])))
    have hh:=Blk.fresh wo 193 (row 4 (b8 fun j=>ex 32 key t (28+4*t+j)))
    have hBc:Below wo.heap.size wo (wo.alloc (.cells (row 4 (b8 fun j=>ex 32 key t (28+4*t+j))) 193)):=(Below.refl _ _).alloc (Nat.le_refl _) _
    have HW:Hid (SameW (fun j=>ex 32 key t (28+4*t+j)) 32 key t):=hid (by
     intro q hq
     unfold nw
     rw[if_neg T1h.out,if_neg (fun h=>T2h.out h.2),show 32+4*t-4=28+4*t by omega])
    generalize wo.alloc (.cells (row 4 (b8 fun j=>ex 32 key t (28+4*t+j))) 193)=w2 at*
    generalize (fun j=>ex 32 key t (28+4*t+j))=W at*
    try rw[show(8+(t:Int))%8=(t:Int)%8 by omega]
    go_loopw [12] (fun y wr=> ∃(k:Nat) (T:Nat→Nat),k≤4∧y= .int .i64 k∧Hid (∀j,T j=if j<k then W j ^^^ ex 32 key t (4*t+j) else W j)∧Blk wr wo.heap.size 193 (row 4 (b8 T))∧Below wo.heap.size wo wr) (fun y _=>4-(intOf y).toNat)
    case atStart=>exact⟨0,W,by omega,rfl,hid (by simp),hh,hBc⟩
    case round=>
     clear hh hBc
     obtain⟨k,T,hk4,rfl,HT,hh,hBc⟩:=hrel
     by_cases hlt4:k<4
     ·have HTk:=hid (show T k=W k by rw[HT.out k,if_neg (by omega)])
      have HWk:=hid (HW.out k hlt4)
      have hwl:=nw_lt 32 (ex 32 key t) t k Hx.out
      have hxl:=Hx.out (4*t+k)
      have hgc:=(hBc.cell (p:=⟨g,t*4+k,none⟩) hgl).trans (Hgc.out (t*4+k) (by omega))
      rw[show t*4+k=4*t+k by omega] at hgc
      go_wp2_with fail
      refine wp_region_still_tail 14 (by kernel_rfl) (by kernel_rfl) ?_
      simp only[List.take_succ_cons,List.take_zero,List.drop_succ_cons,List.drop_zero]
      change wpStill _ _ wr.drew (fun a'=>wpList _ _ _ _ a' wr.drew) _ _
      have hh':Blk wr.drew wo.heap.size 193 (row 4 (b8 T)):=hh
      have hd2:wr.drew.cell? ⟨g,t*4+k,none⟩=some (.int .u8 ((ex 32 key t (4*t+k):Nat):Int)):=by rw[show t*4+k=4*t+k by omega];exact hgc
      have hB':=hBc.drew
      clear hh hBc hgc
      generalize wr.drew=w4 at*
      have hd1:=hh'.val k hlt4
      have y1:=wrap_i64 (8+(t:Int)-8) (t:Int) (by omega) (by omega) (by omega)
      have y2:=wrap_i64 (t:Int) (t:Int) rfl (by omega) (by omega)
      repeat (first
       | ((with_reducible refine wps_at rfl 193 _ _ rfl wo.heap.size rfl .i64 _ rfl k rfl 4 5 Tryz.underlying193 hlt4 i8 ?_); (try simp only[Act.put,zzd,zze,zzf]))
       | ((with_reducible refine wps_val rfl _ (exec_slN 192 _ _ rfl g (8+t) c5 rfl .i64 _ rfl t (by omega) 193 Tryz.underlying192 (by omega) 4 i4) ?_); (try simp only[Act.put,zzd,zze,zzf]))
       | ((with_reducible refine wps_val rfl _ (exec_atO 193 _ _ rfl g (t*4) rfl .i64 _ rfl k rfl 4 5 Tryz.underlying193 hlt4 i8) ?_); (try simp only[Act.put,zzd,zze,zzf]))
       | ((with_reducible refine wps_ld rfl 5 _ rfl _ rfl .u8 Tryz.underlying5 _ hd1 ?_); (try simp only[Act.put,zzd,zze,zzf]))
       | ((with_reducible refine wps_ld rfl 5 _ rfl _ rfl .u8 Tryz.underlying5 _ hd2 ?_); (try simp only[Act.put,zzd,zze,zzf]))
       | still_step)
      refine wpStill_nil ?_
      clear y1 y2
      go_wp2_with ((with_reducible refine wpl_st rfl 5 _ _ rfl _ rfl .u8 _ rfl i8 _ hd1 (hh'.free k) ?_); (try simp only[Act.put,zzd,zze,zzf]))
      go_round
      case rel=>
       rw[HTk.out,HWk.out,u8_xor_nat _ _ hwl hxl]
       refine⟨k+1,_,by omega,val_int (by omega),hid (fill_step (F:=fun j=>W j ^^^ ex 32 key t (4*t+j)) HT.out),?_,hB'.setCell (by simp) _⟩
       show Blk _ _ _ (row 4 (b8 (upd T k (W k ^^^ ex 32 key t (4*t+k)))))
       rw[HWk.out]
       exact hh'.put k _
      case measure=>simp[intOf];omega
     have Hk4:=hid (show k=4 by omega)
     have hoc:=ho.below hBc (Nat.le_refl _)
     have hszc:=Nat.le_trans hB.size hBc.size
     go_wp2_with (first
      | ((with_reducible refine wpl_load rfl 193 _ rfl _ rfl 193 _ hh 4 5 Tryz.underlying193 (i4' _) ?_); (try simp only[Act.put,zzd,zze,zzf]))
      | ((with_reducible refine wpl_bs rfl 192 _ rfl (.agg (row 4 (b8 T))) rfl (row 4 (b8 T)) 193 (bs4' T wr) ?_); (try simp only[Act.put,zzd,zze,zzf]))
      | (at_builtin;with_reducible refine wpl_app rfl _ _ 192 rfl wb.heap.size 193 4 _ Tryz.underlying192 infoA4 hz4 (by omega) _ (8+t) _ rfl hoc 1 T _ (cs14 T) rfl (by omega) hszc ?_))
     intro v' w6 ho6 hB6
     have ho7:Own w6 wb.heap.size 193 4 v' (8+(t+1)) (ex 32 key (t+1)):=ho6.ext (cat4 (ex 32 key t) T (ex 32 key (t+1)) (8+t) (fun i hi=>ex_old 32 key t i (by omega)) (fun j hj=>by
      rw[show(8+t)*4+j=32+4*t+j by omega,ex_new 32 key t j hj,HT.out j,if_pos (by have:=Hk4.out;omega),HW.out j hj,Nat.xor_comm]))
     have hB7:=(hB.trans (hBc.mono hB.size)).trans hB6
     clear hh hBc hoc ho6 hB6 ho
     go_wp2_with fail
     go_round
     case rel=>exact⟨t+1,by omega,val_int (by omega),ho7,hB7⟩
     case measure=>simp[intOf];omega
   have Ht:Hid (t=52):=hid (by omega)
   go_wp2_with fail
   go_loopw [13,14] (fun v i wr=> ∃k:Nat,k≤8+t∧i= .int .i64 k∧Own wr wo.heap.size 5 1 v (4*k) (ex 32 key t)∧Below wo.heap.size wo wr) (fun _ i _=>8+t-(intOf i).toNat)
   case atStart=>exact⟨0,by omega,rfl,Own.nil _ _ _ _ _,Below.refl _ _⟩
   case round=>
    obtain⟨k,hk6,rfl,ho6,hB6⟩:=hrel
    by_cases hlt6:k<8+t
    ·have hcell: ∀W,Below wo.heap.size wo W→∀j,j<4→W.cell? ⟨g,k*4+j,none⟩=some (.int .u8 ((ex 32 key t (4*k+j):Nat):Int)):=fun W hW j hj=>by
      rw[show 4*k+j=k*4+j by omega]
      exact(hW.cell (p:=⟨g,k*4+j,none⟩) hgl).trans (Hgc.out (k*4+j) (by omega))
     have Hc:=hid hcell
     clear hcell
     go_wp2_with fail
     refine wp_region_held_drew (S:=fun w'=>Below wo.heap.size wo w') (by kernel_rfl) hB6.drew (fun hS0=>?_)
     refine ztk (i:=0) rfl (fun W hW=>exec_move _ rfl _ rfl) hS0 ?_
     (try simp only[Act.put,zza,zzb,zzc,zzd,zze,zzf])
     refine ztk (i:=1) rfl (fun W hW=>exec_move _ rfl _ rfl) hS0 ?_
     (try simp only[Act.put,zza,zzb,zzc,zzd,zze,zzf])
     refine ztk (i:=2) rfl (fun W hW=>exec_move _ rfl _ rfl) hS0 ?_
     (try simp only[Act.put,zza,zzb,zzc,zzd,zze,zzf])
     refine ztk (i:=3) rfl (fun W hW=>exec_slN 192 _ _ rfl g (8+t) c5 rfl .i64 _ rfl k rfl 193 Tryz.underlying192 hlt6 4 i4) hS0 ?_
     (try simp only[Act.put,zza,zzb,zzc,zzd,zze,zzf])
     refine ztk (i:=4) rfl (fun W hW=>exec_atO 193 _ _ rfl g (k*4) rfl .i64 _ rfl 0 rfl 4 5 Tryz.underlying193 (by omega) i8) hS0 ?_
     (try simp only[Act.put,zza,zzb,zzc,zzd,zze,zzf])
     refine ztk (i:=5) rfl (fun W hW=>exec_ld 5 _ rfl _ rfl .u8 Tryz.underlying5 _ (Hc.out W hW 0 (by omega))) hS0 ?_
     (try simp only[Act.put,zza,zzb,zzc,zzd,zze,zzf])
     refine ztk (i:=6) rfl (fun W hW=>exec_move _ rfl _ rfl) hS0 ?_
     (try simp only[Act.put,zza,zzb,zzc,zzd,zze,zzf])
     refine ztk (i:=7) rfl (fun W hW=>exec_move _ rfl _ rfl) hS0 ?_
     (try simp only[Act.put,zza,zzb,zzc,zzd,zze,zzf])
     refine ztk (i:=8) rfl (fun W hW=>exec_slN 192 _ _ rfl g (8+t) c5 rfl .i64 _ rfl k rfl 193 Tryz.underlying192 hlt6 4 i4) hS0 ?_
     (try simp only[Act.put,zza,zzb,zzc,zzd,zze,zzf])
     refine ztk (i:=9) rfl (fun W hW=>exec_atO 193 _ _ rfl g (k*4) rfl .i64 _ rfl 1 rfl 4 5 Tryz.underlying193 (by omega) i8) hS0 ?_
     (try simp only[Act.put,zza,zzb,zzc,zzd,zze,zzf])
     refine ztk (i:=10) rfl (fun W hW=>exec_ld 5 _ rfl _ rfl .u8 Tryz.underlying5 _ (Hc.out W hW 1 (by omega))) hS0 ?_
     (try simp only[Act.put,zza,zzb,zzc,zzd,zze,zzf])
     refine ztk (i:=11) rfl (fun W hW=>exec_move _ rfl _ rfl) hS0 ?_
     (try simp only[Act.put,zza,zzb,zzc,zzd,zze,zzf])
     refine ztk (i:=12) rfl (fun W hW=>exec_move _ rfl _ rfl) hS0 ?_
     (try simp only[Act.put,zza,zzb,zzc,zzd,zze,zzf])
     refine ztk (i:=13) rfl (fun W hW=>exec_slN 192 _ _ rfl g (8+t) c5 rfl .i64 _ rfl k rfl 193 Tryz.underlying192 hlt6 4 i4) hS0 ?_
     (try simp only[Act.put,zza,zzb,zzc,zzd,zze,zzf])
     refine ztk (i:=14) rfl (fun W hW=>exec_atO 193 _ _ rfl g (k*4) rfl .i64 _ rfl 2 rfl 4 5 Tryz.underlying193 (by omega) i8) hS0 ?_
     (try simp only[Act.put,zza,zzb,zzc,zzd,zze,zzf])
     refine ztk (i:=15) rfl (fun W hW=>exec_ld 5 _ rfl _ rfl .u8 Tryz.underlying5 _ (Hc.out W hW 2 (by omega))) hS0 ?_
     (try simp only[Act.put,zza,zzb,zzc,zzd,zze,zzf])
     refine ztk (i:=16) rfl (fun W hW=>exec_move _ rfl _ rfl) hS0 ?_
     (try simp only[Act.put,zza,zzb,zzc,zzd,zze,zzf])
     refine ztk (i:=17) rfl (fun W hW=>exec_move _ rfl _ rfl) hS0 ?_
     (try simp only[Act.put,zza,zzb,zzc,zzd,zze,zzf])
     refine ztk (i:=18) rfl (fun W hW=>exec_slN 192 _ _ rfl g (8+t) c5 rfl .i64 _ rfl k rfl 193 Tryz.underlying192 hlt6 4 i4) hS0 ?_
     (try simp only[Act.put,zza,zzb,zzc,zzd,zze,zzf])
     refine ztk (i:=19) rfl (fun W hW=>exec_atO 193 _ _ rfl g (k*4) rfl .i64 _ rfl 3 rfl 4 5 Tryz.underlying193 (by omega) i8) hS0 ?_
     (try simp only[Act.put,zza,zzb,zzc,zzd,zze,zzf])
     refine ztk (i:=20) rfl (fun W hW=>exec_ld 5 _ rfl _ rfl .u8 Tryz.underlying5 _ (Hc.out W hW 3 (by omega))) hS0 ?_
     (try simp only[Act.put,zza,zzb,zzc,zzd,zze,zzf])
     refine wpAnyH_ready (rs:=[21]) (by kernel_rfl) (by simp) (AllReadyH.cons rfl (fun K hK=>?_) AllReadyH.nil)
     (try simp only[Act.put,zza,zzb,zzc,zzd,zze,zzf])
     refine Eq.mpr (if_pos (by rfl)) ?_
     refine wp_bsB4 _ _ _ _ rfl (fun j=>ex 32 key t (4*k+j)) _ _ _ _ rfl rfl rfl rfl rfl rfl rfl rfl ?_
     refine hK.out _ _ (hS0.alloc hS0.size _) (fun hS1=>?_)
     (try simp only[Act.put,zza,zzb,zzc,zzd,zze,zzf])
     refine wpAnyH_ready (rs:=[22]) (by kernel_rfl) (by simp) (AllReadyH.cons rfl (fun K hK=>?_) AllReadyH.nil)
     (try simp only[Act.put,zza,zzb,zzc,zzd,zze,zzf])
     refine Eq.mpr (if_pos (by rfl)) ?_
     refine wp_app _ _ 22 rfl wo.heap.size 5 1 (.int .u8 0) Tryz.underlying22 info8 rfl (by omega) _ (4*k) _ rfl (show Own wr.drew wo.heap.size 5 1 u13 (4*k) (ex 32 key t) from ho6) 4 (fun j=>ex 32 key t (4*k+j)) _ (cs41 _) rfl (by omega) hB6.size ?_
     intro v' w7 ho7 hB7
     have ho8:Own w7 wo.heap.size 5 1 v' (4*(k+1)) (ex 32 key t):=ho7.ext (cat41 (ex 32 key t) _ k (fun j _=>rfl))
     have hB8:=hB6.drew.trans hB7
     refine hK.out _ _ hB8 (fun hS2=>?_)
     clear ho6 ho7 hB7
     (try simp only[Act.put,zza,zzb,zzc,zzd,zze,zzf])
     refine ztk (i:=23) rfl (fun W hW=>exec_assign _ rfl _ rfl) hS2 ?_
     (try simp only[Act.put,zza,zzb,zzc,zzd,zze,zzf])
     refine wpAnyH_done (by kernel_rfl) ?_ _
     go_wp2_with fail
     go_round
     case rel=>exact⟨k+1,by omega,val_int (by omega),ho8,hB8⟩
     case measure=>simp[intOf];omega
    have Hk6:Hid (k=8+t):=hid (by omega)
    obtain⟨A',c',rfl,hcap⟩:=ho6.slice
    go_wp2_with fail
    go_ret
    refine⟨A',c',?_,by have:=Hk6.out;have:=Ht.out;omega,?_,?_⟩
    ·rw[Hk6.out,Ht.out];rfl
    ·have hr:=ho6.reads
     rw[Hk6.out,Ht.out] at hr
     exact hr
    exact hBb.trans ((hB.mono hBb.size).trans (hB6.mono (Nat.le_trans hBb.size hB.size)))
end Go.Proofs.YtlmacfmfmjhidaaGreatDoor.Aes
