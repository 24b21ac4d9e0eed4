/-
 What lockboxref05.Do returns of AES, forth.
-/
import Derived.Test.YtlmacfmfmjhidaaGreatDoorRefHX
import Derived.Test.YtlmacfmfmjhidaaGreatDoorRef02E
import Derived.Test.YtlmacfmfmjhidaaGreatDoorDraw
namespace Go.Proofs.YtlmacfmfmjhidaaGreatDoor.Bk
open Mem Go.ChangeShapes Go.WideShapes Go.ChangeAt Go.RowKit
set_option linter.unusedSimpArgs false in
set_option maxRecDepth 100000 in
set_option maxHeartbeats 1000000 in
theorem rdo_forth (Ar:Option Addr) (lr cr:Nat) (At:Option Addr) (lt ct:Nat) (Ak:Option Addr) (Lk ck:Nat) (key:Nat→Nat) (Ax:Option Addr) (cx:Nat) (x:Nat→Nat) (w:World)
  (hL:Aes.IsKey Lk) (hkey:Reads w w.heap.size Ak Lk key) (hkb: ∀i,i<Lk→key i<256) (hx:Reads w w.heap.size Ax 16 x) (hxb: ∀i,i<16→x i<256) (y:Nat→Nat) (hy:Aes.enc (Aes.words Lk key) (Aes.rnd Lk) x=y):
  Calls Tryz.prog 63 #[.int .i64 1, .slice Ak Lk ck, .agg (row 2 (bookC (.slice Ar lr cr) (.slice At lt ct))), .slice Ax 16 cx, .bool false] w fun e w'=> ∃g,e= .returned (.tuple #[.agg #[.slice Ar lr cr, .slice At lt ct], .slice (some ⟨g,0,none⟩) 16 16, .bool true])∧Blk w' g 150 (row 16 (b8 y))∧w.heap.size≤g∧Below w.heap.size w w':=by
 have HL:=hid hL
 have HK:=hid hkey
 have Hkb:=hid hkb
 have HX:=hid hx
 have Hxb:=hid hxb
 have HY:=hid hy
 have hB0:Below w.heap.size w (((w.alloc (.cells (row 2 (bookC (.slice Ar lr cr) (.slice At lt ct))) 72)).alloc (.cells (row 2 (bookC (.slice none 0 0) (.slice none 0 0))) 72)).alloc (.cells (row 16 (b8 fun _=>0)) 150)):=(((Below.refl _ _).alloc (Nat.le_refl _) _).alloc (by simp) _).alloc (by simp;omega) _
 have h7:Blk (((w.alloc (.cells (row 2 (bookC (.slice Ar lr cr) (.slice At lt ct))) 72)).alloc (.cells (row 2 (bookC (.slice none 0 0) (.slice none 0 0))) 72)).alloc (.cells (row 16 (b8 fun _=>0)) 150)) w.heap.size 72 (row 2 (bookC (.slice Ar lr cr) (.slice At lt ct))):=((Blk.fresh _ _ _).alloc _).alloc _
 have h10:Blk (((w.alloc (.cells (row 2 (bookC (.slice Ar lr cr) (.slice At lt ct))) 72)).alloc (.cells (row 2 (bookC (.slice none 0 0) (.slice none 0 0))) 72)).alloc (.cells (row 16 (b8 fun _=>0)) 150)) (w.heap.size+1) 72 (row 2 (bookC (.slice none 0 0) (.slice none 0 0))):=by
  have:=(Blk.fresh (w.alloc (.cells (row 2 (bookC (.slice Ar lr cr) (.slice At lt ct))) 72)) 72 (row 2 (bookC (.slice none 0 0) (.slice none 0 0)))).alloc (.cells (row 16 (b8 fun _=>0)) 150)
  simpa using this
 have h13:Blk (((w.alloc (.cells (row 2 (bookC (.slice Ar lr cr) (.slice At lt ct))) 72)).alloc (.cells (row 2 (bookC (.slice none 0 0) (.slice none 0 0))) 72)).alloc (.cells (row 16 (b8 fun _=>0)) 150)) (w.heap.size+1+1) 150 (row 16 (b8 fun _=>0)):=by
  have:=Blk.fresh ((w.alloc (.cells (row 2 (bookC (.slice Ar lr cr) (.slice At lt ct))) 72)).alloc (.cells (row 2 (bookC (.slice none 0 0) (.slice none 0 0))) 72)) 150 (row 16 (b8 fun _=>0))
  simpa using this
 clear hL hkey hkb hx hxb hy
 go_enter Tryz.func63,Tryz.ntmps63
 go_wp2_with (first
  | (with_reducible refine wpl_alloc rfl 72 rfl _ zRB2 ?_)
  | (with_reducible refine wpl_alloc rfl 150 rfl _ z16 ?_))
 generalize (((w.alloc (.cells (row 2 (bookC (.slice Ar lr cr) (.slice At lt ct))) 72)).alloc (.cells (row 2 (bookC (.slice none 0 0) (.slice none 0 0))) 72)).alloc (.cells (row 16 (b8 fun _=>0)) 150))=w1 at*
 go_loopw [14] (fun vi wr=> ∃(q:Nat) (m:Nat→Nat),q≤16∧vi= .int .i64 q∧Hid (∀j,m j=if j<q then x j else 0)∧Blk wr w.heap.size 72 (row 2 (bookC (.slice Ar lr cr) (.slice At lt ct)))∧Blk wr (w.heap.size+1) 72 (row 2 (bookC (.slice none 0 0) (.slice none 0 0)))∧Blk wr (w.heap.size+1+1) 150 (row 16 (b8 m))∧Below w.heap.size w wr) (fun vi _=>16-(intOf vi).toNat)
 case atStart=>exact⟨0,fun _=>0,by omega,rfl,hid (by simp),h7,h10,h13,hB0⟩
 case round=>
  clear h7 h10 h13 hB0
  obtain⟨q,m,hq,rfl,HM,h7,h10,h13,hB⟩:=hrel
  by_cases hlt:q<16
  ·obtain⟨ad,rfl,had,hcs⟩:=HX.out (by omega)
   have hcx:=(hB.cell (p:=ad.add q) (by rw[add_block];exact had)).trans (hcs q hlt)
   clear hcs
   go_wp2_with (first
    | (with_reducible refine wpl_sl1 rfl 22 _ _ rfl ad 16 cx rfl .i64 _ rfl q rfl 5 Tryz.underlying22 hlt i8q ?_)
    | (with_reducible refine wpl_ld rfl 5 _ rfl _ rfl .u8 Tryz.underlying5 _ hcx ?_)
    | (with_reducible refine wpl_at rfl 150 _ _ rfl _ rfl .i64 _ rfl q rfl 16 5 Tryz.underlying150 hlt i8q ?_)
    | (with_reducible refine wpl_st rfl 5 _ _ rfl _ rfl .u8 _ rfl i8q _ (h13.val q hlt) (h13.free q) ?_))
   go_round
   case rel=>exact⟨q+1,upd m q (x q),by omega,val_int (by omega),hid (fill_step (F:=x) HM.out),h7.other _ _ (by simp;omega),h10.other _ _ (by simp),h13.put q _,hB.setCell (by simp;omega) _⟩
   case measure=>simp[intOf];omega
  have h13x:Blk wr (w.heap.size+1+1) 150 (row 16 (b8 x)):=by rw[← row_b8_ext (fill_end HM.out (n:=16) (by omega))];exact h13
  have H7:=hid h7
  have H10:=hid h10
  have H13:=hid h13x
  have HB:=hid hB
  clear h7 h10 h13 h13x hB HM
  go_wp2_with (with_reducible refine wpl_load rfl 150 _ rfl _ rfl 150 _ H13.out 16 5 Tryz.underlying150 (i16' _) ?_)
  refine(Aes.renc_any Ak Lk ck HL.out key x _ Hkb.out Hxb.out ((HK.out.below HB.out).more HB.out.size)).mono ?_
  rintro e w2 ⟨rfl,hB2⟩
  rw[HY.out]
  have h7a:=H7.out.below hB2 H7.out.lt
  have h10a:=H10.out.below hB2 H10.out.lt
  have h13a:=H13.out.below hB2 H13.out.lt
  have hBa:=HB.out.trans (hB2.mono HB.out.size)
  have H7b:=hid (h7a.otherRow (w.heap.size+1+1) (row 16 (b8 y)) (by omega))
  have H10b:=hid (h10a.otherRow (w.heap.size+1+1) (row 16 (b8 y)) (by omega))
  have H13b:=hid (h13a.setRow (row 16 (b8 y)))
  have HBb:=hid (below_setRow' hBa (show w.heap.size≤w.heap.size+1+1 by omega) (row 16 (b8 y)))
  have H13a:=hid h13a
  clear h7a h10a h13a hBa hB2 H7 H10 H13 HB
  go_wp2_with (with_reducible refine wpl_store rfl 150 _ _ rfl _ _ rfl rfl 150 _ H13a.out (i16' _) (by simp[row_size]) (one_b8 _ _) ?_)
  generalize w2.setRow (w.heap.size+1+1) (row 16 (b8 y))=w3 at*
  have d7: ∀W,Only (w.heap.size+1) w3 W→∀j,j<2→W.cell? ((⟨w.heap.size,0,none⟩:Addr).add j)=some (bookC (.slice Ar lr cr) (.slice At lt ct) j):=fun W hW j hj=>by
   rw[add_zero_off]
   exact((hW.blk H7b.out (by omega)).cell j).trans (row_get 2 _ j hj)
  refine wp_region_held_drew (S:=fun W=>Only (w.heap.size+1) w3 W) (by kernel_rfl) (Only.refl _ _).drew (fun hS0=>?_)
  refine ztk (i:=0) (v:= .agg (row 2 (bookC (.slice Ar lr cr) (.slice At lt ct)))) rfl (fun W hW=>exec_loadSt 72 _ rfl ⟨w.heap.size,0,none⟩ rfl 2 _ (d7 W hW) _ Tryz.underlying72 iRB) hS0 ?_
  (try simp only[Act.put,zza,zzb,zzc,zzd,zze,zzf])
  refine ztk (i:=1) (v:= .slice (some ⟨w.heap.size+1+1,0,none⟩) 16 16) rfl (fun W _=>by go_simp) hS0 ?_
  (try simp only[Act.put,zza,zzb,zzc,zzd,zze,zzf])
  refine wpAnyH_ready (rs:=[2]) (by kernel_rfl) (by simp) (ready_one rfl rfl (fun K hK=>?_))
  (try simp only[Act.put,zza,zzb,zzc,zzd,zze,zzf])
  have d10:Blk w3.drew (w.heap.size+1) 72 (row 2 (bookC (.slice none 0 0) (.slice none 0 0))):=H10b.out
  with_reducible refine wp_store_blk 72 _ _ rfl (w.heap.size+1) (row 2 (bookC (.slice Ar lr cr) (.slice At lt ct))) rfl rfl 72 _ d10 (iRB' _) (by simp[row_size]) (one2 _ _ _ _ _ _) ?_
  (try simp only[Act.put,zza,zzb,zzc,zzd,zze,zzf])
  refine hK.out _ _ (hS0.setRow _) (fun hSz=>?_)
  (try simp only[Act.put,zza,zzb,zzc,zzd,zze,zzf])
  refine ztk (i:=3) (v:= .slice (some ⟨w.heap.size+1+1,0,none⟩) 16 16) rfl (fun _ _=>exec_assign _ rfl _ rfl) hSz ?_
  (try simp only[Act.put,zza,zzb,zzc,zzd,zze,zzf])
  refine ztk (i:=4) (v:= .bool true) rfl (fun _ _=>exec_assign _ rfl _ rfl) hSz ?_
  (try simp only[Act.put,zza,zzb,zzc,zzd,zze,zzf])
  refine wpAnyH_done (by kernel_rfl) ?_ _
  clear hK
  have dB:=HBb.out.drew
  have d13:Blk w3.drew (w.heap.size+1+1) 150 (row 16 (b8 y)):=H13b.out
  generalize w3.drew=w4 at*
  have hBf:=below_setRow' dB (Nat.le_succ w.heap.size) (row 2 (bookC (.slice Ar lr cr) (.slice At lt ct)))
  go_wp2_with fail
  exact ret_row3 Tryz.results63 rfl (w.heap.size+1) rfl _ rfl _ rfl 72 2 _ (d10.setRow _) _ Tryz.underlying72 iRB ⟨w.heap.size+1+1,by rw[row2];rfl,d13.otherRow _ _ (by omega),by omega,hBf⟩
end Go.Proofs.YtlmacfmfmjhidaaGreatDoor.Bk
