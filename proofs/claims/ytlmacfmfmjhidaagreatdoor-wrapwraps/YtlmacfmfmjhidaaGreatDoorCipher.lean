/-
 The ciphers' closures: what each kind's turning returns.
-/
import Derived.Test.YtlmacfmfmjhidaaGreatDoorBookY
import Derived.Test.YtlmacfmfmjhidaaGreatDoorAesY
import Derived.Test.YtlmacfmfmjhidaaGreatDoorDesY
import Derived.Test.YtlmacfmfmjhidaaGreatDoorDraw
namespace Go.Proofs.YtlmacfmfmjhidaaGreatDoor.Bk
open Mem Go.ChangeShapes Go.WideShapes Go.ChangeAt Go.RowKit
open Des (exec_arr exec_loadR wpl_build)
section
variable {P:Program}{o:Oper}{a:Act}{w:World}
theorem exec_lds (ty:TypeId) (x:Operand) (ho:o.op= .load ty x) (p:Addr) (hx:a.eval x= .pointer (some p)) (e:TypeId) (hu:P.underlying ty=some (.slice e)) (v:Value) (hv:w.cell? p=some v):(execOp a.eval o).run P w= .ok (.value v) w:=by
 have hr:(Instr.loadAt ty (.pointer (some p))).run P w= .ok v w:=by
  simp[Instr.loadAt,Instr.sureAddr,loadVar,isAgg,Sem.run_bind,run_underlying hu,hv]
 unfold execOp
 simp only[ho,hx,hr,Sem.run_bind,Sem.run_pure,Result.andThen_ok]
end
theorem Reads.at {w:World}{B n:Nat}{A:Option Addr}{f:Nat→Nat} (h:Reads w B A n f) (hn:0<n): ∃ad:Addr,A=some ad∧ad.block<B∧∀i,i<n→w.cell? (ad.add i)=some (.int .u8 ((f i:Nat):Int)):=h hn
theorem cells_below {w w':World}{ad:Addr}{n:Nat}{f:Nat→Nat} (h: ∀i,i<n→w.cell? (ad.add i)=some (.int .u8 ((f i:Nat):Int))){B:Nat} (hB:Below B w w') (hb:ad.block<B): ∀i,i<n→w'.cell? (ad.add i)=some (.int .u8 ((f i:Nat):Int)):=
 fun i hi=>(hB.cell (p:=ad.add i) (by rw[add_block];exact hb)).trans (h i hi)
theorem enc_of (A:Option Addr) (L c:Nat) (hL:Aes.IsKey L) (key b y:Nat→Nat) (hy:Aes.enc (Aes.words L key) (Aes.rnd L) b=y) (w:World) (hk: ∀i,i<L→key i<256) (hb:Aes.By16 b) (hR:Reads w w.heap.size A L key):
  Calls Tryz.prog 123 #[.slice A L c, .agg (row 16 (b8 b))] w fun e w'=>e= .returned (.tuple #[.agg (row 16 (b8 y)), .nilIface])∧Below w.heap.size w w':=by
 subst hy;exact Aes.enc_any A L c hL key b w hk hb hR
theorem dec_of (A:Option Addr) (L c:Nat) (hL:Aes.IsKey L) (key b y:Nat→Nat) (hy:Aes.dec (Aes.words L key) (Aes.rnd L) b=y) (w:World) (hk: ∀i,i<L→key i<256) (hb:Aes.By16 b) (hR:Reads w w.heap.size A L key):
  Calls Tryz.prog 124 #[.slice A L c, .agg (row 16 (b8 b))] w fun e w'=>e= .returned (.tuple #[.agg (row 16 (b8 y)), .nilIface])∧Below w.heap.size w w':=by
 subst hy;exact Aes.dec_any A L c hL key b w hk hb hR
theorem triple_of (A:Option Addr) (L c:Nat) (hL:Des.IsTKey L) (hc:L≤c) (key b y:Nat→Nat) (back:Bool) (hy:Des.tdes L key b back=y) (w:World) (hk: ∀i,i<L→key i<256) (hb:Des.By8 b) (hR:Reads w w.heap.size A L key):
  Calls Tryz.prog 126 #[.slice A L c, .agg (row 8 (b8 b)), .bool back] w fun e w'=>e= .returned (.tuple #[.agg (row 8 (b8 y)), .nilIface])∧Below w.heap.size w w':=by
 subst hy;exact Des.triple_any A L c hL hc key b back w hk hb hR
set_option linter.unusedSimpArgs false in
set_option maxRecDepth 100000 in
set_option maxHeartbeats 1000000 in
theorem aes_forth (ad:Addr) (c kb:Nat) (Ak:Option Addr) (Lk ck:Nat) (ky x:Nat→Nat) (w:World) (hL:Aes.IsKey Lk) (hk: ∀i,i<Lk→ky i<256) (hx: ∀i,i<16→x i<256) (hb:Blk w kb 22 #[.slice Ak Lk ck]) (hR:Reads w w.heap.size Ak Lk ky) (had:ad.block<w.heap.size) (hc: ∀i,i<16→w.cell? (ad.add i)=some (.int .u8 ((x i:Nat):Int))) (y:Nat→Nat) (hy:Aes.enc (Aes.words Lk ky) (Aes.rnd Lk) x=y):
  Calls Tryz.prog 122 #[.slice (some ad) 16 c, .bool false, .pointer (some ⟨kb,0,none⟩)] w fun e w'=> ∃g,e= .returned (.tuple #[.slice (some ⟨g,0,none⟩) 16 16, .nilIface])∧Blk w' g 150 (row 16 (b8 y))∧w.heap.size≤g∧Below w.heap.size w w':=by
 have Hkb:=hid hb
 have HR:=hid hR
 have Hx:=hid hc
 have HL:=hid hL
 have Hk:=hid hk
 have Hb:=hid hx
 have had:=hid had
 have Hy:=hid hy
 clear hb hR hc hL hk hx hy
 go_enter Tryz.func122,Tryz.ntmps122
 go_wp2_with fail
 apply suff (F:=Past w 150 (row 16 (b8 y)))
 case h1=>
  intro key
  refine wp_region_held_drew (S:=fun W=>Below w.heap.size w W) (by kernel_rfl) (Below.refl _ _).drew (fun hS0=>?_)
  refine ztk (i:=0) (v:= .func (.func 123) #[] #[]) rfl (fun _ _=>exec_move _ rfl _ rfl) hS0 ?_
  (try simp only[Act.put,zza,zzb,zzc,zzd,zze,zzf])
  refine ztk (i:=1) (v:= .slice Ak Lk ck) rfl (fun W hW=>exec_lds 22 _ rfl ⟨kb,0,none⟩ rfl 5 Tryz.underlying22 _ ((Hkb.out.below hW Hkb.out.lt).cell 0)) hS0 ?_
  (try simp only[Act.put,zza,zzb,zzc,zzd,zze,zzf])
  refine ztk (i:=2) (v:= .slice (some ad) 16 c) rfl (fun _ _=>exec_move _ rfl _ rfl) hS0 ?_
  (try simp only[Act.put,zza,zzb,zzc,zzd,zze,zzf])
  refine ztk (i:=3) (v:= .pointer (some ad)) rfl (fun _ _=>exec_arr 150 _ rfl ad 16 c rfl 16 5 Tryz.underlying150 (Nat.le_refl _)) hS0 ?_
  (try simp only[Act.put,zza,zzb,zzc,zzd,zze,zzf])
  refine ztk (i:=4) (v:= .agg (row 16 (b8 x))) rfl (fun W hW=>exec_loadR 150 _ rfl ad rfl 16 x (cells_below Hx.out hW had.out) 5 Tryz.underlying150 i16) hS0 ?_
  (try simp only[Act.put,zza,zzb,zzc,zzd,zze,zzf])
  refine wpAnyH_ready (rs:=[5,9]) (by kernel_rfl) (by simp) ?_
  refine AllReadyH.cons rfl (fun K hK=>?_) (AllReadyH.cons rfl (fun K hK=>?_) AllReadyH.nil)
  ·(try simp only[Act.put,zza,zzb,zzc,zzd,zze,zzf])
   refine Eq.mpr (if_pos (by rfl)) ?_
   go_simp
   refine(enc_of Ak Lk ck HL.out ky x y Hy.out _ Hk.out Hb.out ((HR.out.below hS0).more (hS0).size)).mono ?_
   rintro e w3 ⟨rfl,hBc⟩
   refine hK.out _ _ (hS0.trans (hBc.mono hS0.size)) (fun hS3=>?_)
   (try simp only[Act.put,zza,zzb,zzc,zzd,zze,zzf])
   refine ztk (i:=6) (v:= .tuple #[.agg (row 16 (b8 y)), .nilIface]) rfl (fun _ _=>exec_move _ rfl _ rfl) hS3 ?_
   (try simp only[Act.put,zza,zzb,zzc,zzd,zze,zzf])
   refine ztk (i:=7) (v:= .agg (row 16 (b8 y))) rfl (fun _ _=>exec_extract _ 0 rfl _ rfl _ rfl) hS3 ?_
   (try simp only[Act.put,zza,zzb,zzc,zzd,zze,zzf])
   refine ztk (i:=8) (v:= .nilIface) rfl (fun _ _=>exec_extract _ 1 rfl _ rfl _ rfl) hS3 ?_
   (try simp only[Act.put,zza,zzb,zzc,zzd,zze,zzf])
   refine wpAnyH_ready (rs:=[9]) (by kernel_rfl) (by simp) (AllReadyH.cons rfl (fun K hK=>?_) AllReadyH.nil)
   (try simp only[Act.put,zza,zzb,zzc,zzd,zze,zzf])
   refine Eq.mpr (if_pos (by rfl)) ?_
   refine wp_new 150 rfl _ z16 ?_
   (try simp only[Act.put,zza,zzb,zzc,zzd,zze,zzf])
   refine hK.out _ _ (hS3.alloc hS3.size _) (fun hS4=>?_)
   (try simp only[Act.put,zza,zzb,zzc,zzd,zze,zzf])
   refine wpAnyH_ready (rs:=[10]) (by kernel_rfl) (by simp) (ready_one rfl rfl (fun K hK=>?_))
   (try simp only[Act.put,zza,zzb,zzc,zzd,zze,zzf])
   with_reducible refine wp_store_blk 150 _ _ rfl w3.heap.size (row 16 (b8 y)) rfl rfl 150 _ (Blk.fresh _ _ _) (i16' _) (by simp[row_size]) (one_b8 _ _) ?_
   (try simp only[Act.put,zza,zzb,zzc,zzd,zze,zzf])
   refine hK.out _ _ (below_setRow' hS4 hS3.size _) (fun hSz=>?_)
   (try simp only[Act.put,zza,zzb,zzc,zzd,zze,zzf])
   refine ztk (i:=11) (v:= .nilIface) rfl (fun _ _=>exec_assign _ rfl _ rfl) hSz ?_
   (try simp only[Act.put,zza,zzb,zzc,zzd,zze,zzf])
   refine wpAnyH_done (by kernel_rfl) ?_ _
   clear hK
   have hp:Past w 150 (row 16 (b8 y)) _ _:=⟨hSz,(Blk.fresh w3 150 (row 16 (b8 fun _=>0))).setRow (row 16 (b8 y)),hS3.size⟩
   clear hS0 hS3 hS4 hSz hBc
   generalize (w3.alloc (.cells (row 16 (b8 fun _=>0)) 150)).setRow w3.heap.size (row 16 (b8 y))=wX at hp ⊢
   generalize w3.heap.size=gX at hp ⊢
   exact key wX gX hp
  (try simp only[Act.put,zza,zzb,zzc,zzd,zze,zzf])
  refine Eq.mpr (if_pos (by rfl)) ?_
  refine wp_new 150 rfl _ z16 ?_
  (try simp only[Act.put,zza,zzb,zzc,zzd,zze,zzf])
  refine hK.out _ _ (hS0.alloc hS0.size _) (fun hS1=>?_)
  (try simp only[Act.put,zza,zzb,zzc,zzd,zze,zzf])
  have hq0:Blk (w.drew.alloc (.cells (row 16 (b8 fun _=>0)) 150)) w.heap.size 150 (row 16 (b8 fun _=>0)):=Blk.fresh w.drew 150 (row 16 (b8 fun _=>0))
  generalize hwa:w.drew.alloc (.cells (row 16 (b8 fun _=>0)) 150)=wa at hq0 hS1 ⊢
  clear hwa hK
  refine wpAnyH_ready (rs:=[5]) (by kernel_rfl) (by simp) (AllReadyH.cons rfl (fun K hK=>?_) AllReadyH.nil)
  (try simp only[Act.put,zza,zzb,zzc,zzd,zze,zzf])
  refine Eq.mpr (if_pos (by rfl)) ?_
  go_simp
  refine(enc_of Ak Lk ck HL.out ky x y Hy.out _ Hk.out Hb.out ((HR.out.below hS1).more (hS1).size)).mono ?_
  rintro e w3 ⟨rfl,hBc⟩
  refine hK.out _ _ (hS1.trans (hBc.mono hS1.size)) (fun hS3=>?_)
  (try simp only[Act.put,zza,zzb,zzc,zzd,zze,zzf])
  refine ztk (i:=6) (v:= .tuple #[.agg (row 16 (b8 y)), .nilIface]) rfl (fun _ _=>exec_move _ rfl _ rfl) hS3 ?_
  (try simp only[Act.put,zza,zzb,zzc,zzd,zze,zzf])
  refine ztk (i:=7) (v:= .agg (row 16 (b8 y))) rfl (fun _ _=>exec_extract _ 0 rfl _ rfl _ rfl) hS3 ?_
  (try simp only[Act.put,zza,zzb,zzc,zzd,zze,zzf])
  refine ztk (i:=8) (v:= .nilIface) rfl (fun _ _=>exec_extract _ 1 rfl _ rfl _ rfl) hS3 ?_
  (try simp only[Act.put,zza,zzb,zzc,zzd,zze,zzf])
  refine wpAnyH_ready (rs:=[10]) (by kernel_rfl) (by simp) (ready_one rfl rfl (fun K hK=>?_))
  have hq:=hq0.below hBc hq0.lt
  (try simp only[Act.put,zza,zzb,zzc,zzd,zze,zzf])
  with_reducible refine wp_store_blk 150 _ _ rfl w.heap.size (row 16 (b8 y)) rfl rfl 150 _ hq (i16' _) (by simp[row_size]) (one_b8 _ _) ?_
  (try simp only[Act.put,zza,zzb,zzc,zzd,zze,zzf])
  refine hK.out _ _ (below_setRow' hS3 (Nat.le_refl _) _) (fun hSz=>?_)
  (try simp only[Act.put,zza,zzb,zzc,zzd,zze,zzf])
  refine ztk (i:=11) (v:= .nilIface) rfl (fun _ _=>exec_assign _ rfl _ rfl) hSz ?_
  (try simp only[Act.put,zza,zzb,zzc,zzd,zze,zzf])
  refine wpAnyH_done (by kernel_rfl) ?_ _
  clear hK
  have hp:Past w 150 (row 16 (b8 y)) _ _:=⟨hSz,hq.setRow _,Nat.le_refl _⟩
  clear hS0 hS1 hS3 hSz hBc hq hq0
  generalize w3.setRow w.heap.size (row 16 (b8 y))=wX at hp ⊢
  have hp2: ∃g,g=w.heap.size:=⟨_,rfl⟩
  obtain⟨gX,hgX⟩:=hp2
  rw[← hgX] at ⊢
  exact key wX gX (hgX▸hp)
 intro w4 g4 ⟨hw4B,hw4b,hw4g⟩
 try dsimp only
 go_wp2_with fail
 go_ret2
 exact⟨g4,rfl,hw4b,hw4g,hw4B⟩
set_option linter.unusedSimpArgs false in
set_option maxRecDepth 100000 in
set_option maxHeartbeats 1000000 in
theorem aes_back (ad:Addr) (c kb:Nat) (Ak:Option Addr) (Lk ck:Nat) (ky x:Nat→Nat) (w:World) (hL:Aes.IsKey Lk) (hk: ∀i,i<Lk→ky i<256) (hx: ∀i,i<16→x i<256) (hb:Blk w kb 22 #[.slice Ak Lk ck]) (hR:Reads w w.heap.size Ak Lk ky) (had:ad.block<w.heap.size) (hc: ∀i,i<16→w.cell? (ad.add i)=some (.int .u8 ((x i:Nat):Int))) (y:Nat→Nat) (hy:Aes.dec (Aes.words Lk ky) (Aes.rnd Lk) x=y):
  Calls Tryz.prog 122 #[.slice (some ad) 16 c, .bool true, .pointer (some ⟨kb,0,none⟩)] w fun e w'=> ∃g,e= .returned (.tuple #[.slice (some ⟨g,0,none⟩) 16 16, .nilIface])∧Blk w' g 150 (row 16 (b8 y))∧w.heap.size≤g∧Below w.heap.size w w':=by
 have Hkb:=hid hb
 have HR:=hid hR
 have Hx:=hid hc
 have HL:=hid hL
 have Hk:=hid hk
 have Hb:=hid hx
 have had:=hid had
 have Hy:=hid hy
 clear hb hR hc hL hk hx hy
 go_enter Tryz.func122,Tryz.ntmps122
 go_wp2_with fail
 apply suff (F:=Past w 150 (row 16 (b8 y)))
 case h1=>
  intro key
  refine wp_region_held_drew (S:=fun W=>Below w.heap.size w W) (by kernel_rfl) (Below.refl _ _).drew (fun hS0=>?_)
  refine ztk (i:=0) (v:= .func (.func 124) #[] #[]) rfl (fun _ _=>exec_move _ rfl _ rfl) hS0 ?_
  (try simp only[Act.put,zza,zzb,zzc,zzd,zze,zzf])
  refine ztk (i:=1) (v:= .slice Ak Lk ck) rfl (fun W hW=>exec_lds 22 _ rfl ⟨kb,0,none⟩ rfl 5 Tryz.underlying22 _ ((Hkb.out.below hW Hkb.out.lt).cell 0)) hS0 ?_
  (try simp only[Act.put,zza,zzb,zzc,zzd,zze,zzf])
  refine ztk (i:=2) (v:= .slice (some ad) 16 c) rfl (fun _ _=>exec_move _ rfl _ rfl) hS0 ?_
  (try simp only[Act.put,zza,zzb,zzc,zzd,zze,zzf])
  refine ztk (i:=3) (v:= .pointer (some ad)) rfl (fun _ _=>exec_arr 150 _ rfl ad 16 c rfl 16 5 Tryz.underlying150 (Nat.le_refl _)) hS0 ?_
  (try simp only[Act.put,zza,zzb,zzc,zzd,zze,zzf])
  refine ztk (i:=4) (v:= .agg (row 16 (b8 x))) rfl (fun W hW=>exec_loadR 150 _ rfl ad rfl 16 x (cells_below Hx.out hW had.out) 5 Tryz.underlying150 i16) hS0 ?_
  (try simp only[Act.put,zza,zzb,zzc,zzd,zze,zzf])
  refine wpAnyH_ready (rs:=[5,9]) (by kernel_rfl) (by simp) ?_
  refine AllReadyH.cons rfl (fun K hK=>?_) (AllReadyH.cons rfl (fun K hK=>?_) AllReadyH.nil)
  ·(try simp only[Act.put,zza,zzb,zzc,zzd,zze,zzf])
   refine Eq.mpr (if_pos (by rfl)) ?_
   go_simp
   refine(dec_of Ak Lk ck HL.out ky x y Hy.out _ Hk.out Hb.out ((HR.out.below hS0).more (hS0).size)).mono ?_
   rintro e w3 ⟨rfl,hBc⟩
   refine hK.out _ _ (hS0.trans (hBc.mono hS0.size)) (fun hS3=>?_)
   (try simp only[Act.put,zza,zzb,zzc,zzd,zze,zzf])
   refine ztk (i:=6) (v:= .tuple #[.agg (row 16 (b8 y)), .nilIface]) rfl (fun _ _=>exec_move _ rfl _ rfl) hS3 ?_
   (try simp only[Act.put,zza,zzb,zzc,zzd,zze,zzf])
   refine ztk (i:=7) (v:= .agg (row 16 (b8 y))) rfl (fun _ _=>exec_extract _ 0 rfl _ rfl _ rfl) hS3 ?_
   (try simp only[Act.put,zza,zzb,zzc,zzd,zze,zzf])
   refine ztk (i:=8) (v:= .nilIface) rfl (fun _ _=>exec_extract _ 1 rfl _ rfl _ rfl) hS3 ?_
   (try simp only[Act.put,zza,zzb,zzc,zzd,zze,zzf])
   refine wpAnyH_ready (rs:=[9]) (by kernel_rfl) (by simp) (AllReadyH.cons rfl (fun K hK=>?_) AllReadyH.nil)
   (try simp only[Act.put,zza,zzb,zzc,zzd,zze,zzf])
   refine Eq.mpr (if_pos (by rfl)) ?_
   refine wp_new 150 rfl _ z16 ?_
   (try simp only[Act.put,zza,zzb,zzc,zzd,zze,zzf])
   refine hK.out _ _ (hS3.alloc hS3.size _) (fun hS4=>?_)
   (try simp only[Act.put,zza,zzb,zzc,zzd,zze,zzf])
   refine wpAnyH_ready (rs:=[10]) (by kernel_rfl) (by simp) (ready_one rfl rfl (fun K hK=>?_))
   (try simp only[Act.put,zza,zzb,zzc,zzd,zze,zzf])
   with_reducible refine wp_store_blk 150 _ _ rfl w3.heap.size (row 16 (b8 y)) rfl rfl 150 _ (Blk.fresh _ _ _) (i16' _) (by simp[row_size]) (one_b8 _ _) ?_
   (try simp only[Act.put,zza,zzb,zzc,zzd,zze,zzf])
   refine hK.out _ _ (below_setRow' hS4 hS3.size _) (fun hSz=>?_)
   (try simp only[Act.put,zza,zzb,zzc,zzd,zze,zzf])
   refine ztk (i:=11) (v:= .nilIface) rfl (fun _ _=>exec_assign _ rfl _ rfl) hSz ?_
   (try simp only[Act.put,zza,zzb,zzc,zzd,zze,zzf])
   refine wpAnyH_done (by kernel_rfl) ?_ _
   clear hK
   have hp:Past w 150 (row 16 (b8 y)) _ _:=⟨hSz,(Blk.fresh w3 150 (row 16 (b8 fun _=>0))).setRow (row 16 (b8 y)),hS3.size⟩
   clear hS0 hS3 hS4 hSz hBc
   generalize (w3.alloc (.cells (row 16 (b8 fun _=>0)) 150)).setRow w3.heap.size (row 16 (b8 y))=wX at hp ⊢
   generalize w3.heap.size=gX at hp ⊢
   exact key wX gX hp
  (try simp only[Act.put,zza,zzb,zzc,zzd,zze,zzf])
  refine Eq.mpr (if_pos (by rfl)) ?_
  refine wp_new 150 rfl _ z16 ?_
  (try simp only[Act.put,zza,zzb,zzc,zzd,zze,zzf])
  refine hK.out _ _ (hS0.alloc hS0.size _) (fun hS1=>?_)
  (try simp only[Act.put,zza,zzb,zzc,zzd,zze,zzf])
  have hq0:Blk (w.drew.alloc (.cells (row 16 (b8 fun _=>0)) 150)) w.heap.size 150 (row 16 (b8 fun _=>0)):=Blk.fresh w.drew 150 (row 16 (b8 fun _=>0))
  generalize hwa:w.drew.alloc (.cells (row 16 (b8 fun _=>0)) 150)=wa at hq0 hS1 ⊢
  clear hwa hK
  refine wpAnyH_ready (rs:=[5]) (by kernel_rfl) (by simp) (AllReadyH.cons rfl (fun K hK=>?_) AllReadyH.nil)
  (try simp only[Act.put,zza,zzb,zzc,zzd,zze,zzf])
  refine Eq.mpr (if_pos (by rfl)) ?_
  go_simp
  refine(dec_of Ak Lk ck HL.out ky x y Hy.out _ Hk.out Hb.out ((HR.out.below hS1).more (hS1).size)).mono ?_
  rintro e w3 ⟨rfl,hBc⟩
  refine hK.out _ _ (hS1.trans (hBc.mono hS1.size)) (fun hS3=>?_)
  (try simp only[Act.put,zza,zzb,zzc,zzd,zze,zzf])
  refine ztk (i:=6) (v:= .tuple #[.agg (row 16 (b8 y)), .nilIface]) rfl (fun _ _=>exec_move _ rfl _ rfl) hS3 ?_
  (try simp only[Act.put,zza,zzb,zzc,zzd,zze,zzf])
  refine ztk (i:=7) (v:= .agg (row 16 (b8 y))) rfl (fun _ _=>exec_extract _ 0 rfl _ rfl _ rfl) hS3 ?_
  (try simp only[Act.put,zza,zzb,zzc,zzd,zze,zzf])
  refine ztk (i:=8) (v:= .nilIface) rfl (fun _ _=>exec_extract _ 1 rfl _ rfl _ rfl) hS3 ?_
  (try simp only[Act.put,zza,zzb,zzc,zzd,zze,zzf])
  refine wpAnyH_ready (rs:=[10]) (by kernel_rfl) (by simp) (ready_one rfl rfl (fun K hK=>?_))
  have hq:=hq0.below hBc hq0.lt
  (try simp only[Act.put,zza,zzb,zzc,zzd,zze,zzf])
  with_reducible refine wp_store_blk 150 _ _ rfl w.heap.size (row 16 (b8 y)) rfl rfl 150 _ hq (i16' _) (by simp[row_size]) (one_b8 _ _) ?_
  (try simp only[Act.put,zza,zzb,zzc,zzd,zze,zzf])
  refine hK.out _ _ (below_setRow' hS3 (Nat.le_refl _) _) (fun hSz=>?_)
  (try simp only[Act.put,zza,zzb,zzc,zzd,zze,zzf])
  refine ztk (i:=11) (v:= .nilIface) rfl (fun _ _=>exec_assign _ rfl _ rfl) hSz ?_
  (try simp only[Act.put,zza,zzb,zzc,zzd,zze,zzf])
  refine wpAnyH_done (by kernel_rfl) ?_ _
  clear hK
  have hp:Past w 150 (row 16 (b8 y)) _ _:=⟨hSz,hq.setRow _,Nat.le_refl _⟩
  clear hS0 hS1 hS3 hSz hBc hq hq0
  generalize w3.setRow w.heap.size (row 16 (b8 y))=wX at hp ⊢
  have hp2: ∃g,g=w.heap.size:=⟨_,rfl⟩
  obtain⟨gX,hgX⟩:=hp2
  rw[← hgX] at ⊢
  exact key wX gX (hgX▸hp)
 intro w4 g4 ⟨hw4B,hw4b,hw4g⟩
 try dsimp only
 go_wp2_with fail
 go_ret2
 exact⟨g4,rfl,hw4b,hw4g,hw4B⟩
set_option linter.unusedSimpArgs false in
set_option maxRecDepth 100000 in
set_option maxHeartbeats 1000000 in
theorem tdes_turn (back:Bool) (ad:Addr) (c kb:Nat) (Ak:Option Addr) (Lk ck:Nat) (ky x:Nat→Nat) (w:World) (hL:Des.IsTKey Lk) (hck:Lk≤ck) (hk: ∀i,i<Lk→ky i<256) (hx: ∀i,i<8→x i<256) (hb:Blk w kb 22 #[.slice Ak Lk ck]) (hR:Reads w w.heap.size Ak Lk ky) (had:ad.block<w.heap.size) (hc: ∀i,i<8→w.cell? (ad.add i)=some (.int .u8 ((x i:Nat):Int))) (y:Nat→Nat) (hy:Des.tdes Lk ky x back=y):
  Calls Tryz.prog 125 #[.slice (some ad) 8 c, .bool back, .pointer (some ⟨kb,0,none⟩)] w fun e w'=> ∃g,e= .returned (.tuple #[.slice (some ⟨g,0,none⟩) 8 8, .nilIface])∧Blk w' g 174 (row 8 (b8 y))∧w.heap.size≤g∧Below w.heap.size w w':=by
 have Hkb:=hid hb
 have HR:=hid hR
 have Hx:=hid hc
 have HL:=hid hL
 have Hk:=hid hk
 have Hb:=hid hx
 have had:=hid had
 have Hy:=hid hy
 clear hb hR hc hL hk hx hy
 go_enter Tryz.func125,Tryz.ntmps125
 go_wp2_with fail
 apply suff (F:=Past w 174 (row 8 (b8 y)))
 case h1=>
  intro key
  refine wp_region_held_drew (S:=fun W=>Below w.heap.size w W) (by kernel_rfl) (Below.refl _ _).drew (fun hS0=>?_)
  refine ztk (i:=0) (v:= .slice Ak Lk ck) rfl (fun W hW=>exec_lds 22 _ rfl ⟨kb,0,none⟩ rfl 5 Tryz.underlying22 _ ((Hkb.out.below hW Hkb.out.lt).cell 0)) hS0 ?_
  (try simp only[Act.put,zza,zzb,zzc,zzd,zze,zzf])
  refine ztk (i:=1) (v:= .slice (some ad) 8 c) rfl (fun _ _=>exec_move _ rfl _ rfl) hS0 ?_
  (try simp only[Act.put,zza,zzb,zzc,zzd,zze,zzf])
  refine ztk (i:=2) (v:= .pointer (some ad)) rfl (fun _ _=>exec_arr 174 _ rfl ad 8 c rfl 8 5 Tryz.underlying174 (Nat.le_refl _)) hS0 ?_
  (try simp only[Act.put,zza,zzb,zzc,zzd,zze,zzf])
  refine ztk (i:=3) (v:= .agg (row 8 (b8 x))) rfl (fun W hW=>exec_loadR 174 _ rfl ad rfl 8 x (cells_below Hx.out hW had.out) 5 Tryz.underlying174 Des.i8a) hS0 ?_
  (try simp only[Act.put,zza,zzb,zzc,zzd,zze,zzf])
  refine ztk (i:=4) (v:= .bool back) rfl (fun _ _=>exec_move _ rfl _ rfl) hS0 ?_
  (try simp only[Act.put,zza,zzb,zzc,zzd,zze,zzf])
  refine wpAnyH_ready (rs:=[5,9]) (by kernel_rfl) (by simp) ?_
  refine AllReadyH.cons rfl (fun K hK=>?_) (AllReadyH.cons rfl (fun K hK=>?_) AllReadyH.nil)
  ·(try simp only[Act.put,zza,zzb,zzc,zzd,zze,zzf])
   refine Eq.mpr (if_pos (by rfl)) ?_
   go_simp
   refine(triple_of Ak Lk ck HL.out hck ky x y back Hy.out _ Hk.out Hb.out ((HR.out.below hS0).more (hS0).size)).mono ?_
   rintro e w3 ⟨rfl,hBc⟩
   refine hK.out _ _ (hS0.trans (hBc.mono hS0.size)) (fun hS3=>?_)
   (try simp only[Act.put,zza,zzb,zzc,zzd,zze,zzf])
   refine ztk (i:=6) (v:= .tuple #[.agg (row 8 (b8 y)), .nilIface]) rfl (fun _ _=>exec_move _ rfl _ rfl) hS3 ?_
   (try simp only[Act.put,zza,zzb,zzc,zzd,zze,zzf])
   refine ztk (i:=7) (v:= .agg (row 8 (b8 y))) rfl (fun _ _=>exec_extract _ 0 rfl _ rfl _ rfl) hS3 ?_
   (try simp only[Act.put,zza,zzb,zzc,zzd,zze,zzf])
   refine ztk (i:=8) (v:= .nilIface) rfl (fun _ _=>exec_extract _ 1 rfl _ rfl _ rfl) hS3 ?_
   (try simp only[Act.put,zza,zzb,zzc,zzd,zze,zzf])
   refine wpAnyH_ready (rs:=[9]) (by kernel_rfl) (by simp) (AllReadyH.cons rfl (fun K hK=>?_) AllReadyH.nil)
   (try simp only[Act.put,zza,zzb,zzc,zzd,zze,zzf])
   refine Eq.mpr (if_pos (by rfl)) ?_
   refine wp_new 174 rfl _ Des.z8 ?_
   (try simp only[Act.put,zza,zzb,zzc,zzd,zze,zzf])
   refine hK.out _ _ (hS3.alloc hS3.size _) (fun hS4=>?_)
   (try simp only[Act.put,zza,zzb,zzc,zzd,zze,zzf])
   refine wpAnyH_ready (rs:=[10]) (by kernel_rfl) (by simp) (ready_one rfl rfl (fun K hK=>?_))
   (try simp only[Act.put,zza,zzb,zzc,zzd,zze,zzf])
   with_reducible refine wp_store_blk 174 _ _ rfl w3.heap.size (row 8 (b8 y)) rfl rfl 174 _ (Blk.fresh _ _ _) (Des.i8a' _) (by simp[row_size]) (one_b8 _ _) ?_
   (try simp only[Act.put,zza,zzb,zzc,zzd,zze,zzf])
   refine hK.out _ _ (below_setRow' hS4 hS3.size _) (fun hSz=>?_)
   (try simp only[Act.put,zza,zzb,zzc,zzd,zze,zzf])
   refine ztk (i:=11) (v:= .nilIface) rfl (fun _ _=>exec_assign _ rfl _ rfl) hSz ?_
   (try simp only[Act.put,zza,zzb,zzc,zzd,zze,zzf])
   refine wpAnyH_done (by kernel_rfl) ?_ _
   clear hK
   have hp:Past w 174 (row 8 (b8 y)) _ _:=⟨hSz,(Blk.fresh w3 174 (row 8 (b8 fun _=>0))).setRow (row 8 (b8 y)),hS3.size⟩
   clear hS0 hS3 hS4 hSz hBc
   generalize (w3.alloc (.cells (row 8 (b8 fun _=>0)) 174)).setRow w3.heap.size (row 8 (b8 y))=wX at hp ⊢
   generalize w3.heap.size=gX at hp ⊢
   exact key wX gX hp
  (try simp only[Act.put,zza,zzb,zzc,zzd,zze,zzf])
  refine Eq.mpr (if_pos (by rfl)) ?_
  refine wp_new 174 rfl _ Des.z8 ?_
  (try simp only[Act.put,zza,zzb,zzc,zzd,zze,zzf])
  refine hK.out _ _ (hS0.alloc hS0.size _) (fun hS1=>?_)
  (try simp only[Act.put,zza,zzb,zzc,zzd,zze,zzf])
  have hq0:Blk (w.drew.alloc (.cells (row 8 (b8 fun _=>0)) 174)) w.heap.size 174 (row 8 (b8 fun _=>0)):=Blk.fresh w.drew 174 (row 8 (b8 fun _=>0))
  generalize hwa:w.drew.alloc (.cells (row 8 (b8 fun _=>0)) 174)=wa at hq0 hS1 ⊢
  clear hwa hK
  refine wpAnyH_ready (rs:=[5]) (by kernel_rfl) (by simp) (AllReadyH.cons rfl (fun K hK=>?_) AllReadyH.nil)
  (try simp only[Act.put,zza,zzb,zzc,zzd,zze,zzf])
  refine Eq.mpr (if_pos (by rfl)) ?_
  go_simp
  refine(triple_of Ak Lk ck HL.out hck ky x y back Hy.out _ Hk.out Hb.out ((HR.out.below hS1).more (hS1).size)).mono ?_
  rintro e w3 ⟨rfl,hBc⟩
  refine hK.out _ _ (hS1.trans (hBc.mono hS1.size)) (fun hS3=>?_)
  (try simp only[Act.put,zza,zzb,zzc,zzd,zze,zzf])
  refine ztk (i:=6) (v:= .tuple #[.agg (row 8 (b8 y)), .nilIface]) rfl (fun _ _=>exec_move _ rfl _ rfl) hS3 ?_
  (try simp only[Act.put,zza,zzb,zzc,zzd,zze,zzf])
  refine ztk (i:=7) (v:= .agg (row 8 (b8 y))) rfl (fun _ _=>exec_extract _ 0 rfl _ rfl _ rfl) hS3 ?_
  (try simp only[Act.put,zza,zzb,zzc,zzd,zze,zzf])
  refine ztk (i:=8) (v:= .nilIface) rfl (fun _ _=>exec_extract _ 1 rfl _ rfl _ rfl) hS3 ?_
  (try simp only[Act.put,zza,zzb,zzc,zzd,zze,zzf])
  refine wpAnyH_ready (rs:=[10]) (by kernel_rfl) (by simp) (ready_one rfl rfl (fun K hK=>?_))
  have hq:=hq0.below hBc hq0.lt
  (try simp only[Act.put,zza,zzb,zzc,zzd,zze,zzf])
  with_reducible refine wp_store_blk 174 _ _ rfl w.heap.size (row 8 (b8 y)) rfl rfl 174 _ hq (Des.i8a' _) (by simp[row_size]) (one_b8 _ _) ?_
  (try simp only[Act.put,zza,zzb,zzc,zzd,zze,zzf])
  refine hK.out _ _ (below_setRow' hS3 (Nat.le_refl _) _) (fun hSz=>?_)
  (try simp only[Act.put,zza,zzb,zzc,zzd,zze,zzf])
  refine ztk (i:=11) (v:= .nilIface) rfl (fun _ _=>exec_assign _ rfl _ rfl) hSz ?_
  (try simp only[Act.put,zza,zzb,zzc,zzd,zze,zzf])
  refine wpAnyH_done (by kernel_rfl) ?_ _
  clear hK
  have hp:Past w 174 (row 8 (b8 y)) _ _:=⟨hSz,hq.setRow _,Nat.le_refl _⟩
  clear hS0 hS1 hS3 hSz hBc hq hq0
  generalize w3.setRow w.heap.size (row 8 (b8 y))=wX at hp ⊢
  have hp2: ∃g,g=w.heap.size:=⟨_,rfl⟩
  obtain⟨gX,hgX⟩:=hp2
  rw[← hgX] at ⊢
  exact key wX gX (hgX▸hp)
 intro w4 g4 ⟨hw4B,hw4b,hw4g⟩
 try dsimp only
 go_wp2_with fail
 go_ret2
 exact⟨g4,rfl,hw4b,hw4g,hw4B⟩
theorem keptS_cells {S:List Nat}{w w':World}{ad:Addr}{n:Nat}{f:Nat→Nat} (h: ∀i,i<n→w.cell? (ad.add i)=some (.int .u8 ((f i:Nat):Int))) (hB:KeptS S w w') (hb:ad.block<w.heap.size) (hS:ad.block∉S): ∀i,i<n→w'.cell? (ad.add i)=some (.int .u8 ((f i:Nat):Int)):=
 fun i hi=>by
  have e:w'.cell? (ad.add i)=w.cell? (ad.add i):=by
   unfold World.cell?
   rw[hB.block (ad.add i).block (by rw[add_block];exact hb) (by rw[add_block];exact hS)]
  rw[e];exact h i hi
end Go.Proofs.YtlmacfmfmjhidaaGreatDoor.Bk
