/-
 For lockboxref02.Encrypt: the memory that its loops keep, and its arithmetic.
-/
import Derived.Test.YtlmacfmfmjhidaaGreatDoorRef02X
import Derived.Test.YtlmacfmfmjhidaaGreatDoorDraw
import Derived.Test.YtlmacfmfmjhidaaGreatDoorAesX
namespace Go.Proofs.YtlmacfmfmjhidaaGreatDoor.Aes
open Go.ChangeShapes Go.WideShapes Go.ChangeAt Go.RowKit Mem
theorem reads_apart {w:World}{B n:Nat}{ad:Addr}{f:Nat→Nat} (h:Reads w B (some ad) n f) (hn:17≤n){g:Nat}{t:TypeId}{c:Nat→Value} (hb:Blk w g t (row 16 c)):ad.block≠g:=by
 intro he
 obtain⟨a,h1,_,h3⟩:=h (by omega)
 injection h1 with h1
 subst h1
 have h4:=h3 16 (by omega)
 rw[show ad.add 16=⟨g,ad.off+16,none⟩ by simp[Addr.add,he],hb.cell,row_none _ _ _ (by omega)] at h4
 cases h4
theorem cell_setCell_off (w:World) (p q:Addr) (v:Value) (h:q.block≠p.block):(w.setCell p v).cell? q=w.cell? q:=by
 unfold World.cell?
 rw[heap_setCell_other w p q.block v h]
def ES (w0 wr:World) (hs gB:Nat) (aw:Addr) (n:Nat) (ws b:Nat→Nat):Prop:=
 Blk wr hs 150 (row 16 (b8 b))∧Blk wr (hs+1) 150 (row 16 (b8 fun _=>0))∧Blk wr gB 169 (row 256 (b8 Gf.box))∧(∀i,i<n→wr.cell? (aw.add i)=some (.int .u8 ((ws i:Nat):Int)))∧(aw.block≠hs∧hs+1<gB∧aw.block<wr.heap.size)∧Below hs w0 wr
section
variable {w0 wr w':World}{hs gB n:Nat}{aw:Addr}{ws b:Nat→Nat}
theorem ES.blk (h:ES w0 wr hs gB aw n ws b):Blk wr hs 150 (row 16 (b8 b)):=h.1
theorem ES.res (h:ES w0 wr hs gB aw n ws b):Blk wr (hs+1) 150 (row 16 (b8 fun _=>0)):=h.2.1
theorem ES.box (h:ES w0 wr hs gB aw n ws b):Blk wr gB 169 (row 256 (b8 Gf.box)):=h.2.2.1
theorem ES.word (h:ES w0 wr hs gB aw n ws b) (i:Nat) (hi:i<n):wr.cell? (aw.add i)=some (.int .u8 ((ws i:Nat):Int)):=h.2.2.2.1 i hi
theorem ES.bel (h:ES w0 wr hs gB aw n ws b):Below hs w0 wr:=h.2.2.2.2.2
theorem ES.drew (h:ES w0 wr hs gB aw n ws b):ES w0 wr.drew hs gB aw n ws b:=⟨h.1,h.2.1,h.2.2.1,h.2.2.2.1,h.2.2.2.2.1,h.2.2.2.2.2.drew⟩
theorem ES.below (h:ES w0 wr hs gB aw n ws b) (hb:Below wr.heap.size wr w'):ES w0 w' hs gB aw n ws b:=
 ⟨h.1.below hb h.1.lt,h.2.1.below hb h.2.1.lt,h.2.2.1.below hb h.2.2.1.lt,fun i hi=>(hb.cell (by rw[add_block];exact h.2.2.2.2.1.2.2)).trans (h.2.2.2.1 i hi),⟨h.2.2.2.2.1.1,h.2.2.2.2.1.2.1,Nat.lt_of_lt_of_le h.2.2.2.2.1.2.2 hb.size⟩,h.2.2.2.2.2.trans (hb.mono (Nat.le_of_lt h.1.lt))⟩
theorem ES.alloc (h:ES w0 wr hs gB aw n ws b) (o:Obj):ES w0 (wr.alloc o) hs gB aw n ws b:=h.below ((Below.refl _ _).alloc (Nat.le_refl _) o)
theorem ES.put (h:ES w0 wr hs gB aw n ws b) (k v:Nat):ES w0 (wr.setCell ⟨hs,k,none⟩ (.int .u8 ((v:Nat):Int))) hs gB aw n ws (upd b k v):=
 ⟨h.1.put k v,h.2.1.other _ _ (by simp),h.2.2.1.other _ _ (by have:=h.2.2.2.2.1.2.1;simp;omega),fun i hi=>(cell_setCell_off wr ⟨hs,k,none⟩ _ _ (by rw[add_block];exact h.2.2.2.2.1.1)).trans (h.2.2.2.1 i hi),⟨h.2.2.2.2.1.1,h.2.2.2.2.1.2.1,by simpa using h.2.2.2.2.1.2.2⟩,h.2.2.2.2.2.setCell (by simp) _⟩
theorem ES.off (h:ES w0 wr hs gB aw n ws b) (g k:Nat) (v:Value) (h1:g≠aw.block) (h2:hs+1<g) (h3:g≠gB):ES w0 (wr.setCell ⟨g,k,none⟩ v) hs gB aw n ws b:=
 ⟨h.1.other _ _ (by simp;omega),h.2.1.other _ _ (by simp;omega),h.2.2.1.other _ _ (by simp;omega),fun i hi=>(cell_setCell_off wr ⟨g,k,none⟩ _ _ (by rw[add_block];exact fun e=>h1 e.symm)).trans (h.2.2.2.1 i hi),⟨h.2.2.2.2.1.1,h.2.2.2.2.1.2.1,by simpa using h.2.2.2.2.1.2.2⟩,h.2.2.2.2.2.setCell (by simp;omega) _⟩
end
theorem ES.same {w0 wr:World}{hs gB n:Nat}{aw:Addr}{ws b b':Nat→Nat} (h:ES w0 wr hs gB aw n ws b) (hbb: ∀i,i<16→b i=b' i):ES w0 wr hs gB aw n ws b':=⟨by rw[← row_b8_ext hbb];exact h.1,h.2⟩
theorem wps_slw {P:Program}{ops:Array Oper}{rest:List Oper}{o:Oper}{a:Act}{w:World}{Q:Act→Prop} (hgd:o.guard=none) (ty:TypeId) (x ix:Operand) (ho:o.op= .indexAddr ty x ix) (ad:Addr) (n c:Nat) (hx:a.eval x= .slice (some ad) n c) (kd:IntKind) (z:Int) (hix:a.eval ix= .int kd z) (k:Nat) (hz:z=(k:Int))
  (e:TypeId) (hu:P.underlying ty=some (.slice e)) (hk:k<n) (hs:(P.info? e).map (·.size)=some 1) (h:wpStill P ops w Q rest (a.put o.dst (.pointer (some (ad.add k))))):wpStill P ops w Q (o::rest) a:=
 wps_val hgd _ (exec_sl1 ty x ix ho ad n c hx kd z hix k hz e hu hk hs) h
theorem mul_one_left (y:Nat) (hy:y<256):Gf.mul 1 y=y:=by
 have: ∀y,y<256→Gf.mul 1 y=y:=by decide+kernel
 exact this y hy
theorem mixE_at (y:Nat→Nat) (hy:By16 y) (q t:Nat) (hq:q<4) (ht:t<4):Gf.mul 2 (y (4*q+t)) ^^^ Gf.mul 3 (y (4*q+(t+1)%4)) ^^^ y (4*q+(t+2)%4) ^^^ y (4*q+(t+3)%4)=mix fE y (4*q+t):=by
 rw[mixE]
 unfold nxt
 rw[show 4*q+t-(4*q+t)%4+(4*q+t+0)%4=4*q+t by omega,show 4*q+t-(4*q+t)%4+(4*q+t+1)%4=4*q+(t+1)%4 by omega,show 4*q+t-(4*q+t)%4+(4*q+t+2)%4=4*q+(t+2)%4 by omega,show 4*q+t-(4*q+t)%4+(4*q+t+3)%4=4*q+(t+3)%4 by omega,
  mul_one_left _ (hy _ (by omega)),mul_one_left _ (hy _ (by omega))]
theorem src_at (q t:Nat) (ht:t<4):4*((q+t)%4)+t=src (4*q+t):=by unfold src;omega
theorem box_lt' (y:Nat) (hy:y<256):Gf.box y<256:=by
 have: ∀y,y<256→Gf.box y<256:=by decide+kernel
 exact this y hy
end Go.Proofs.YtlmacfmfmjhidaaGreatDoor.Aes
