/-
 Ciphers of whatever kind, without memory: back undoes forth, the same is answered again, unlike blocks are unlike.
-/
import Derived.Test.YtlmacfmfmjhidaaGreatDoorCiX
import Derived.Test.YtlmacfmfmjhidaaGreatDoorAesY
namespace Go.Proofs.YtlmacfmfmjhidaaGreatDoor.Bk
open Mem
section
variable {k L:Nat}{key:Nat→Nat}{p:Pl}{R R':List Rw}{d d':Nat}{bk:Bool}{x y:Nat→Nat}{o:Option (Nat→Nat)}
theorem ws_lt (L:Nat) (hk: ∀i,i<L→key i<256): ∀i,i<Aes.wsz L→Aes.words L key i<256:=fun i _=>Aes.ex_lt L key (Aes.more L) hk i
theorem ws_le (L:Nat):16*Aes.rnd L+16≤Aes.wsz L:=by rw[Aes.wsz_eq];omega
theorem turn1:turnC 1 L key p R d bk x=(some (if bk then Aes.dec (Aes.words L key) (Aes.rnd L) x else Aes.enc (Aes.words L key) (Aes.rnd L) x),R,d):=by unfold turnC;rw[if_pos rfl]
theorem turn2:turnC 2 L key p R d bk x=(some (Des.tdes L key x bk),R,d):=by unfold turnC;rw[if_neg (by omega),if_pos rfl]
theorem turn3:turnC 3 L key p R d bk x=askL p.F p.n (strF L key) R d bk x:=by unfold turnC;rw[if_neg (by omega),if_neg (by omega)]
theorem tdes_ext {b b':Nat→Nat} (h: ∀i,i<8→b i=b' i) (bk:Bool):Des.tdes L key b bk=Des.tdes L key b' bk:=by
 unfold Des.tdes
 rw[Des.des_ext (fun _ _=>rfl) h]
end
end Go.Proofs.YtlmacfmfmjhidaaGreatDoor.Bk
