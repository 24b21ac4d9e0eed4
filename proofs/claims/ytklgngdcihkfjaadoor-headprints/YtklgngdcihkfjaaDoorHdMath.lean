/-
 Heads: which bytes may stand where, and the first field that isn't right.
-/
import Derived.Test.YtklgngdcihkfjaaDoorStrF
import Derived.Test.YtklgngdcihkfjaaDoorShelf
namespace Go.Proofs.YtklgngdcihkfjaaDoor.Hd
open Mem Go.ChangeShapes Go.WideShapes Go.ChangeAt Go.RowKit
def verB (c : Nat) : Bool := c == 66 || c == 68
def algB (c : Nat) : Bool := c == 84 || c == 65
def modL : List Nat := [66, 67, 68, 69, 71, 78, 83, 84, 86, 88, 89]
def modB (c : Nat) : Bool := modL.contains c
def expB (c : Nat) : Bool := c == 69 || c == 78 || c == 83
def dgB (c : Nat) : Bool := decide (48 ≤ c) && decide (c ≤ 57)
def pcB (c : Nat) : Bool := (decide (65 ≤ c) && decide (c ≤ 90)) || dgB c
def prB (n : Nat) (f : Nat → Nat) : Bool := n == 2 && pcB (f 0) && pcB (f 1)
def allS : ByteArray := ⟨#[65, 66, 67, 68, 69, 70, 71, 72, 73, 74, 75, 76, 77, 78, 79, 80, 81, 82, 83, 84, 85, 86, 87, 88, 89, 90, 48, 49, 50, 51, 52, 53, 54, 55, 56, 57]⟩
def modS : ByteArray := ⟨#[66, 67, 68, 69, 71, 78, 83, 84, 86, 88, 89]⟩
def ixB (s : ByteArray) (c : Nat) : Bool := decide (0 ≤ Lib.indexByte s.data.toList (UInt8.ofNat c))
theorem ix_ver : ∀ c, c < 256 → ixB ⟨#[66, 68]⟩ c = verB c := by decide +kernel
theorem ix_alg : ∀ c, c < 256 → ixB ⟨#[84, 65]⟩ c = algB c := by decide +kernel
theorem ix_mod : ∀ c, c < 256 → ixB modS c = modB c := by decide +kernel
theorem ix_exp : ∀ c, c < 256 → ixB ⟨#[69, 78, 83]⟩ c = expB c := by decide +kernel
def memK (s : ByteArray) (c k : Nat) : Bool := (s.data.toList.take k).any (fun b => b.toNat == c)
def memB (s : ByteArray) (c : Nat) : Bool := s.data.toList.any (fun b => b.toNat == c)
theorem mem_ver : ∀ c, c < 256 → memB ⟨#[66, 68]⟩ c = verB c := by decide +kernel
theorem mem_alg : ∀ c, c < 256 → memB ⟨#[84, 65]⟩ c = algB c := by decide +kernel
theorem mem_mod : ∀ c, c < 256 → memB modS c = modB c := by decide +kernel
theorem mem_exp : ∀ c, c < 256 → memB ⟨#[69, 78, 83]⟩ c = expB c := by decide +kernel
theorem mem_all : ∀ c, c < 256 → memB allS c = pcB c := by decide +kernel
structure Hd where
 v : Nat
 n : Nat
 f : Nat → Nat
 a : Nat
 k : Nat
 m : Nat
 g : Nat → Nat
 x : Nat
structure Hd.Ok (h : Hd) : Prop where
 v : h.v < 256
 f : ∀ i, h.f i < 256
 a : h.a < 256
 k : h.k < 256
 g : ∀ i, h.g i < 256
 x : h.x < 256
def wrong (h : Hd) : Int := if verB h.v = false then 0 else if prB h.n h.f = false then 5 else if algB h.a = false then 7 else if modB h.k = false then 8 else if prB h.m h.g = false then 9 else if expB h.x = false then 11 else -1
end Go.Proofs.YtklgngdcihkfjaaDoor.Hd
