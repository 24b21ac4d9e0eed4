/-
  The oracle's two maps: keys that are a string and sixteen bytes; a look-up, a new entry, the length, at one operation.
-/
import Derived.Test.YtdodflnmhgnpeaaGreatDoorBookMath
import Derived.Test.YtdodflnmhgnpeaaGreatDoorTape
import Derived.DeepKeys4
import Derived.Maps.OwnSet
namespace Go.Proofs.YtdodflnmhgnpeaaGreatDoor.Bk
open Mem Go.ChangeShapes Go.WideShapes Go.ChangeAt Go.RowKit Go.MapKept
open Go.ChangeMaps (setBlock heap_setBlock_same heap_setBlock_other)
open Go.Maps (Keyed)
/-- the cells of a side: its key, its block -/
def sv (s : ByteArray) (f : Nat → Nat) : Nat → Value := fun i => if i = 0 then .string s else b8 f (i - 1)
def sideC (s : ByteArray) (f : Nat → Nat) : Array Value := row 17 (sv s f)
theorem sv_str (s : ByteArray) (f : Nat → Nat) : (sideC s f)[0]? = some (.string s) := row_get 17 _ 0 (by omega)
theorem sv_byte (s : ByteArray) (f : Nat → Nat) (i : Nat) (hi : i < 16) : (sideC s f)[1 + i]? = some (.int .u8 ((f i : Nat) : Int)) := by
  unfold sideC
  rw [row_get 17 _ (1 + i) (by omega)]
  unfold sv b8
  rw [if_neg (by omega), Nat.add_sub_cancel_left]
theorem side_ext {s : ByteArray} {f g : Nat → Nat} (h : ∀ i, i < 16 → f i = g i) : sideC s f = sideC s g :=
  row_ext fun i hi => by
    unfold sv b8
    split
    · rfl
    · rw [h (i - 1) (by omega)]
theorem side_inj {s t : ByteArray} {f g : Nat → Nat} (h : sideC s f = sideC t g) : s = t ∧ eqB 16 f g = true := by
  refine ⟨?_, eqB_true fun i hi => ?_⟩
  · have := congrArg (fun a : Array Value => a[0]?) h
    simpa [sv_str] using this
  · have := congrArg (fun a : Array Value => a[1 + i]?) h
    simp only [sv_byte _ _ _ hi, Option.some.injEq, Value.int.injEq, true_and] at this
    omega
theorem underSide : ∃ fs, Tryz.prog.underlying 122 = some (.struct fs) := ⟨_, Tryz.underlying122⟩
theorem wideSide : (match Tryz.prog.underlying 122 with | some (.array _ _) | some (.struct _) => true | _ => false) = true := by kernel_rfl
theorem rowSide : (122 : TypeId) < Tryz.prog.types.size := of_decide_eq_true (by kernel_rfl)
theorem laidOut' : laidOutB Tryz.prog = true := by kernel_rfl
set_option maxRecDepth 100000 in
theorem law : Keyed Tryz.prog 122 := Keyed.of_law (deep_law_laid laidOut' (m := 3) (by omega) rowSide (by kernel_rfl) wideSide)
theorem keyTypeSide : Tryz.prog.keyType 122 = true := by kernel_rfl
theorem cellsSide : Tryz.prog.cellsOf 122 = 17 := by kernel_rfl
theorem cells16 : Tryz.prog.cellsOf 37 = 16 := by kernel_rfl
theorem cellsStr : Tryz.prog.cellsOf 9 = 1 := by kernel_rfl
theorem cells8 : Tryz.prog.cellsOf 5 = 1 := by kernel_rfl
theorem tsize : ∃ m, Tryz.prog.types.size + 1 = m + 3 := by
  have : 2 ≤ Tryz.prog.types.size := of_decide_eq_true (by kernel_rfl)
  exact ⟨Tryz.prog.types.size - 2, by omega⟩
theorem lits_arr {P : Program} {d n : Nat} {t e : TypeId} {cs : List Value} (h : P.underlying t = some (.array n e)) (hl : cs.length = P.cellsOf t) : P.keyLits (d + 1) t cs = ((List.range n).mapM fun i => P.keyLits d e ((cs.drop (i * P.cellsOf e)).take (P.cellsOf e))).map List.flatten := by
  conv => lhs; unfold Program.keyLits
  simp only [h]
  rw [if_pos hl]
theorem lits_str {P : Program} {d : Nat} {t : TypeId} {s : ByteArray} (h : P.underlying t = some .string) (hl : s.size ≤ maxLen) : P.keyLits (d + 1) t [.string s] = some [.string s.data.toList] := by
  conv => lhs; unfold Program.keyLits
  simp only [h]
  rw [if_pos hl]
theorem lits_struct {P : Program} {d : Nat} {t : TypeId} {fs : Array Field} {cs : List Value} (h : P.underlying t = some (.struct fs)) (hl : cs.length = P.cellsOf t) (hn : fs.all (·.name != "_") = true) : P.keyLits (d + 1) t cs = (fs.toList.mapM fun f => P.keyLits d f.type ((cs.drop f.offset).take (P.cellsOf f.type))).map List.flatten := by
  conv => lhs; unfold Program.keyLits
  simp only [h]
  rw [if_pos ⟨hl, hn⟩]
theorem bytes_lits {P : Program} {d : Nat} {e : TypeId} (he : P.underlying e = some (.int .u8)) {f : Nat → Nat} : ∀ (l : List Nat), (∀ i ∈ l, f i < 256) → ∀ (cs : List Value), (∀ i ∈ l, (cs.drop i).take 1 = [.int .u8 ((f i : Nat) : Int)]) →
    ∃ ys, l.mapM (fun i => P.keyLits (d + 1) e ((cs.drop (i * 1)).take 1)) = some ys
  | [], _, _, _ => ⟨[], by simp⟩
  | i :: l, hf, cs, hc => by
    obtain ⟨ys, hys⟩ := bytes_lits (d := d) he l (fun j hj => hf j (by simp [hj])) cs (fun j hj => hc j (by simp [hj]))
    refine ⟨[.int .u8 ((f i : Nat) : Int)] :: ys, ?_⟩
    have h1 := hc i (by simp)
    have h2 : (Lit.int .u8 ((f i : Nat) : Int)).wf = true := by
      have := hf i (by simp)
      simp [Lit.wf, IntKind.min, IntKind.max, IntKind.signed, IntKind.bits]
      omega
    rw [List.mapM_cons, hys]
    simp only [Nat.mul_one, h1, Program.keyLits, he, h2]
    simp
theorem side_key (s : ByteArray) (f : Nat → Nat) (hs : s.size ≤ 32) (hf : ∀ i, i < 16 → f i < 256) : ∃ l, keyOf Tryz.prog 122 (.agg (sideC s f)) = some l := by
  have hlen : (sideC s f).toList.length = 17 := by unfold sideC; simp [row_size]
  have h0 : ((sideC s f).toList.drop 0).take 1 = [.string s] := by
    have h := sv_str s f
    rw [← Array.getElem?_toList] at h
    cases hl : (sideC s f).toList with
    | nil => rw [hl] at h; cases h
    | cons a l => rw [hl] at h; simp at h; simp [h]
  have h1 : ∀ i ∈ List.range 16, ((((sideC s f).toList.drop 1).take 16).drop i).take 1 = [.int .u8 ((f i : Nat) : Int)] := by
    intro i hi
    rw [List.mem_range] at hi
    have h := sv_byte s f i hi
    rw [← Array.getElem?_toList] at h
    apply List.ext_getElem?
    intro j
    by_cases hj : j = 0
    · subst hj
      rw [List.getElem?_take, if_pos (by omega), List.getElem?_drop, List.getElem?_take, if_pos (by omega), List.getElem?_drop]
      simpa using h
    · rw [List.getElem?_take, if_neg (by omega)]
      rw [List.getElem?_eq_none (by simp; omega)]
  have hsz : (sideC s f).size = 17 := row_size _ _
  obtain ⟨m, hm⟩ := tsize
  obtain ⟨ys, hys⟩ := bytes_lits (P := Tryz.prog) (d := m) (f := f) Tryz.underlying5 (List.range 16) (fun i hi => hf i (List.mem_range.1 hi)) _ h1
  have k16 : Tryz.prog.keyLits (m + 2) 37 (((sideC s f).toList.drop 1).take 16) = some ys.flatten := by
    rw [lits_arr Tryz.underlying37 (by rw [cells16]; simp [hlen]), cells8, hys]
    rfl
  have kst : Tryz.prog.keyLits (m + 2) 9 (((sideC s f).toList.drop 0).take 1) = some [.string s.data.toList] := by
    rw [h0, lits_str Tryz.underlying9 (by unfold maxLen; omega)]
  refine ⟨.string (keyBytes ([[Lit.string s.data.toList], ys.flatten].flatten)), ?_⟩
  unfold keyOf
  simp only [Tryz.underlying122, keyTypeSide, Value.formed, cellsSide, hsz, Value.cells, hm]
  rw [lits_struct Tryz.underlying122 (by rw [cellsSide, hlen]) (by simp)]
  simp only [List.mapM_cons, List.mapM_nil, cells16, cellsStr, k16, kst]
  rfl
/-- an entry: what is asked, what is answered -/
def ent (bk : Bool) (r : Rw) (i : Nat) : MapEntry := ⟨.agg (sideC r.k (fr bk r)), .agg (row 16 (b8 (fr (!bk) r))), i⟩
def ents (bk : Bool) (L : List Rw) : Array MapEntry := (L.zipIdx.map fun p => ent bk p.1 p.2).toArray
theorem ents_push (bk : Bool) (L : List Rw) (r : Rw) : ents bk (L ++ [r]) = (ents bk L).push (ent bk r L.length) := by
  unfold ents
  simp [List.zipIdx_append]
theorem ents_size (bk : Bool) (L : List Rw) : (ents bk L).size = L.length := by unfold ents; simp
theorem ents_mem {bk : Bool} {L : List Rw} {e : MapEntry} (h : e ∈ (ents bk L).toList) : ∃ r ∈ L, ∃ i, e = ent bk r i := by
  unfold ents at h
  simp only [List.mem_map] at h
  obtain ⟨⟨r, i⟩, hp, rfl⟩ := h
  exact ⟨r, List.fst_mem_of_mem_zipIdx hp, i, rfl⟩
theorem mem_ents {bk : Bool} {L : List Rw} {r : Rw} (h : r ∈ L) : ∃ i, ent bk r i ∈ (ents bk L).toList := by
  obtain ⟨i, hi, rfl⟩ := List.getElem_of_mem h
  refine ⟨i, ?_⟩
  unfold ents
  simp only [List.mem_map]
  exact ⟨(L[i], i), List.mem_zipIdx_iff_getElem?.2 (by simp [hi]), rfl⟩
/-- block b is one of the book's maps -/
def MapAt (w : World) (b : Nat) (bk : Bool) (L : List Rw) : Prop := w.heap[b]? = some (.map (ents bk L) L.length)
theorem MapAt.out {w : World} {b : Nat} {bk : Bool} {L : List Rw} (h : MapAt w b bk L) : w.heap[b]? = some (.map (ents bk L) L.length) := h
theorem MapAt.lt {w : World} {b : Nat} {bk : Bool} {L : List Rw} (h : MapAt w b bk L) : b < w.heap.size := (Array.getElem?_eq_some_iff.1 h).1
theorem MapAt.fresh (w : World) (bk : Bool) : MapAt (w.alloc (.map #[] 0)) w.heap.size bk [] := (MapKept.heap_alloc w _).1
theorem MapAt.alloc {w : World} {b : Nat} {bk : Bool} {L : List Rw} (h : MapAt w b bk L) (o : Obj) : MapAt (w.alloc o) b bk L := (Below.heap_alloc w o b h.lt).trans h
theorem MapAt.ne_blk {w : World} {b g : Nat} {bk : Bool} {L : List Rw} {t : TypeId} {cs : Array Value} (h : MapAt w b bk L) (hb : Blk w g t cs) : b ≠ g := by
  rintro rfl
  have := h.out.symm.trans hb.out
  simp at this
section
variable {w : World} {b : Nat} {bk : Bool} {L : List Rw}
theorem ents_keys (hg : ∀ r ∈ L, Good r) : ∀ e ∈ (ents bk L).toList, ∃ l, keyOf Tryz.prog 122 e.key = some l := by
  intro e he
  obtain ⟨r, hr, i, rfl⟩ := ents_mem he
  exact side_key _ _ (hg r hr).1 ((hg r hr).fr bk)
theorem look_hit (hb : MapAt w b bk L) (hg : ∀ r ∈ L, Good r) (hu : Uniq L) {s : ByteArray} {f : Nat → Nat} (hs : s.size ≤ 32) (hf : ∀ i, i < 16 → f i < 256) {r : Rw} (h : L.find? (hitR bk s f) = some r) :
    (Instr.lookup 78 (.map (some b)) (.agg (sideC s f)) true).run Tryz.prog w = .ok (.tuple #[.agg (row 16 (b8 (fr (!bk) r))), .bool true]) w := by
  obtain ⟨l, hl⟩ := side_key s f hs hf
  have hr := List.mem_of_find?_eq_some h
  obtain ⟨hk, he⟩ := hitR_iff.1 (List.find?_some h)
  rcases law.find w hl (ents bk L).toList (ents_keys hg) with ⟨h1, h2⟩ | ⟨j, e0, h1, h2, h3⟩
  · obtain ⟨i, hi⟩ := mem_ents (bk := bk) hr
    refine absurd ?_ (h2 _ hi)
    show Value.agg (sideC r.k (fr bk r)) = _
    rw [hk, side_ext (eqB_iff.1 he)]
  · obtain ⟨r', hr', i, rfl⟩ := ents_mem (List.mem_of_getElem? h2)
    have h4 : Value.agg (sideC r'.k (fr bk r')) = .agg (sideC s f) := h3
    obtain ⟨h5, h6⟩ := side_inj (Value.agg.inj h4)
    have h7 := hu.one hr hr' (List.find?_some h) (hitR_iff.2 ⟨h5, h6⟩)
    subst h7
    simp [Instr.lookup, run_underlying Tryz.underlying78, MapKept.run_getObj_map hb, law.check w _ hl, h1, Result.andThen]
    rfl
theorem look_miss (hb : MapAt w b bk L) (hg : ∀ r ∈ L, Good r) {s : ByteArray} {f : Nat → Nat} (hs : s.size ≤ 32) (hf : ∀ i, i < 16 → f i < 256) (h : hit bk L s f = false) :
    (Instr.lookup 78 (.map (some b)) (.agg (sideC s f)) true).run Tryz.prog w = .ok (.tuple #[.agg (row 16 (b8 fun _ => 0)), .bool false]) w := by
  obtain ⟨l, hl⟩ := side_key s f hs hf
  rcases law.find w hl (ents bk L).toList (ents_keys hg) with ⟨h1, h2⟩ | ⟨j, e0, h1, h2, h3⟩
  · simp [Instr.lookup, run_underlying Tryz.underlying78, MapKept.run_getObj_map hb, law.check w _ hl, h1, Result.andThen]
    kernel_rfl
  · obtain ⟨r', hr', i, rfl⟩ := ents_mem (List.mem_of_getElem? h2)
    have h4 : Value.agg (sideC r'.k (fr bk r')) = .agg (sideC s f) := h3
    obtain ⟨h5, h6⟩ := side_inj (Value.agg.inj h4)
    have := hit_false.1 h r' hr'
    rw [hitR_iff.2 ⟨h5, h6⟩] at this
    cases this
theorem put_new (hb : MapAt w b bk L) (hg : ∀ r ∈ L, Good r) {s : ByteArray} {f g : Nat → Nat} (hs : s.size ≤ 32) (hf : ∀ i, i < 16 → f i < 256) (h : hit bk L s f = false) :
    (Instr.mapUpdate 78 (.map (some b)) (.agg (sideC s f)) (.agg (row 16 (b8 g)))).run Tryz.prog w = .ok () (setBlock w b (.map (ents bk (L ++ [mk bk s f g])) (L ++ [mk bk s f g]).length)) := by
  obtain ⟨l, hl⟩ := side_key s f hs hf
  rcases law.find w hl (ents bk L).toList (ents_keys hg) with ⟨h1, h2⟩ | ⟨j, e0, h1, h2, h3⟩
  · have e1 : ents bk (L ++ [mk bk s f g]) = (ents bk L).push ⟨.agg (sideC s f), .agg (row 16 (b8 g)), L.length⟩ := by
      rw [ents_push]; unfold ent; rw [fr_mk, fr_mk', mk_k]
    rw [e1]
    simp [Instr.mapUpdate, run_underlying Tryz.underlying78, MapKept.run_getObj_map hb, law.check w false hl, h1, MapKept.run_setObj_map _ hb.out, Result.andThen, setBlock]
  · obtain ⟨r', hr', i, rfl⟩ := ents_mem (List.mem_of_getElem? h2)
    have h4 : Value.agg (sideC r'.k (fr bk r')) = .agg (sideC s f) := h3
    obtain ⟨h5, h6⟩ := side_inj (Value.agg.inj h4)
    have := hit_false.1 h r' hr'
    rw [hitR_iff.2 ⟨h5, h6⟩] at this
    cases this
theorem len_map (hb : MapAt w b bk L) (ty : TypeId) : (Builtin.len_ #[78] ty #[.map (some b)]).run Tryz.prog w = .ok (.int .i64 (L.length : Int)) w := by
  simp [Builtin.len_, run_underlying Tryz.underlying78, MapKept.run_getObj_map hb, Result.andThen, goInt, ents_size]
end
/-- all that was there is there, but for these blocks -/
structure KeptS (S : List Nat) (w w' : World) : Prop where
  os : w'.os = w.os
  tape : w'.tape = w.tape
  output : w'.output = w.output
  size : w.heap.size ≤ w'.heap.size
  block : ∀ k, k < w.heap.size → k ∉ S → w'.heap[k]? = w.heap[k]?
section
variable {S : List Nat} {a b c w w' : World}
theorem KeptS.refl (S : List Nat) (w : World) : KeptS S w w := ⟨rfl, rfl, rfl, Nat.le_refl _, fun _ _ _ => rfl⟩
theorem KeptS.trans (h : KeptS S a b) (h' : KeptS S b c) : KeptS S a c :=
  ⟨h'.os.trans h.os, h'.tape.trans h.tape, h'.output.trans h.output, Nat.le_trans h.size h'.size, fun k hk hg => (h'.block k (Nat.lt_of_lt_of_le hk h.size) hg).trans (h.block k hk hg)⟩
theorem KeptS.of (S : List Nat) (h : Below w.heap.size w w') : KeptS S w w' := ⟨h.os, h.tape, h.output, h.size, fun k hk _ => h.block k hk⟩
theorem KeptS.of1 {g : Nat} (h : Kept g w w') (hg : g ∈ S) : KeptS S w w' := ⟨h.os, h.tape, h.output, h.size, fun k hk hs => h.block k hk (fun e => hs (e ▸ hg))⟩
theorem KeptS.below (h : KeptS S w w') {B : Nat} (hS : ∀ g ∈ S, B ≤ g) (hB : B ≤ w.heap.size) : Below B w w' :=
  ⟨h.os, h.tape, h.output, h.size, fun k hk => h.block k (Nat.lt_of_lt_of_le hk hB) (fun hs => by have := hS k hs; omega)⟩
theorem KeptS.more {T : List Nat} (h : KeptS S w w') (hT : ∀ g ∈ S, g ∈ T) : KeptS T w w' := ⟨h.os, h.tape, h.output, h.size, fun k hk hs => h.block k hk (fun e => hs (hT k e))⟩
theorem KeptS.blk {k : Nat} {t : TypeId} {cs : Array Value} (h : KeptS S w w') (hb : Blk w k t cs) (hk : k ∉ S) : Blk w' k t cs := (h.block k hb.lt hk).trans hb
theorem KeptS.map {k : Nat} {bk : Bool} {L : List Rw} (h : KeptS S w w') (hb : MapAt w k bk L) (hk : k ∉ S) : MapAt w' k bk L := (h.block k hb.lt hk).trans hb
theorem KeptS.own {base e n : Nat} {v : Value} {f : Nat → Nat} (h : KeptS S w w') (ho : Own w base e 1 v n f) (hS : ∀ g cs, Blk w g e cs → g ∉ S) : Own w' base e 1 v n f := by
  obtain ⟨h1, h2 | ⟨k, c, cur, rfl, hbk, hblk, hnc, hcm, hsz, hcs⟩⟩ := ho
  · exact ⟨h1, .inl h2⟩
  · exact ⟨h1, .inr ⟨k, c, cur, rfl, hbk, h.blk hblk (hS k cur hblk), hnc, hcm, hsz, hcs⟩⟩
theorem keptS_set {g : Nat} {o' : Obj} (h : KeptS S a w) (hg : g ∈ S) (hw : ∃ es cl, w.heap[g]? = some (.map es cl)) : KeptS S a (setBlock w g o') := by
  obtain ⟨es, cl, hw⟩ := hw
  refine h.trans ⟨rfl, rfl, rfl, by simp [setBlock], fun k hk hs => heap_setBlock_other hw o' (fun e => hs (e ▸ hg))⟩
end
theorem MapAt.put {w : World} {b : Nat} {bk : Bool} {L : List Rw} (h : MapAt w b bk L) (L' : List Rw) : MapAt (setBlock w b (.map (ents bk L') L'.length)) b bk L' := heap_setBlock_same h _
theorem MapAt.other {w : World} {b g : Nat} {bk bk' : Bool} {L L' : List Rw} (h : MapAt w b bk L) (hg : MapAt w g bk' L') (hne : b ≠ g) (o : Obj) : MapAt (setBlock w g o) b bk L := (heap_setBlock_other hg o hne).trans h
theorem blk_other {w : World} {b g : Nat} {bk : Bool} {L : List Rw} {t : TypeId} {cs : Array Value} (h : Blk w b t cs) (hg : MapAt w g bk L) (o : Obj) : Blk (setBlock w g o) b t cs := (heap_setBlock_other hg o (fun e => hg.ne_blk h e.symm)).trans h
end Go.Proofs.YtdodflnmhgnpeaaGreatDoor.Bk
