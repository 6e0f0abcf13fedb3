/- Frames and slices for the law's play: one variable and one row of the call's own turn; acts in memory; a cut of acts. -/
import Derived.Test.YtlggclehakcdaaaTry
import Derived.Test.YtlggclehakcdaaaWords
import Derived.Test.YtlggclehakcdaaaPlayM
namespace Go.Proofs.Ytlggclehakcdaaa
open Go.ChangeShapes Go.WideShapes Go.ChangeAt Go.RowKit
set_option linter.unusedVariables false

/-- Only block g, the block that v owns, and what is new, turn. -/
structure Two (g : Nat) (v : Value) (w w' : World) : Prop where
  os : w'.os = w.os
  tape : w'.tape = w.tape
  output : w'.output = w.output
  size : w.heap.size ≤ w'.heap.size
  block : ∀ k, k < w.heap.size → k ≠ g → some k ≠ v.ownBlock → w'.heap[k]? = w.heap[k]?
/-- What u owns is what v owned, or new, or nothing. -/
def Owns (v u : Value) (w : World) : Prop := u.ownBlock = v.ownBlock ∨ ∀ k, u.ownBlock = some k → w.heap.size ≤ k
section
variable {g : Nat} {v u : Value} {a b c : World}
theorem Two.refl (g : Nat) (v : Value) (w : World) : Two g v w w := ⟨rfl, rfl, rfl, Nat.le_refl _, fun _ _ _ _ => rfl⟩
theorem Owns.refl (v : Value) (w : World) : Owns v v w := .inl rfl
theorem Two.trans (h : Two g v a b) (o : Owns v u a) (k : Two g u b c) : Two g v a c :=
  ⟨k.os.trans h.os, k.tape.trans h.tape, k.output.trans h.output, Nat.le_trans h.size k.size, fun i hi hg hv =>
    (k.block i (Nat.lt_of_lt_of_le hi h.size) hg (fun e => by
      rcases o with o | o
      · exact hv (e.trans o)
      · have := o i e.symm; omega)).trans (h.block i hi hg hv)⟩
theorem Owns.trans {x : Value} (h : Owns v u a) (s : a.heap.size ≤ b.heap.size) (k : Owns u x b) : Owns v x a := by
  rcases k with k | k
  · rcases h with h | h
    · exact .inl (k.trans h)
    · exact .inr (fun i hi => h i (k.symm.trans hi))
  · exact .inr (fun i hi => Nat.le_trans s (k i hi))
theorem Two.of_below (h : Below a.heap.size a b) : Two g v a b := ⟨h.os, h.tape, h.output, h.size, fun i hi _ _ => h.block i hi⟩
theorem Two.grown (h : Two g v a b) (o : Owns v u a) (k : b.grownBy c u.ownBlock) : Two g v a c :=
  h.trans o ⟨k.os, k.tape, k.output, k.size, fun i hi _ hv => k.block i hi hv⟩
theorem Two.set (h : Two g v a b) {p : Addr} (hp : p.block = g ∨ a.heap.size ≤ p.block) (x : Value) : Two g v a (b.setCell p x) :=
  ⟨h.os, h.tape, h.output, by simpa [World.setCell] using h.size, fun i hi hg hv => (Below.heap_setCell b p x i (by
    rintro rfl
    rcases hp with hp | hp
    · exact hg hp
    · omega)).trans (h.block i hi hg hv)⟩
theorem Two.new (h : Two g v a b) (o : Obj) : Two g v a (b.alloc o) :=
  ⟨h.os, h.tape, h.output, Nat.le_trans h.size (by simp), fun i hi hg hv => (Below.heap_alloc b o i (Nat.lt_of_lt_of_le hi h.size)).trans (h.block i hi hg hv)⟩
theorem Two.draw (h : Two g v a b) : Two g v a b.drew := ⟨h.os, h.tape, h.output, h.size, h.block⟩
theorem Two.cell (h : Two g v a b) {p : Addr} (hp : p.block < a.heap.size) (hg : p.block ≠ g) (hv : some p.block ≠ v.ownBlock) : b.cell? p = a.cell? p := World.cell?_of_block (h.block _ hp hg hv)
theorem Two.frozen (h : Two g v a b) {p : Addr} (hp : p.block < a.heap.size) (hg : p.block ≠ g) (hv : some p.block ≠ v.ownBlock) : b.frozen? p = a.frozen? p := World.frozen?_of_block (h.block _ hp hg hv)
theorem Two.below (h : Two g v a b) {B : Nat} (hB : B ≤ a.heap.size) (hg : B ≤ g) (hv : ∀ k, v.ownBlock = some k → B ≤ k) : Below B a b :=
  ⟨h.os, h.tape, h.output, h.size, fun i hi => h.block i (Nat.lt_of_lt_of_le hi hB) (by omega) (fun e => by have := hv i e.symm; omega)⟩
end

/-- A list of numbers as cells. -/
def ints (l : List Int) : List Value := l.map (Value.int .i64)
theorem ints_one (l : List Int) : ∀ u ∈ ints l, u.oneCell' = true := by
  intro u hu
  rcases List.mem_map.1 hu with ⟨b, _, rfl⟩
  rfl
theorem ints_app (a b : List Int) : ints (a ++ b) = ints a ++ ints b := by simp [ints]
theorem ints_at {l : List Int} {i : Nat} (h : i < l.length) : (ints l)[i]? = some (.int .i64 (l.getD i 0)) := by simp [ints, List.getD, h]
theorem int_info : (Try.prog.info? 3).map (fun i => (i.zero, i.size, i.bytes)) = some (some (.int .i64 0), 1, 8) := by kernel_rfl

/-- Acts in memory. -/
def ActsAt (w : World) (B : Nat) (A : Option Addr) (l : List (Int × Int × Int)) : Prop :=
  ∀ i (h : i < l.length), ∃ ad : Addr, A = some ad ∧ ad.block < B ∧ w.cell? (ad.add (i * 3)) = some (.int .i64 l[i].1) ∧ w.cell? (ad.add (i * 3 + 1)) = some (.int .i64 l[i].2.1) ∧ w.cell? (ad.add (i * 3 + 2)) = some (.int .i64 l[i].2.2)
theorem ActsAt.below {w w' : World} {B : Nat} {A : Option Addr} {l : List (Int × Int × Int)} (h : ActsAt w B A l) (hb : Below B w w') : ActsAt w' B A l := by
  intro i hi
  obtain ⟨ad, e, lt, c0, c1, c2⟩ := h i hi
  have s : ∀ k, w'.cell? (ad.add k) = w.cell? (ad.add k) := fun k => hb.cell (by rw [block_of_add]; exact lt)
  exact ⟨ad, e, lt, (s _).trans c0, (s _).trans c1, (s _).trans c2⟩
theorem add_add' (a : Addr) (i j : Nat) : (a.add i).add j = a.add (i + j) := by
  unfold Addr.add
  by_cases hi : i = 0
  · subst hi; simp
  · by_cases hj : j = 0
    · subst hj; simp
    · simp [hi, hj, Nat.add_assoc]
/-- The acts from i on, c of them: what Go's cut makes. -/
theorem cut_acts (A : Option Addr) (len cap i c : Nat) (l : List (Int × Int × Int)) (hl : l.length = len) (h : i + 1 + c ≤ len) (hc : len ≤ cap) (hm : cap ≤ 9223372036854775807) :
    ∃ A', (∀ w, (Instr.slice 22 (.slice A len cap) (some (.int .i64 ((i : Int) + 1))) (some (.int .i64 ((i : Int) + 1 + (c : Int)))) none).run Try.prog w = .ok (.slice A' c (cap - (i + 1))) w) ∧
      (∀ w B, ActsAt w B A l → ActsAt w B A' ((l.drop (i + 1)).take c)) := by
  refine ⟨if cap = i + 1 then A else A.map (·.add ((i + 1) * 3)), fun w => ?_, fun w B h0 j hj => ?_⟩
  · have e1 : ((i : Int) + 1).toNat = i + 1 := by omega
    have e2 : ((i : Int) + 1 + (c : Int)).toNat = i + 1 + c := by omega
    have h1 : (0 : Int) ≤ (i : Int) + 1 := by omega
    have h2 : (0 : Int) ≤ (i : Int) + 1 + (c : Int) := by omega
    have h3 : (i : Int) + 1 + (c : Int) ≤ (cap : Int) := by omega
    have h4 : (i : Int) + 1 ≤ (i : Int) + 1 + (c : Int) := by omega
    have hsz : (Try.prog.info? 42).map (·.size) = some 3 := by kernel_rfl
    simp [Instr.slice, run_underlying Try.underlying22, go_sem, Instr.sliceBounds, Instr.sliceBound, asIntOf, h1, h2, h3, h4, e1, e2]
  · rw [List.length_take, List.length_drop] at hj
    have hi : i + 1 + j < l.length := by omega
    obtain ⟨ad, e, lt, c0, c1, c2⟩ := h0 (i + 1 + j) hi
    subst e
    have g : ((l.drop (i + 1)).take c)[j]'(by rw [List.length_take, List.length_drop]; omega) = l[i + 1 + j] := by simp
    rw [if_neg (by omega)]
    refine ⟨ad.add ((i + 1) * 3), rfl, by rw [block_of_add]; exact lt, ?_, ?_, ?_⟩
    · rw [g, add_add', show (i + 1) * 3 + j * 3 = (i + 1 + j) * 3 by omega]; exact c0
    · rw [g, add_add', show (i + 1) * 3 + (j * 3 + 1) = (i + 1 + j) * 3 + 1 by omega]; exact c1
    · rw [g, add_add', show (i + 1) * 3 + (j * 3 + 2) = (i + 1 + j) * 3 + 2 by omega]; exact c2
end Go.Proofs.Ytlggclehakcdaaa
