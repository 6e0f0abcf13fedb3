/- Cuts of a list of numbers; lists of commands in memory. -/
import Derived.Test.YtaegekmfndcflaaFirst
namespace Go.Proofs.Ytaegekmfndcflaa
open Go.ChangeShapes Go.WideShapes Go.ChangeAt Go.RowKit
set_option linter.unusedVariables false
set_option linter.unusedSimpArgs false

theorem add_add' (a : Addr) (i j : Nat) : (a.add i).add j = a.add (i + j) := by
  unfold Addr.add
  by_cases hi : i = 0
  · subst hi; simp
  · by_cases hj : j = 0
    · subst hj; simp
    · simp [hi, hj, Nat.add_assoc]
/-- What stands at a cut. -/
theorem cut_reads {w : World} {B k m : Nat} {ad : Addr} {a : List Int} (h : Reads w B 1 (some ad) a.length (ints a)) (hk : k + m ≤ a.length) (Q : Prop) [Decidable Q] (hQ : 0 < m → ¬ Q) :
    Reads w B 1 (some (if Q then ad else ad.add (k * 1))) m (ints ((a.drop k).take m)) where
  len := by rw [ints_len, List.length_take, List.length_drop]; omega
  lies := by
    intro hm
    rw [if_neg (hQ hm)]
    obtain ⟨ad', e, lt, hc⟩ := h.lies (by omega)
    cases e
    refine ⟨_, rfl, by rw [block_of_add]; exact lt, fun j u hu => ?_⟩
    rw [add_add', Nat.mul_one]
    refine hc _ _ ?_
    have hj : j < m := by
      have := (List.getElem?_eq_some_iff.1 hu).1
      simp [ints] at this
      omega
    rw [← hu]
    simp only [ints, List.getElem?_map, List.getElem?_take, List.getElem?_drop]
    rw [if_pos hj]
section
variable {A : Option Addr} {len cap k m : Nat} (w : World)
theorem run_cut_from (ad : Addr) (hk : k ≤ len) (hl : len ≤ cap) : (Instr.slice 28 (.slice (some ad) len cap) (some (.int .i64 (k : Int))) none none).run Try.prog w = .ok (.slice (some (if cap = k then ad else ad.add (k * 1))) (len - k) (cap - k)) w := by
  obtain ⟨i0, hi0, hz0, hz1, hz2⟩ := info_parts int_info
  have h1 : (0 : Int) ≤ (k : Int) := by omega
  have h2 : k ≤ cap := by omega
  simp only [Instr.slice, run_underlying Try.underlying28, go_sem, Instr.sliceBounds, Instr.sliceBound, asIntOf, sizeOf, typeInfo]
  simp [h1, hk, hl, h2, hi0, hz1]
  split <;> rfl
theorem run_cut_to (ad : Addr) (hk : k ≤ m) (hm : m ≤ cap) : (Instr.slice 28 (.slice (some ad) len cap) (some (.int .i64 (k : Int))) (some (.int .i64 (m : Int))) none).run Try.prog w = .ok (.slice (some (if cap = k then ad else ad.add (k * 1))) (m - k) (cap - k)) w := by
  obtain ⟨i0, hi0, hz0, hz1, hz2⟩ := info_parts int_info
  have h1 : (0 : Int) ≤ (k : Int) := by omega
  have h2 : (0 : Int) ≤ (m : Int) := by omega
  have h3 : k ≤ cap := by omega
  simp only [Instr.slice, run_underlying Try.underlying28, go_sem, Instr.sliceBounds, Instr.sliceBound, asIntOf, sizeOf, typeInfo]
  simp [h1, h2, hk, hm, h3, hi0, hz1]
  split <;> rfl
theorem run_cut_max (ad : Addr) (hk : k ≤ m) (hm : m ≤ cap) : (Instr.slice 28 (.slice (some ad) len cap) (some (.int .i64 (k : Int))) (some (.int .i64 (m : Int))) (some (.int .i64 (m : Int)))).run Try.prog w = .ok (.slice (some (if m = k then ad else ad.add (k * 1))) (m - k) (m - k)) w := by
  obtain ⟨i0, hi0, hz0, hz1, hz2⟩ := info_parts int_info
  have h1 : (0 : Int) ≤ (k : Int) := by omega
  have h2 : (0 : Int) ≤ (m : Int) := by omega
  have h3 : k ≤ cap := by omega
  simp only [Instr.slice, run_underlying Try.underlying28, go_sem, Instr.sliceBounds, Instr.sliceBound, asIntOf, sizeOf, typeInfo]
  simp [h1, h2, hk, hm, h3, hi0, hz1]
  split <;> rfl
end
/-! ### Commands in memory -/
/-- A slice that holds the numbers, and doesn't lie in block g. -/
def Sub (w : World) (B : Nat) (g : Option Nat) (x : Value) (l : List Int) : Prop :=
  ∃ A c, x = .slice A l.length c ∧ Reads w B 1 A l.length (ints l) ∧ ∀ ad, A = some ad → 0 < l.length → some ad.block ≠ g
/-- Commands as cells. -/
structure RecCells (w : World) (B : Nat) (g : Option Nat) (cs : List Value) (out : List P.Rec) : Prop where
  len : cs.length = out.length * 2
  at_ : ∀ i (h : i < out.length), cs[i * 2]? = some (.int .i64 out[i].1) ∧ ∃ x, cs[i * 2 + 1]? = some x ∧ Sub w B g x out[i].2
section
variable {w w' : World} {B B' : Nat} {g g' : Option Nat} {x : Value} {l : List Int} {cs : List Value} {out : List P.Rec}
theorem Sub.turn (h : Sub w B g x l) (same : ∀ p : Addr, p.block < B → some p.block ≠ g → w'.cell? p = w.cell? p) (hB : B ≤ B') (hg : ∀ k, k < B → some k ≠ g → some k ≠ g') : Sub w' B' g' x l := by
  obtain ⟨A, c, rfl, hr, hn⟩ := h
  refine ⟨A, c, rfl, ⟨hr.len, fun hl => ?_⟩, fun ad e hl => ?_⟩
  · obtain ⟨ad, e, lt, hc⟩ := hr.lies hl
    refine ⟨ad, e, Nat.lt_of_lt_of_le lt hB, fun j u hu => ?_⟩
    rw [same (ad.add j) (by rw [block_of_add]; exact lt) (by rw [block_of_add]; exact hn ad e hl)]
    exact hc j u hu
  · obtain ⟨ad', e', lt, _⟩ := hr.lies hl
    rw [e] at e'
    cases e'
    exact hg _ lt (hn ad e hl)
theorem RecCells.turn (h : RecCells w B g cs out) (same : ∀ p : Addr, p.block < B → some p.block ≠ g → w'.cell? p = w.cell? p) (hB : B ≤ B') (hg : ∀ k, k < B → some k ≠ g → some k ≠ g') : RecCells w' B' g' cs out where
  len := h.len
  at_ := fun i hi => by
    obtain ⟨h1, x, h2, h3⟩ := h.at_ i hi
    exact ⟨h1, x, h2, h3.turn same hB hg⟩
theorem RecCells.nil : RecCells w B g [] [] := ⟨rfl, fun i h => absurd h (by simp)⟩
theorem RecCells.snoc (h : RecCells w B g cs out) {op : Int} (hs : Sub w B g x l) : RecCells w B g (cs ++ [.int .i64 op, x]) (out ++ [(op, l)]) where
  len := by simp [h.len]; omega
  at_ := fun i hi => by
    have hl := h.len
    by_cases q : i < out.length
    · obtain ⟨h1, y, h2, h3⟩ := h.at_ i q
      rw [List.getElem?_append_left (by omega), List.getElem?_append_left (by omega), List.getElem_append_left q]
      exact ⟨h1, y, h2, h3⟩
    · have e : i = out.length := by simp at hi; omega
      subst e
      rw [List.getElem?_append_right (by omega), List.getElem?_append_right (by omega)]
      have e1 : out.length * 2 - cs.length = 0 := by omega
      have e2 : out.length * 2 + 1 - cs.length = 1 := by omega
      rw [e1, e2]
      simp
      exact hs
theorem RecCells.below (h : RecCells w B none cs out) (hb : Below B w w') : RecCells w' B none cs out := h.turn (fun p hp _ => hb.cell hp) (Nat.le_refl _) (fun _ _ _ => by simp)
theorem RecCells.more (h : RecCells w B none cs out) (hB : B ≤ B') : RecCells w B' none cs out := h.turn (fun _ _ _ => rfl) hB (fun _ _ _ => by simp)
theorem RecCells.grown (h : RecCells w B g cs out) (hg : w.grownBy w' g) (hB : B ≤ w.heap.size) (hg' : g' = g ∨ g' = some w.heap.size) : RecCells w' B g' cs out :=
  h.turn (fun p hp hne => World.cell?_of_block (hg.block _ (by omega) hne)) (Nat.le_refl _) (fun k hk hne => by
    rcases hg' with rfl | rfl
    · exact hne
    · intro e; cases e; omega)
theorem RecCells.free (h : RecCells w B g cs out) : RecCells w B none cs out := h.turn (fun _ _ _ => rfl) (Nat.le_refl _) (fun _ _ _ => by simp)
end
/-- Commands that lie in memory. -/
def RecsAt (w : World) (B : Nat) (A : Option Addr) (out : List P.Rec) : Prop := ∃ cs, Reads w B 2 A out.length cs ∧ RecCells w B none cs out
section
variable {w w' : World} {B B' : Nat} {A : Option Addr} {out : List P.Rec}
theorem RecsAt.below (h : RecsAt w B A out) (hb : Below B w w') : RecsAt w' B A out := by
  obtain ⟨cs, h1, h2⟩ := h
  exact ⟨cs, h1.below hb, h2.below hb⟩
theorem RecsAt.more (h : RecsAt w B A out) (hB : B ≤ B') : RecsAt w B' A out := by
  obtain ⟨cs, h1, h2⟩ := h
  exact ⟨cs, h1.more hB, h2.more hB⟩
theorem RecsAt.at_ (h : RecsAt w B A out) {i : Nat} (hi : i < out.length) : ∃ ad A' c, A = some ad ∧ ad.block < B ∧ w.cell? (ad.add (i * 2)) = some (.int .i64 out[i].1) ∧ w.cell? (ad.add (i * 2 + 1)) = some (.slice A' out[i].2.length c) ∧ Reads w B 1 A' out[i].2.length (ints out[i].2) := by
  obtain ⟨cs, h1, h2⟩ := h
  obtain ⟨ad, e, lt, hc⟩ := h1.lies (by omega)
  obtain ⟨h3, x, h4, A', c, rfl, h5, _⟩ := h2.at_ i hi
  exact ⟨ad, A', c, e, lt, hc _ _ h3, hc _ _ h4, h5⟩
end
/-- How Get ends. -/
def RetGet (w : World) (R : List P.Rec × Nat × Int) (e : Ending) (w' : World) : Prop :=
  ∃ A c, e = .returned (.tuple #[.slice A R.1.length c, .int .i64 (R.2.1 : Nat), .int .i64 R.2.2]) ∧ RecsAt w' w'.heap.size A R.1 ∧ Below w.heap.size w w'
theorem rec_info : (Try.prog.info? 30).map (fun i => (i.zero, i.size, i.bytes)) = some (some (.agg #[.int .i64 0, .slice none 0 0]), 2, 32) := by kernel_rfl
end Go.Proofs.Ytaegekmfndcflaa
