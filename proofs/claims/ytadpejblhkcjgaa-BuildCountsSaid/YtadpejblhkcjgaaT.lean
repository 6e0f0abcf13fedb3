/- Types, and plain things as cells. -/
import Derived.Test.YtadpejblhkcjgaaHd
import Derived.Test.YtadpejblhkcjgaaP
namespace Go.Proofs.Ytadpejblhkcjgaa
open Go.ChangeShapes Go.WideShapes Go.ChangeAt Go.RowKit
set_option linter.unusedVariables false
set_option linter.unusedSimpArgs false

theorem size43 : (Try.prog.info? 43).map (·.size) = some 11 := by kernel_rfl
theorem size41 : (Try.prog.info? 41).map (·.size) = some 2 := by kernel_rfl
theorem size35 : (Try.prog.info? 35).map (·.size) = some 3 := by kernel_rfl
theorem size33 : (Try.prog.info? 33).map (·.size) = some 1 := by kernel_rfl
theorem size22 : (Try.prog.info? 22).map (·.size) = some 1 := by kernel_rfl
theorem size39 : (Try.prog.info? 39).map (·.size) = some 1 := by kernel_rfl
theorem size3 : (Try.prog.info? 3).map (·.size) = some 1 := by kernel_rfl
theorem size4 : (Try.prog.info? 4).map (·.size) = some 1 := by kernel_rfl
theorem size32 : (Try.prog.info? 32).map (·.size) = some 256 := by kernel_rfl
theorem sizeOf3 (w : World) : (sizeOf 3).run Try.prog w = .ok 1 w := by kernel_rfl
theorem sizeOf4 (w : World) : (sizeOf 4).run Try.prog w = .ok 1 w := by kernel_rfl
theorem sizeOf35 (w : World) : (sizeOf 35).run Try.prog w = .ok 3 w := by kernel_rfl
theorem sizeOf41 (w : World) : (sizeOf 41).run Try.prog w = .ok 2 w := by kernel_rfl
theorem sizeOf43 (w : World) : (sizeOf 43).run Try.prog w = .ok 11 w := by kernel_rfl
theorem agg3 (w : World) : (isAgg 3).run Try.prog w = .ok false w := by kernel_rfl
theorem agg4 (w : World) : (isAgg 4).run Try.prog w = .ok false w := by kernel_rfl
theorem agg22 (w : World) : (isAgg 22).run Try.prog w = .ok false w := by kernel_rfl
theorem agg33 (w : World) : (isAgg 33).run Try.prog w = .ok false w := by kernel_rfl
theorem agg39 (w : World) : (isAgg 39).run Try.prog w = .ok false w := by kernel_rfl
theorem f35_0 (ad : Addr) (w : World) : (Instr.fieldAt 35 (.pointer (some ad)) 0).run Try.prog w = .ok (.pointer (some (ad.add 0))) w := by kernel_rfl
theorem f35_1 (ad : Addr) (w : World) : (Instr.fieldAt 35 (.pointer (some ad)) 1).run Try.prog w = .ok (.pointer (some (ad.add 1))) w := by kernel_rfl
theorem f35_2 (ad : Addr) (w : World) : (Instr.fieldAt 35 (.pointer (some ad)) 2).run Try.prog w = .ok (.pointer (some (ad.add 2))) w := by kernel_rfl

/-! ### Plain things as cells -/
def nilE (s : Nat) : Ent := ⟨0, none, 0, 0, s, []⟩
def pc (c : Nat × Nat) : List Value := [.int .i64 c.1, .int .i64 c.2]
def cc (l : List (Nat × Nat)) : List Value := l.flatMap pc
def sc (s : Shp) (en : Ent) : List Value := [.int .i64 s.need, .int .i64 s.more, en.val, .bool s.tu, .bool s.cl, .bool s.wh, .int .i64 s.ed, .int .i64 s.fi.1, .int .i64 s.fi.2, .int .i64 s.la.1, .int .i64 s.la.2]
def P.zshp : Shp := ⟨0, 0, [], false, false, false, 0, (0, 0), (0, 0)⟩
theorem pc_one (c : Nat × Nat) : ∀ v ∈ pc c, v.oneCell' = true := by
  intro v hv
  simp only [pc, List.mem_cons, List.not_mem_nil, or_false] at hv
  rcases hv with rfl | rfl <;> rfl
theorem sc_one (s : Shp) (en : Ent) : ∀ v ∈ sc s en, v.oneCell' = true := by
  intro v hv
  simp only [sc, List.mem_cons, List.not_mem_nil, or_false] at hv
  rcases hv with rfl | rfl | rfl | rfl | rfl | rfl | rfl | rfl | rfl | rfl | rfl <;> rfl
/-- A primitive in memory: its two lists, and who provokes it. -/
structure PE where
  V : Ent
  E : Ent
  p : Nat
def pm (x : PE) : List Value := [x.V.val, x.E.val, .int .i64 x.p]
def pms (l : List PE) : List Value := l.flatMap pm
theorem pm_one (x : PE) : ∀ v ∈ pm x, v.oneCell' = true := by
  intro v hv
  simp only [pm, List.mem_cons, List.not_mem_nil, or_false] at hv
  rcases hv with rfl | rfl | rfl <;> rfl
def ints (l : List Nat) : List Value := l.map fun (k : Nat) => .int .i64 k
def bools (l : List Bool) : List Value := l.map .bool
theorem ints_len (l : List Nat) : (ints l).length = l.length := by simp [ints]
theorem bools_len (l : List Bool) : (bools l).length = l.length := by simp [bools]
theorem ints_one (l : List Nat) : ∀ v ∈ ints l, v.oneCell' = true := by
  intro v hv
  obtain ⟨i, _, rfl⟩ := List.mem_map.1 hv
  rfl
theorem bools_one (l : List Bool) : ∀ v ∈ bools l, v.oneCell' = true := by
  intro v hv
  obtain ⟨i, _, rfl⟩ := List.mem_map.1 hv
  rfl
theorem ints_at {l : List Nat} {i x : Nat} (h : l[i]? = some x) : (ints l)[i]? = some (.int .i64 x) := by simp [ints, h]
theorem bools_at {l : List Bool} {i : Nat} {x : Bool} (h : l[i]? = some x) : (bools l)[i]? = some (.bool x) := by simp [bools, h]
theorem flat_len {α : Type} (f : α → List Value) (s : Nat) (hf : ∀ x, (f x).length = s) : ∀ l : List α, (l.flatMap f).length = l.length * s
  | [] => by simp
  | a :: l => by rw [List.flatMap_cons, List.length_append, hf, flat_len f s hf l, List.length_cons, Nat.add_mul, Nat.one_mul, Nat.add_comm]
theorem flat_at {α : Type} (f : α → List Value) (s : Nat) (hf : ∀ x, (f x).length = s) : ∀ {l : List α} {i : Nat} {x : α}, l[i]? = some x → ∀ j v, (f x)[j]? = some v → (l.flatMap f)[i * s + j]? = some v
  | a :: l, 0, x, h, j, v, hv => by
    obtain rfl : a = x := by simpa using h
    have := (List.getElem?_eq_some_iff.1 hv).1
    rw [List.flatMap_cons, List.getElem?_append_left (by omega), Nat.zero_mul, Nat.zero_add]
    exact hv
  | a :: l, i + 1, x, h, j, v, hv => by
    rw [List.flatMap_cons, List.getElem?_append_right (by rw [hf, Nat.add_mul, Nat.one_mul]; omega), hf, show (i + 1) * s + j - s = i * s + j by rw [Nat.add_mul, Nat.one_mul]; omega]
    exact flat_at f s hf (l := l) (by simpa using h) j v hv
theorem pms_len (l : List PE) : (pms l).length = l.length * 3 := flat_len pm 3 (fun _ => rfl) l
theorem cc_len (l : List (Nat × Nat)) : (cc l).length = l.length * 2 := flat_len pc 2 (fun _ => rfl) l
theorem pms_at {l : List PE} {i : Nat} {x : PE} (h : l[i]? = some x) : ∀ j v, (pm x)[j]? = some v → (pms l)[i * 3 + j]? = some v := flat_at pm 3 (fun _ => rfl) h
theorem cc_at {l : List (Nat × Nat)} {i : Nat} {x : Nat × Nat} (h : l[i]? = some x) : ∀ j v, (pc x)[j]? = some v → (cc l)[i * 2 + j]? = some v := flat_at pc 2 (fun _ => rfl) h
theorem pms_app (a b : List PE) : pms (a ++ b) = pms a ++ pms b := by simp [pms]
theorem pms_one (l : List PE) : ∀ v ∈ pms l, v.oneCell' = true := by
  intro v hv
  obtain ⟨a, _, ha⟩ := List.mem_flatMap.1 hv
  exact pm_one a v ha
theorem zero43 : (Try.prog.info? 43).map (·.zero) = some (some (.agg (sc P.zshp (nilE 2)).toArray)) := by kernel_rfl
theorem zero41 : (Try.prog.info? 41).map (·.zero) = some (some (.agg (pc (0, 0)).toArray)) := by kernel_rfl
theorem zero35 : (Try.prog.info? 35).map (·.zero) = some (some (.agg (pm ⟨nilE 1, nilE 1, 0⟩).toArray)) := by kernel_rfl
theorem info3 : (Try.prog.info? 3).map (fun i => (i.zero, i.size)) = some (some (.int .i64 0), 1) := by kernel_rfl
theorem info4 : (Try.prog.info? 4).map (fun i => (i.zero, i.size)) = some (some (.bool false), 1) := by kernel_rfl
theorem info35 : (Try.prog.info? 35).map (fun i => (i.zero, i.size)) = some (some (.agg (pm ⟨nilE 1, nilE 1, 0⟩).toArray), 3) := by kernel_rfl
theorem info41 : (Try.prog.info? 41).map (fun i => (i.zero, i.size)) = some (some (.agg (pc (0, 0)).toArray), 2) := by kernel_rfl
theorem info43 : (Try.prog.info? 43).map (fun i => (i.zero, i.size)) = some (some (.agg (sc P.zshp (nilE 2)).toArray), 11) := by kernel_rfl
theorem info3b : (Try.prog.info? 3).map (fun i => (i.zero, i.size, i.bytes)) = some (some (.int .i64 0), 1, 8) := by kernel_rfl
theorem info4b : (Try.prog.info? 4).map (fun i => (i.zero, i.size, i.bytes)) = some (some (.bool false), 1, 1) := by kernel_rfl
theorem info35b : (Try.prog.info? 35).map (fun i => (i.zero, i.size, i.bytes)) = some (some (.agg (pm ⟨nilE 1, nilE 1, 0⟩).toArray), 3, 56) := by kernel_rfl
end Go.Proofs.Ytadpejblhkcjgaa
