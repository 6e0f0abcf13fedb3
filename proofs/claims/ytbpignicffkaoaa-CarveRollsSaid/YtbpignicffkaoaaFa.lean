/- Corners in memory; rows; how lists are handed back. -/
import Derived.Test.YtbpignicffkaoaaLa
import Derived.Test.YtbpignicffkaoaaVb
import Derived.Test.YtbpignicffkaoaaPe
import Derived.Test.YtbpignicffkaoaaDu
namespace Go.Proofs.Ytbpignicffkaoaa
open Go.ChangeShapes Go.WideShapes Go.ChangeAt Go.RowKit
set_option linter.unusedVariables false
set_option linter.unusedSimpArgs false

/-- A vertex and its flag, in memory. -/
def cn (x : C.PV) : List Value := M.mat 8 x.1 ++ [.bool x.2]
def C.zero : C.PV := (M.zero, false)
theorem cn_len (x : C.PV) : (cn x).length = 9 := by simp [cn, M.mat_len]
theorem cn_len2 (x y : C.PV) : (cn x).length = (cn y).length := by rw [cn_len, cn_len]
theorem cn_one (x : C.PV) : ∀ v ∈ cn x, v.oneCell' = true := by
  intro v hv
  rcases List.mem_append.1 hv with hv | hv
  · exact M.mat_one 8 _ v hv
  · obtain rfl := List.mem_singleton.1 hv
    rfl
theorem cn_mid (x : C.PV) : ∀ j v, (M.mat 8 x.1)[j]? = some v → (cn x)[0 + j]? = some v := fun j v h => by
  rw [Nat.zero_add, cn, List.getElem?_append_left (List.getElem?_eq_some_iff.1 h).1]
  exact h
theorem cn_flag (x : C.PV) : (cn x)[8]? = some (.bool x.2) := by
  rw [cn, List.getElem?_append_right (by rw [M.mat_len]; decide), M.mat_len]
  rfl
theorem size52 : (Try.prog.info? 52).map (·.size) = some 9 := by kernel_rfl
theorem s52 (x : C.PV) : (Try.prog.info? 52).map (·.size) = some (cn x).length := by rw [cn_len]; exact size52
theorem zero52 : (Try.prog.info? 52).map (·.zero) = some (some (.agg (cn C.zero).toArray)) := by kernel_rfl
theorem sizeOf52 (w : World) : (sizeOf 52).run Try.prog w = .ok 9 w := by kernel_rfl
theorem sizeOf27 (w : World) : (sizeOf 39).run Try.prog w = .ok 8 w := by kernel_rfl
theorem sizeOf4 (w : World) : (sizeOf 4).run Try.prog w = .ok 1 w := by kernel_rfl
theorem agg4 (w : World) : (isAgg 4).run Try.prog w = .ok false w := by kernel_rfl
theorem info52 : (Try.prog.info? 52).map (fun i => (i.zero, i.size)) = some (some (.agg (cn C.zero).toArray), 9) := by kernel_rfl
theorem info52b : (Try.prog.info? 52).map (fun i => (i.zero, i.size, i.bytes)) = some (some (.agg (cn C.zero).toArray), 9, 72) := by kernel_rfl
theorem info27 : (Try.prog.info? 39).map (fun i => (i.zero, i.size)) = some (some (.agg (M.mat 8 M.zero).toArray), 8) := by kernel_rfl
theorem info27b : (Try.prog.info? 39).map (fun i => (i.zero, i.size, i.bytes)) = some (some (.agg (M.mat 8 M.zero).toArray), 8, 64) := by kernel_rfl
theorem info4 : (Try.prog.info? 4).map (fun i => (i.zero, i.size)) = some (some (.bool false), 1) := by kernel_rfl
theorem info4b : (Try.prog.info? 4).map (fun i => (i.zero, i.size, i.bytes)) = some (some (.bool false), 1, 1) := by kernel_rfl
theorem f52_0 (ad : Addr) (w : World) : (Instr.fieldAt 52 (.pointer (some ad)) 0).run Try.prog w = .ok (.pointer (some (ad.add 0))) w := by kernel_rfl
theorem f52_1 (ad : Addr) (w : World) : (Instr.fieldAt 52 (.pointer (some ad)) 1).run Try.prog w = .ok (.pointer (some (ad.add 8))) w := by kernel_rfl
theorem f27_3 (ad : Addr) (w : World) : (Instr.fieldAt 39 (.pointer (some ad)) 3).run Try.prog w = .ok (.pointer (some (ad.add 3))) w := by kernel_rfl
theorem built52 (v : Nat → Int) (b : Bool) : Try.prog.built 52 [(0, arr 8 v), (1, .bool b)] = some (cn (v, b)).toArray := by kernel_rfl
/-- Corners in memory. -/
def cnC (l : List C.PV) : List Value := l.flatMap cn
theorem cnC_len (l : List C.PV) : (cnC l).length = l.length * 9 := flat_len cn 9 cn_len l
theorem cnC_at {l : List C.PV} {i : Nat} {x : C.PV} (h : l[i]? = some x) : ∀ j v, (cn x)[j]? = some v → (cnC l)[i * 9 + j]? = some v := flat_at cn 9 cn_len h
theorem cnC_app (a b : List C.PV) : cnC (a ++ b) = cnC a ++ cnC b := by simp [cnC]
theorem cnC_one (l : List C.PV) : ∀ v ∈ cnC l, v.oneCell' = true := by
  intro v hv
  obtain ⟨a, _, ha⟩ := List.mem_flatMap.1 hv
  exact cn_one a v ha
def cnE (lo : Nat) (A : Option Addr) (c : Nat) (l : List C.PV) : Ent := ⟨lo, A, l.length, c, 9, cnC l⟩
/-- Rows that grow: of corners, of vertices, of flags. -/
def cnR (A : Option Addr) (c : Nat) (l : List C.PV) : RowD := ⟨.slice A l.length c, 52, 9, l.length, cnC l⟩
def vR (A : Option Addr) (c : Nat) (l : List (Nat → Int)) : RowD := ⟨.slice A l.length c, 39, 8, l.length, vC l⟩
def bR (A : Option Addr) (c : Nat) (l : List Bool) : RowD := ⟨.slice A l.length c, 4, 1, l.length, bC l⟩
section
variable {w0 w : World} {bs : List (Nat × TypeId × List Value)} {es : List Ent} {A : Option Addr} {n c : Nat}
theorem cnR_of {l : List C.PV} {x : C.PV} {v : Value} (O : Held w0 w bs ⟨v, 52, 9, l.length + 1, cnC l ++ cnC [x]⟩ es) : ∃ A c, v = .slice A (l ++ [x]).length c ∧ Held w0 w bs (cnR A c (l ++ [x])) es := by
  obtain ⟨A, c, hv⟩ := O.row_val
  dsimp only at hv
  subst hv
  refine ⟨A, c, by simp, ?_⟩
  unfold cnR
  rw [cnC_app, List.length_append]
  exact O
theorem vR_of {l : List (Nat → Int)} {x : Nat → Int} {v : Value} (O : Held w0 w bs ⟨v, 39, 8, l.length + 1, vC l ++ vC [x]⟩ es) : ∃ A c, v = .slice A (l ++ [x]).length c ∧ Held w0 w bs (vR A c (l ++ [x])) es := by
  obtain ⟨A, c, hv⟩ := O.row_val
  dsimp only at hv
  subst hv
  refine ⟨A, c, by simp, ?_⟩
  unfold vR
  rw [vC_app, List.length_append]
  exact O
theorem bR_of {l : List Bool} {x : Bool} {v : Value} (O : Held w0 w bs ⟨v, 4, 1, l.length + 1, bC l ++ bC [x]⟩ es) : ∃ A c, v = .slice A (l ++ [x]).length c ∧ Held w0 w bs (bR A c (l ++ [x])) es := by
  obtain ⟨A, c, hv⟩ := O.row_val
  dsimp only at hv
  subst hv
  refine ⟨A, c, by simp, ?_⟩
  unfold bR
  rw [bC_app, List.length_append]
  exact O
end
/-- How corners are handed back. -/
def RetCn (w : World) (l : List C.PV) (e : Ending) (w' : World) : Prop := ∃ A c, e = .returned (.slice A l.length c) ∧ Lies w' free (cnE w.heap.size A c l) ∧ Below w.heap.size w w'
theorem retCn_nil {w w' : World} (hb : Below w.heap.size w w') : RetCn w [] (.returned (.slice none 0 0)) w' := ⟨none, 0, rfl, Lies.nil, hb⟩
theorem retCn_done {w w' : World} {bs : List (Nat × TypeId × List Value)} {es : List Ent} {A : Option Addr} {c : Nat} {l : List C.PV} (O : Held w w' bs (cnR A c l) es) : RetCn w l (.returned (.slice A l.length c)) w' := by
  obtain ⟨-, h⟩ := Held.doneV O
  exact ⟨A, c, rfl, h.arg List.mem_cons_self, O.below⟩
/-- How vertices and flags are handed back, in one list each. -/
def RetVF (w : World) (v : List (Nat → Int)) (f : List Bool) (e : Ending) (w' : World) : Prop := ∃ A c B d, e = .returned (.tuple #[.slice A v.length c, .slice B f.length d]) ∧ Lies w' free (vE w.heap.size A c v) ∧ Lies w' free (bE w.heap.size B d f) ∧ Below w.heap.size w w'
theorem retVF_nil {w w' : World} (hb : Below w.heap.size w w') : RetVF w [] [] (.returned (.tuple #[.slice none 0 0, .slice none 0 0])) w' := ⟨none, 0, none, 0, rfl, Lies.nil, Lies.nil, hb⟩
theorem retVF_done {w w' : World} {bs X : List (Nat × TypeId × List Value)} {es : List Ent} {A B : Option Addr} {c d : Nat} {v : List (Nat → Int)} {f : List Bool} (O : Held w w' (bs ++ X) (vR A c v) es) (hX : Rest X (bR B d f)) : RetVF w v f (.returned (.tuple #[.slice A v.length c, .slice B f.length d])) w' := by
  obtain ⟨-, h⟩ := Held.doneV O
  obtain ⟨-, h2⟩ := Held.doneV (h.wakeB hX)
  exact ⟨A, c, B, d, rfl, h2.arg (List.mem_cons_of_mem _ List.mem_cons_self), h2.arg List.mem_cons_self, O.below⟩
/-- With an error's number. -/
def RetVFE (w : World) (v : List (Nat → Int)) (f : List Bool) (g : Int) (e : Ending) (w' : World) : Prop := ∃ A c B d, e = .returned (.tuple #[.slice A v.length c, .slice B f.length d, .int .i64 g]) ∧ Lies w' free (vE w.heap.size A c v) ∧ Lies w' free (bE w.heap.size B d f) ∧ Below w.heap.size w w'
theorem retVFE_nil {w w' : World} {g : Int} (hb : Below w.heap.size w w') : RetVFE w [] [] g (.returned (.tuple #[.slice none 0 0, .slice none 0 0, .int .i64 g])) w' := ⟨none, 0, none, 0, rfl, Lies.nil, Lies.nil, hb⟩
end Go.Proofs.Ytbpignicffkaoaa
