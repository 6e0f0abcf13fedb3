/- A copy of elements of any size into a row of the call's own. -/
import Derived.Test.YtaegekmfndcflaaBase
import Derived.Laws.CopyOwn
import Derived.Deep.RegionLaw
import Derived.LoopTactic
namespace Go.Proofs.Ytaegekmfndcflaa
open Go.ChangeShapes Go.WideShapes Go.ChangeAt Go.RowKit
set_option linter.unusedVariables false

section
variable {P : Program}
theorem run_copy_k (w : World) (dT sT ty elem : TypeId) (sz g o dLen dCap : Nat) (a : Addr) (sLen sCap : Nat) (cur : List Value) (t : TypeId) (cs : List Value)
    (hu : P.underlying dT = some (.slice elem)) (hs : (P.info? elem).map (·.size) = some sz)
    (hg : w.heap[g]? = some (.cells cur.toArray t (0, 0))) (hn : cs.length = Nat.min sLen dLen * sz)
    (hsrc : ∀ j v, cs[j]? = some v → w.cell? (a.add j) = some v) (hfit : o + cs.length ≤ cur.length) (h1 : ∀ v ∈ cs, v.oneCell' = true) :
    (Builtin.copy_ #[dT, sT] ty #[.slice (some ⟨g, o, none⟩) dLen dCap, .slice (some a) sLen sCap]).run P w =
      .ok (goInt (Nat.min sLen dLen)) (w.setRow g (cur.take o ++ cs ++ cur.drop (o + cs.length)).toArray) := by
  have hl := run_loadCells_list (P := P) w a cs hsrc
  have hst := run_storeCells_at P g o t cs 0 cur.toArray w hg (by simpa using hfit) h1
  cases hq : P.info? elem with
  | none => simp [hq] at hs
  | some i =>
    have hi : i.size = sz := by simpa [hq] using hs
    simp [Builtin.copy_, run_underlying hu, Builtin.lenOf, Builtin.firstCells, sizeOf, typeInfo, hq, hi, ← hn, hl, hst]
/-- What a copy leaves. -/
theorem copy_leaves {w : World} {o : Oper} {a : Act} {K : Act → World → Prop} {Q : Exit → Act → World → Prop} (d s : Operand) (dT sT : TypeId)
    (ho : o.op = .call { callee := .builtin .copy, args := #[d, s], argTypes := #[dT, sT] }) (elem : TypeId) (sz : Nat) (hu : P.underlying dT = some (.slice elem)) (hsz : (P.info? elem).map (·.size) = some sz)
    (g off dLen dCap : Nat) (ad : Addr) (sLen sCap : Nat) (hd : a.eval d = .slice (some ⟨g, off, none⟩) dLen dCap) (hs : a.eval s = .slice (some ad) sLen sCap)
    (cur : List Value) (t : TypeId) (hg : w.heap[g]? = some (.cells cur.toArray t (0, 0))) (cs : List Value) (n : Nat) (hm : n = Nat.min sLen dLen) (hn : cs.length = n * sz)
    (hsrc : ∀ j v, cs[j]? = some v → w.cell? (ad.add j) = some v) (hfit : off + cs.length ≤ cur.length) (h1 : ∀ v ∈ cs, v.oneCell' = true) (B : Nat) (w0 : World) (hb : Below B w0 w) (hBg : B ≤ g)
    (h : ∀ w', Hid (w'.heap[g]? = some (.cells (splice cur off cs).toArray t (0, 0))) → Below B w0 w' → K (a.put o.dst (goInt n)) w') : o.wp P a w K Q := by
  subst hm
  have hrun := run_copy_k (P := P) w dT sT o.type elem sz g off dLen dCap ad sLen sCap cur t cs hu hsz hg hn hsrc hfit h1
  unfold Oper.wp
  simp [execOp, ho, resolve, invoke, builtin, hd, hs, hrun, Result.andThen]
  exact h _ (show _ = _ by simpa [splice] using setRow_heap w g _ _ t _ hg) (below_setRow hb hBg _)
theorem wpList_copy_k {w : World} {ops : Array Oper} {rest : List Oper} {o : Oper} {a : Act} {Q : Exit → Act → World → Prop} (hgd : o.guard = none) (d s : Operand) (dT sT : TypeId)
    (ho : o.op = .call { callee := .builtin .copy, args := #[d, s], argTypes := #[dT, sT] }) (elem : TypeId) (sz : Nat) (hu : P.underlying dT = some (.slice elem)) (hsz : (P.info? elem).map (·.size) = some sz)
    (g off dLen dCap : Nat) (ad : Addr) (sLen sCap : Nat) (hd : a.eval d = .slice (some ⟨g, off, none⟩) dLen dCap) (hs : a.eval s = .slice (some ad) sLen sCap)
    (cur : List Value) (t : TypeId) (hg : w.heap[g]? = some (.cells cur.toArray t (0, 0))) (cs : List Value) (n : Nat) (hm : n = Nat.min sLen dLen) (hn : cs.length = n * sz)
    (hsrc : ∀ j v, cs[j]? = some v → w.cell? (ad.add j) = some v) (hfit : off + cs.length ≤ cur.length) (h1 : ∀ v ∈ cs, v.oneCell' = true) (B : Nat) (w0 : World) (hb : Below B w0 w) (hBg : B ≤ g)
    (h : ∀ w', Hid (w'.heap[g]? = some (.cells (splice cur off cs).toArray t (0, 0))) → Below B w0 w' → wpList P ops Q rest (a.put o.dst (goInt n)) w') : wpList P ops Q (o :: rest) a w :=
  wpList_plain hgd fun K hK => copy_leaves d s dT sT ho elem sz hu hsz g off dLen dCap ad sLen sCap hd hs cur t hg cs n hm hn hsrc hfit h1 B w0 hb hBg (fun w' x y => hK _ _ (h w' x y))
theorem step_copy_k {w : World} {ops : Array Oper} {o : Oper} {a : Act} {K : Act → World → Prop} {Q : Exit → Act → World → Prop} {E : Prop} (hgd : o.guard = none) (d s : Operand) (dT sT : TypeId)
    (ho : o.op = .call { callee := .builtin .copy, args := #[d, s], argTypes := #[dT, sT] }) (elem : TypeId) (sz : Nat) (hu : P.underlying dT = some (.slice elem)) (hsz : (P.info? elem).map (·.size) = some sz)
    (g off dLen dCap : Nat) (ad : Addr) (sLen sCap : Nat) (hd : a.eval d = .slice (some ⟨g, off, none⟩) dLen dCap) (hs : a.eval s = .slice (some ad) sLen sCap)
    (cur : List Value) (t : TypeId) (hg : w.heap[g]? = some (.cells cur.toArray t (0, 0))) (cs : List Value) (n : Nat) (hm : n = Nat.min sLen dLen) (hn : cs.length = n * sz)
    (hsrc : ∀ j v, cs[j]? = some v → w.cell? (ad.add j) = some v) (hfit : off + cs.length ≤ cur.length) (h1 : ∀ v ∈ cs, v.oneCell' = true) (B : Nat) (w0 : World) (hb : Below B w0 w) (hBg : B ≤ g)
    (h : ∀ w', Hid (w'.heap[g]? = some (.cells (splice cur off cs).toArray t (0, 0))) → Below B w0 w' → K (a.put o.dst (goInt n)) w') :
    if Region.wanted o (yielded ops a.tmps) = true then Oper.wp P o a w K Q else E := by
  have hw : Region.wanted o (yielded ops a.tmps) = true := by simp [Region.wanted, hgd]
  rw [if_pos hw]
  exact copy_leaves d s dT sT ho elem sz hu hsz g off dLen dCap ad sLen sCap hd hs cur t hg cs n hm hn hsrc hfit h1 B w0 hb hBg h
end

/-- Pairs, one behind the other. -/
def pairs (l : List (Int × Int)) : List Value := l.flatMap fun p => [.int .i64 p.1, .int .i64 p.2]
theorem pairs_app (a b : List (Int × Int)) : pairs (a ++ b) = pairs a ++ pairs b := by simp [pairs]
theorem pairs_len : ∀ l : List (Int × Int), (pairs l).length = l.length * 2
  | [] => rfl
  | p :: l => by
    show (.int .i64 p.1 :: .int .i64 p.2 :: pairs l : List Value).length = _
    simp [pairs_len l]; omega
theorem pairs_one (l : List (Int × Int)) : ∀ v ∈ pairs l, v.oneCell' = true := by
  intro v hv
  simp only [pairs, List.mem_flatMap, List.mem_cons, List.not_mem_nil, or_false] at hv
  obtain ⟨p, _, rfl | rfl⟩ := hv <;> rfl
theorem pairs_at : ∀ {l : List (Int × Int)} {i : Nat} (h : i < l.length), (pairs l)[i * 2]? = some (.int .i64 l[i].1) ∧ (pairs l)[i * 2 + 1]? = some (.int .i64 l[i].2)
  | p :: l, 0, _ => ⟨rfl, rfl⟩
  | p :: l, i + 1, h => by
    have := pairs_at (l := l) (i := i) (by simpa using h)
    have e : pairs (p :: l) = .int .i64 p.1 :: .int .i64 p.2 :: pairs l := rfl
    rw [e, show (i + 1) * 2 = i * 2 + 1 + 1 by omega]
    simpa using this
theorem rep_add (x : Int × Int) (a b : Nat) : List.replicate (a + b) x = List.replicate a x ++ List.replicate b x := (List.replicate_append_replicate).symm
/-- A row of n pairs of which k are filled. -/
def fill (x : Int × Int) (n k : Nat) : List Value := pairs (List.replicate k x ++ List.replicate (n - k) (0, 0))
theorem fill_len (x : Int × Int) {n k : Nat} (h : k ≤ n) : (fill x n k).length = n * 2 := by
  rw [fill, pairs_len]; simp; omega
theorem splice_mid {α : Type} (A Z1 Z2 M : List α) (h : M.length = Z1.length) : splice (A ++ (Z1 ++ Z2)) A.length M = A ++ (M ++ Z2) := by
  unfold splice
  have e : (A ++ (Z1 ++ Z2)).drop (A.length + Z1.length) = Z2 := by
    rw [← List.append_assoc, ← List.length_append, List.drop_left]
  rw [List.take_left, h, e]
theorem fill_splice (x : Int × Int) {n k m : Nat} (h : k + m ≤ n) : splice (fill x n k) (k * 2) (pairs (List.replicate m x)) = fill x n (k + m) := by
  have l1 : k * 2 = (pairs (List.replicate k x)).length := by rw [pairs_len, List.length_replicate]
  have l3 : (pairs (List.replicate m x)).length = (pairs (List.replicate m ((0 : Int), (0 : Int)))).length := by rw [pairs_len, pairs_len, List.length_replicate, List.length_replicate]
  unfold fill
  rw [rep_add x k m, show n - k = m + (n - (k + m)) by omega, rep_add (0, 0) m, pairs_app, pairs_app, pairs_app, pairs_app, l1, splice_mid _ _ _ _ l3, List.append_assoc]
theorem fill_all (x : Int × Int) (n : Nat) : fill x n n = pairs (List.replicate n x) := by simp [fill]
end Go.Proofs.Ytaegekmfndcflaa
