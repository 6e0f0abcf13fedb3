/- New blocks, laid and written in any order in a region that draws it. -/
import Derived.Test.YtndaijcgjhmiaaaL2
namespace Go.Proofs.Ytndaijcgjhmiaaa
open Go.ChangeShapes Go.WideShapes Go.ChangeAt Go.RowKit
set_option linter.unusedVariables false
set_option linter.unusedSimpArgs false

theorem Own.perm {w0 w : World} {l l' : List (Nat × TypeId × List Value)} (h : Own w0 w l) (hp : l.Perm l') : Own w0 w l' :=
  ⟨h.1, (hp.map _).nodup_iff.1 h.2.1, fun x hx => h.2.2 x (hp.mem_iff.2 hx)⟩
theorem Own.drop {w0 w : World} : ∀ {l bs : List (Nat × TypeId × List Value)}, Own w0 w (l ++ bs) → Own w0 w bs
  | [], _, h => h
  | _ :: l, bs, h => Own.drop (l := l) (Own.tail h)
def isP (a : Option Value) : Prop := ∀ v, a = some v → ∃ g, v = .pointer (some ⟨g, 0, none⟩)
theorem isP_none : isP none := fun v h => by cases h
theorem isP_some (g : Nat) : isP (some (.pointer (some ⟨g, 0, none⟩))) := fun v h => ⟨g, (Option.some.inj h).symm⟩
/-- A new block that a region lays (operation a) and writes (operation p). -/
structure NbS where
  a : Nat
  p : Nat
  t : TypeId
  z : List Value
  q : List Value
def NbS.now (st : Nat → Option Value) (s : NbS) : List (Nat × TypeId × List Value) :=
  match st s.a with
  | some (.pointer (some ad)) => [(ad.block, s.t, if (st s.p).isSome then s.q else s.z)]
  | _ => []
def nows (st : Nat → Option Value) (ss : List NbS) : List (Nat × TypeId × List Value) := ss.flatMap (NbS.now st)
/-- New blocks, laid and written in any order. -/
def NB (w0 : World) (bs : List (Nat × TypeId × List Value)) (ss : List NbS) (st : Nat → Option Value) (w : World) : Prop :=
  (∀ s ∈ ss, st s.a = none → st s.p = none) ∧ (∀ s ∈ ss, isP (st s.a)) ∧ Own w0 w (nows st ss ++ bs)
def apart (ss : List NbS) : Prop := (ss.flatMap fun s => [s.a, s.p]).Nodup
theorem NbS.now_upd {st : Nat → Option Value} {i : Nat} {v : Value} {s : NbS} (h1 : s.a ≠ i) (h2 : s.p ≠ i) : NbS.now (upd st i v) s = NbS.now st s := by
  unfold NbS.now
  rw [upd_other st v h1, upd_other st v h2]
theorem nows_upd {st : Nat → Option Value} {i : Nat} {v : Value} : ∀ {ss : List NbS}, (∀ s ∈ ss, s.a ≠ i ∧ s.p ≠ i) → nows (upd st i v) ss = nows st ss
  | [], _ => rfl
  | s :: ss, h => by
    have h0 := h s List.mem_cons_self
    have ih := nows_upd (st := st) (i := i) (v := v) (ss := ss) fun x hx => h x (List.mem_cons_of_mem _ hx)
    unfold nows at ih ⊢
    rw [List.flatMap_cons, List.flatMap_cons, NbS.now_upd h0.1 h0.2, ih]
theorem nows_app (st : Nat → Option Value) (l r : List NbS) : nows st (l ++ r) = nows st l ++ nows st r := by simp [nows]
theorem nows_cons (st : Nat → Option Value) (s : NbS) (r : List NbS) : nows st (s :: r) = NbS.now st s ++ nows st r := by simp [nows]
/-- One block in the middle: the others are apart from it. -/
theorem apart_mid {l r : List NbS} {s : NbS} (h : apart (l ++ s :: r)) : s.a ≠ s.p ∧ (∀ x ∈ l, (x.a ≠ s.a ∧ x.p ≠ s.a) ∧ x.a ≠ s.p ∧ x.p ≠ s.p) ∧ ∀ x ∈ r, (x.a ≠ s.a ∧ x.p ≠ s.a) ∧ x.a ≠ s.p ∧ x.p ≠ s.p := by
  unfold apart at h
  rw [List.flatMap_append, List.flatMap_cons, List.nodup_append] at h
  obtain ⟨_, h2, h3⟩ := h
  rw [List.nodup_append] at h2
  obtain ⟨h4, _, h5⟩ := h2
  refine ⟨by simpa using h4, fun x hx => ?_, fun x hx => ?_⟩
  · have a1 : x.a ∈ l.flatMap fun s => [s.a, s.p] := List.mem_flatMap.2 ⟨x, hx, by simp⟩
    have a2 : x.p ∈ l.flatMap fun s => [s.a, s.p] := List.mem_flatMap.2 ⟨x, hx, by simp⟩
    exact ⟨⟨h3 _ a1 _ (by simp), h3 _ a2 _ (by simp)⟩, h3 _ a1 _ (by simp), h3 _ a2 _ (by simp)⟩
  · have a1 : x.a ∈ r.flatMap fun s => [s.a, s.p] := List.mem_flatMap.2 ⟨x, hx, by simp⟩
    have a2 : x.p ∈ r.flatMap fun s => [s.a, s.p] := List.mem_flatMap.2 ⟨x, hx, by simp⟩
    exact ⟨⟨(h5 s.a (by simp) _ a1).symm, (h5 s.a (by simp) _ a2).symm⟩, (h5 s.p (by simp) _ a1).symm, (h5 s.p (by simp) _ a2).symm⟩
theorem cut_at {α : Type} {l : List α} {k : Nat} {x : α} (h : l[k]? = some x) : l = l.take k ++ x :: l.drop (k + 1) := by
  obtain ⟨hk, rfl⟩ := List.getElem?_eq_some_iff.1 h
  rw [List.getElem_cons_drop, List.take_append_drop]
section
variable {w0 w : World} {bs : List (Nat × TypeId × List Value)} {ss : List NbS} {st : Nat → Option Value}
theorem NB.start (O : Own w0 w bs) : NB w0 bs ss (fun _ => none) w := by
  refine ⟨fun _ _ _ => rfl, fun _ _ => isP_none, ?_⟩
  have : nows (fun _ => none) ss = [] := by
    unfold nows
    rw [List.flatMap_eq_nil_iff]
    exact fun _ _ => rfl
  rw [this]
  exact O
theorem NB.own (h : NB w0 bs ss st w) : Own w0 w bs := Own.drop h.2.2
theorem NB.ptr (h : NB w0 bs ss st w) (k : Nat) {s : NbS} (hk : ss[k]? = some s) (ha : (st s.a).isSome = true) : ∃ g, st s.a = some (.pointer (some ⟨g, 0, none⟩)) := by
  obtain ⟨v, hv⟩ := Option.isSome_iff_exists.1 ha
  obtain ⟨g, rfl⟩ := h.2.1 s (List.mem_of_getElem? hk) v hv
  exact ⟨g, hv⟩
theorem NbS.now_is {s : NbS} {g : Nat} (ha : st s.a = some (.pointer (some ⟨g, 0, none⟩))) (b : Bool) (hp : (st s.p).isSome = b) : NbS.now st s = [(g, s.t, if b then s.q else s.z)] := by
  unfold NbS.now
  rw [ha, hp]
theorem NbS.now_same {s : NbS} {g : Nat} (ha : st s.a = some (.pointer (some ⟨g, 0, none⟩))) (h : s.q = s.z) : NbS.now st s = [(g, s.t, s.z)] := by
  unfold NbS.now
  rw [ha, h]
  simp only [ite_self]
theorem NbS.now_none {s : NbS} (ha : st s.a = none) : NbS.now st s = [] := by
  unfold NbS.now
  rw [ha]
variable {P : Program} {dst : Option Tmp} {ty : TypeId} {pos : String} {after : Array Edge} {K : Act → World → Prop} {p q : Operand} {ac : Act} {Q : Exit → Act → World → Prop} {gd : Option (Nat × Bool)}
theorem NB.alloc (h : NB w0 bs ss st w) (hd : apart ss) (k : Nat) {s : NbS} (hk : ss[k]? = some s) (hn : st s.a = none) (hz : (P.info? s.t).map (·.zero) = some (some (.agg s.z.toArray)))
    (hK : ∀ v w1, NB w0 bs ss (upd st s.a v) w1 → K (ac.put dst v) w1) : Oper.wp P ⟨dst, .alloc s.t, ty, pos, after, none⟩ ac w K Q := by
  obtain ⟨h1, h2, O⟩ := h
  refine wp_alloc_own O s.z hz fun g w1 O1 => hK _ _ ⟨fun x hx => ?_, fun x hx => ?_, ?_⟩
  · have e := cut_at hk
    rw [e] at hd hx
    obtain ⟨d0, d1, d2⟩ := apart_mid hd
    by_cases ex : x.a = s.a
    · rw [ex, upd_same]; intro hc; cases hc
    · rw [upd_other st _ ex]
      intro hx0
      have hxs : x ∈ ss := by rw [e]; exact hx
      have hp : x.p ≠ s.a := by
        rcases List.mem_append.1 hx with hm | hm
        · exact (d1 x hm).1.2
        · rcases List.mem_cons.1 hm with rfl | hm
          · exact absurd rfl ex
          · exact (d2 x hm).1.2
      rw [upd_other st _ hp]
      exact h1 x hxs hx0
  · by_cases ex : x.a = s.a
    · rw [ex, upd_same]; exact isP_some g
    · rw [upd_other st _ ex]; exact h2 x hx
  · have e := cut_at hk
    have hsp := h1 s (List.mem_of_getElem? hk) hn
    rw [e] at hd O1 ⊢
    obtain ⟨d0, d1, d2⟩ := apart_mid hd
    rw [nows_app, nows_cons] at O1 ⊢
    rw [nows_upd fun x hx => (d1 x hx).1, nows_upd fun x hx => (d2 x hx).1, NbS.now_is (upd_same st s.a _) false (by rw [upd_other st _ (Ne.symm d0), hsp]; rfl)]
    rw [NbS.now_none hn] at O1
    refine O1.perm ?_
    simp only [List.nil_append, List.append_assoc]
    exact List.perm_middle.symm
theorem NB.put (h : NB w0 bs ss st w) (hd : apart ss) (k : Nat) {s : NbS} (hk : ss[k]? = some s) (ha : (st s.a).isSome = true) (hn : st s.p = none) (hx : ac.eval p = (st s.a).getD undef) (hy : ac.eval q = .agg s.q.toArray)
    (hi : (P.info? s.t).map (·.size) = some s.q.length) (hl : s.z.length = s.q.length) (h1 : ∀ v ∈ s.q, v.oneCell' = true)
    (hK : ∀ v w1, NB w0 bs ss (upd st s.p v) w1 → K (ac.put dst v) w1) : Oper.wp P ⟨dst, .store s.t p q, ty, pos, after, gd⟩ ac w K Q := by
  obtain ⟨g, hg⟩ := h.ptr k hk ha
  rw [hg] at hx
  obtain ⟨h3, h2, O⟩ := h
  have e := cut_at hk
  have hd' := hd
  rw [e] at hd'
  obtain ⟨d0, d1, d2⟩ := apart_mid hd'
  have O2 : Own w0 w ((g, s.t, s.z) :: (nows st (ss.take k) ++ (nows st (ss.drop (k + 1)) ++ bs))) := by
    refine Own.perm (l := nows st ss ++ bs) O ?_
    conv => lhs; rw [e, nows_app, nows_cons, NbS.now_is hg false (by rw [hn]; rfl)]
    simp only [List.append_assoc, List.cons_append, List.nil_append]
    exact List.perm_middle
  refine wp_put_own O2 0 s.q rfl hx hy hi hl h1 fun w1 O1 => hK _ _ ⟨fun x hx => ?_, fun x hx => ?_, ?_⟩
  · have hxs := hx
    rw [e] at hx
    by_cases ex : x.a = s.a
    · rw [ex, upd_other st _ d0, hg]; intro hc; cases hc
    · have hm2 : x.a ≠ s.p ∧ x.p ≠ s.p := by
        rcases List.mem_append.1 hx with hm | hm
        · exact (d1 x hm).2
        · rcases List.mem_cons.1 hm with rfl | hm
          · exact absurd rfl ex
          · exact (d2 x hm).2
      rw [upd_other st _ hm2.1, upd_other st _ hm2.2]
      exact h3 x hxs
  · have hm2 : x.a ≠ s.p := by
      rw [e] at hx
      rcases List.mem_append.1 hx with hm | hm
      · exact (d1 x hm).2.1
      · rcases List.mem_cons.1 hm with rfl | hm
        · exact d0
        · exact (d2 x hm).2.1
    rw [upd_other st _ hm2]
    exact h2 x (by rw [e] at hx ⊢; exact hx)
  · refine Own.perm O1 ?_
    conv => rhs; rw [e, nows_app, nows_cons, nows_upd fun x hx => (d1 x hx).2, nows_upd fun x hx => (d2 x hx).2, NbS.now_is (by rw [upd_other st _ d0]; exact hg) true (by rw [upd_same]; rfl)]
    simp only [List.append_assoc, List.cons_append, List.nil_append]
    exact List.perm_middle.symm
end
end Go.Proofs.Ytndaijcgjhmiaaa
