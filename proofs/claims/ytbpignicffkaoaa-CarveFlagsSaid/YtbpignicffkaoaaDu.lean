/- Two rows that grow in turns; three results. -/
import Derived.Test.YtbpignicffkaoaaL2
namespace Go.Proofs.Ytbpignicffkaoaa
open Go.ChangeShapes Go.WideShapes Go.ChangeAt Go.RowKit
set_option linter.unusedVariables false
set_option linter.unusedSimpArgs false

theorem Own.permute {w0 w : World} {l l' : List (Nat × TypeId × List Value)} (h : Own w0 w l) (hp : l.Perm l') : Own w0 w l' :=
  ⟨h.1, (hp.map _).nodup_iff.1 h.2.1, fun x hx => h.2.2 x (hp.mem_iff.2 hx)⟩
theorem Held.perm {w0 w : World} {l l' : List (Nat × TypeId × List Value)} {R : RowD} {es : List Ent} (h : Held w0 w l R es) (hp : l.Perm l') : Held w0 w l' R es :=
  ⟨h.1.permute hp, h.2.1, fun x hx => h.2.2.1 x (hp.mem_iff.2 hx), fun x hx => (h.2.2.2 x hx).turn (Nat.le_refl _) (fun _ _ _ => rfl) (fun b _ hn hm => hn (hm.imp id (fun hm => (hp.map _).mem_iff.2 hm)))⟩
/-- A row that rests: as a block of the call's own, or there is none yet. -/
def Rest (X : List (Nat × TypeId × List Value)) (R : RowD) : Prop :=
  (X = [] ∧ R.v = .slice none 0 0 ∧ R.n = 0 ∧ R.xs = []) ∨
  ∃ g c cs, X = [(g, R.e, cs)] ∧ R.v = .slice (some ⟨g, 0, none⟩) R.n c ∧ R.n ≤ c ∧ c ≤ maxLen ∧ cs.length = c * R.s ∧ cs.take (R.n * R.s) = R.xs ∧ R.xs.length = R.n * R.s
theorem Rest.nil (e : TypeId) (s : Nat) : Rest [] ⟨.slice none 0 0, e, s, 0, []⟩ := .inl ⟨rfl, rfl, rfl, rfl⟩
theorem Rest.val {X : List (Nat × TypeId × List Value)} {R : RowD} (h : Rest X R) : ∃ A c, R.v = .slice A R.n c := by
  rcases h with ⟨_, hv, hn, _⟩ | ⟨g, c, cs, _, hv, _⟩
  · exact ⟨none, 0, by rw [hv, hn]⟩
  · exact ⟨_, _, hv⟩
section
variable {w0 w : World} {bs X : List (Nat × TypeId × List Value)} {R R2 : RowD} {es : List Ent}
theorem Held.rest (h : Held w0 w bs R es) : ∃ X, Rest X R ∧ Held w0 w (X ++ bs) nilRow es := by
  obtain ⟨h1, h2, h3, h4⟩ := h
  rcases h2.2 with ⟨hv, hn⟩ | ⟨g, cap, cur, hv, hb, hg, hnc, hm, hcs, ht⟩
  · refine ⟨[], .inl ⟨rfl, hv, hn, ?_⟩, h1, World.ownsRow_nil _ _ _ _, by simp [nilRow, Value.ownBlock], fun x hx => (h4 x hx).turn (Nat.le_refl _) (fun _ _ _ => rfl) (fun b _ hn hm => ?_)⟩
    · have := h2.1
      rw [hn, Nat.zero_mul] at this
      exact List.length_eq_zero_iff.1 this
    · rcases hm with hm | hm
      · simp [nilRow, Value.ownBlock] at hm
      · exact hn (.inr hm)
  · have hob : R.v.ownBlock = some g := by rw [hv]; rfl
    refine ⟨[(g, R.e, cur.toList)], .inr ⟨g, cap, cur.toList, rfl, hv, hnc, hm, by simpa using hcs, ht, h2.1⟩, ⟨h1.1, ?_, fun x hx => ?_⟩, World.ownsRow_nil _ _ _ _, by simp [nilRow, Value.ownBlock], fun x hx => (h4 x hx).turn (Nat.le_refl _) (fun _ _ _ => rfl) (fun b _ hn hm => ?_)⟩
    · simp only [List.cons_append, List.nil_append, List.map_cons, List.nodup_cons]
      refine ⟨fun hm => ?_, h1.2.1⟩
      obtain ⟨x, hx, he⟩ := List.mem_map.1 hm
      exact h3 x hx (by rw [hob, he])
    · rcases List.mem_cons.1 hx with rfl | hx
      · exact ⟨hb, hg⟩
      · exact h1.2.2 x hx
    · simp only [RowD.no, nilRow, Value.ownBlock, List.cons_append, List.nil_append, List.map_cons, List.mem_cons] at hm
      rcases hm with hm | rfl | hm
      · cases hm
      · exact hn (.inl hob)
      · exact hn (.inr hm)
theorem Held.wake (h : Held w0 w (X ++ bs) nilRow es) (hr : Rest X R) : Held w0 w bs R es := by
  rcases hr with ⟨rfl, hv, hn, hx⟩ | ⟨g, c, cs, rfl, hv, hnc, hm, hl, ht, hlen⟩
  · obtain ⟨v, e, s, n, xs⟩ := R
    dsimp only at hv hn hx
    subst hv hn hx
    exact h.fresh e s
  · have hob : R.v.ownBlock = some g := by rw [hv]; rfl
    have ho := h.1
    refine ⟨Own.tail ho, ⟨hlen, .inr ⟨g, c, cs.toArray, hv, ho.ge 0 rfl, ho.blk 0 rfl, hnc, hm, by simpa using hl, by simpa using ht⟩⟩, fun x hx e => ?_, fun x hx => (h.2.2.2 x hx).turn (Nat.le_refl _) (fun _ _ _ => rfl) (fun b _ hn hm => ?_)⟩
    · rw [hob] at e
      have hnd := ho.2.1
      simp only [List.cons_append, List.nil_append, List.map_cons, List.nodup_cons] at hnd
      exact hnd.1 (List.mem_map.2 ⟨x, hx, (Option.some.inj e).symm⟩)
    · refine hn (.inr ?_)
      rcases hm with hm | hm
      · rw [hob] at hm
        obtain rfl := Option.some.inj hm
        exact List.mem_cons_self
      · exact List.mem_cons_of_mem _ hm
/-- The row that grows, and the one that rests, change places. -/
theorem Held.swap (h : Held w0 w (X ++ bs) R es) (hr : Rest X R2) : ∃ Y, Rest Y R ∧ Held w0 w (Y ++ bs) R2 es := by
  obtain ⟨Y, hy, h2⟩ := h.rest
  refine ⟨Y, hy, Held.wake (X := X) (h2.perm ?_) hr⟩
  rw [← List.append_assoc, ← List.append_assoc]
  exact List.Perm.append_right _ List.perm_append_comm
theorem Held.restB (h : Held w0 w bs R es) : ∃ X, Rest X R ∧ Held w0 w (bs ++ X) nilRow es := by
  obtain ⟨X, hx, h2⟩ := h.rest
  exact ⟨X, hx, h2.perm List.perm_append_comm⟩
theorem Held.wakeB (h : Held w0 w (bs ++ X) nilRow es) (hr : Rest X R) : Held w0 w bs R es := Held.wake (X := X) (h.perm List.perm_append_comm) hr
theorem Held.swapB (h : Held w0 w (bs ++ X) R es) (hr : Rest X R2) : ∃ Y, Rest Y R ∧ Held w0 w (bs ++ Y) R2 es := by
  obtain ⟨Y, hy, h2⟩ := Held.swap (X := X) (h.perm List.perm_append_comm) hr
  exact ⟨Y, hy, h2.perm List.perm_append_comm⟩
theorem Held.drop : ∀ {l : List (Nat × TypeId × List Value)}, Held w0 w (l ++ bs) R es → Held w0 w bs R es
  | [], h => h
  | _ :: l, h => Held.drop (l := l) (Held.tail h)
end
section
variable {P : Program} {w0 w : World} {bs : List (Nat × TypeId × List Value)} {R : RowD} {es : List Ent}
/-- Three results, the first two in blocks of their own. -/
theorem res_h3 {fn : Func} {p q u : Tmp} {t t2 : TypeId} (h : fn.results = #[.cell p t, .cell q t2, .tmp u]) {tmps : Array Value} (O : Held w0 w bs R es) (k k2 : Nat) {g g2 : Nat} {t' t2' : TypeId} {cs cs2 : List Value} (hk : bs[k]? = some (g, t', cs)) (hk2 : bs[k2]? = some (g2, t2', cs2))
    (hp : tmps.getD p undef = .pointer (some ⟨g, 0, none⟩)) (hq : tmps.getD q undef = .pointer (some ⟨g2, 0, none⟩)) {d d2 : TypeDesc} (hu : P.underlying t = some d) (hd : (match d with | .struct _ | .array _ _ => true | _ => false) = true) (hi : (P.info? t).map (·.size) = some cs.length)
    (hu2 : P.underlying t2 = some d2) (hd2 : (match d2 with | .struct _ | .array _ _ => true | _ => false) = true) (hi2 : (P.info? t2).map (·.size) = some cs2.length) {v : Value} (hv : tmps.getD u undef = v) :
    (results fn tmps).run P w = .ok (.tuple #[.agg cs.toArray, .agg cs2.toArray, v]) w := by
  have e1 := run_loadVar_row (P := P) w g t' t cs.toArray (0, 0) _ (O.blk k hk) hu hd (by simpa using hi)
  have e2 := run_loadVar_row (P := P) w g2 t2' t2 cs2.toArray (0, 0) _ (O.blk k2 hk2) hu2 hd2 (by simpa using hi2)
  have hp' : tmps[p]?.getD undef = .pointer (some ⟨g, 0, none⟩) := by simpa using hp
  have hq' : tmps[q]?.getD undef = .pointer (some ⟨g2, 0, none⟩) := by simpa using hq
  have hv' : tmps[u]?.getD undef = v := by simpa using hv
  simp only [results, h]
  simp [Sem.run_bind, Result.andThen, hp', hq', hv', asAddr, e1, e2]
end
end Go.Proofs.Ytbpignicffkaoaa
