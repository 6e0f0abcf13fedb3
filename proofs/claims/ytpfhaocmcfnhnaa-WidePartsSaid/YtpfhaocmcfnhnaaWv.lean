/- Plain: lines in parts. -/
import Derived.Test.YtpfhaocmcfnhnaaWx
namespace Go.Proofs.Ytpfhaocmcfnhnaa
open Go.ChangeShapes Go.WideShapes Go.ChangeAt Go.RowKit
set_option linter.unusedVariables false
set_option linter.unusedSimpArgs false

namespace WD
def wn0 (x y : Int) : Nat → Int := wn x y
theorem wn_fit {x y : Int} (hx : -100000 ≤ x ∧ x ≤ 100000) (hy : -100000 ≤ y ∧ y ≤ 100000) : VM.fit (wn x y) = true := by
  unfold VM.fit VM.okv VM.okc wn
  simp
  omega
theorem next_right {d : Nat → Int} (h : HM.right d = true) (n : Int) : HM.right (HM.nextF d n) = true := by
  obtain ⟨h0, h1, h2⟩ := HM.right_iff.1 h
  have hl := @HM.later_lim (d 1) (d 2) n h1.1 h1.2
  rw [HM.right_iff]
  unfold HM.nextF HM.t3
  simp
  omega
/-- Where the fragments are. -/
def pfr (t : Bool) (r : Nat → Int) (n : Nat) (ds : Bool) (d : Nat → Int) (l : List (Int × Int × Int)) : List (Int × Int) :=
  l.flatMap fun s => if lits ds d s.1 then (List.range n).flatMap fun i => if RC.has r (px t s i) (py t s i) then [(px t s i, py t s i)] else [] else []
theorem frs_pfr (a b : Nat → Int) (t : Bool) (r : Nat → Int) (n : Nat) (ds : Bool) (d : Nat → Int) (l : List (Int × Int × Int)) : (frs a b t r n ds d l).map (fun f => (f 0, f 1)) = pfr t r n ds d l := by
  unfold frs pfr
  rw [List.map_flatMap]
  congr 1
  funext s
  unfold stp
  split
  · unfold sp
    rw [List.map_flatMap]
    congr 1
    funext i
    unfold one
    split <;> rfl
  · rfl
theorem pfr_app (t : Bool) (r : Nat → Int) (n : Nat) (ds : Bool) (d : Nat → Int) (l m : List (Int × Int × Int)) : pfr t r n ds d (l ++ m) = pfr t r n ds d l ++ pfr t r n ds d m := List.flatMap_append
/-- Pixels that come so many later are lit as a dash so many later says. -/
theorem pfr_later {d : Nat → Int} (hd : HM.right d = true) (t : Bool) (r : Nat → Int) (n : Nat) (ds : Bool) (N : Int) (l : List (Int × Int × Int)) : pfr t r n ds d (l.map fun s => (s.1 + N, s.2.1, s.2.2)) = pfr t r n ds (if ds then HM.nextF d N else d) l := by
  unfold pfr
  rw [List.flatMap_map]
  congr 1
  funext s
  have e : lits ds d (s.1 + N) = lits ds (if ds then HM.nextF d N else d) s.1 := by
    cases ds
    · rfl
    · rw [if_pos rfl]
      unfold lits HM.litF HM.nextF HM.t3
      simp only [Bool.not_true, Bool.false_or]
      simp
      rw [HM.lit_later (by have := (HM.right_iff.1 hd).2.1; omega), Int.add_comm]
  dsimp only
  rw [e]
  rfl
theorem al_same {n : Nat} {t : Bool} {a b : Nat → Int} (h0 : a 0 = b 0) (h1 : a 1 = b 1) : al n t a b = [] := by
  unfold al DM.steps core
  rw [h0, h1, DM.pixs_same]
  rfl
theorem steps_app {ax ay bx by_ cx cy : Int} (h : DM.pixs ax ay bx by_ = DM.pixs ax ay cx cy ++ DM.pixs cx cy bx by_) : DM.steps ax ay bx by_ = DM.steps ax ay cx cy ++ (DM.steps cx cy bx by_).map fun s => (s.1 + DM.cnt14 ax ay cx cy, s.2.1, s.2.2) := by
  unfold DM.steps DM.cnt14
  rw [h, List.zipIdx_append, List.map_append, List.map_map]
  congr 1
  rw [Nat.zero_add]
  generalize (DM.pixs ax ay cx cy).length = N
  generalize DM.pixs cx cy bx by_ = l
  have e : l.zipIdx N = l.zipIdx.map fun z => (z.1, z.2 + N) := by
    refine List.ext_getElem? fun k => ?_
    rw [List.getElem?_map, List.getElem?_zipIdx, List.getElem?_zipIdx]
    cases l[k]? with
    | none => rfl
    | some z => simp [Nat.add_comm]
  rw [e, List.map_map]
  rfl
/-- The core's pixels of a line are those of its parts. -/
theorem al_parts {n : Nat} {t : Bool} {a b c : Nat → Int} {m k u v : Int} (hm : 0 ≤ m) (hk : 0 ≤ k) (c0 : c 0 = a 0 + m * u) (c1 : c 1 = a 1 + m * v) (b0 : b 0 = c 0 + k * u) (b1 : b 1 = c 1 + k * v) :
    al n t a b = al n t a c ++ (al n t c b).map fun s => (s.1 + cnt n t a c, s.2.1, s.2.2) := by
  unfold al cnt
  refine steps_app ?_
  have h := DM.pixs_parts (ax := core n t a 0) (ay := core n t a 1) (w := u) (h := v) hm hk
  have e0 : core n t c 0 = core n t a 0 + m * u := by
    simp only [core, DM.t2, if_true]
    omega
  have e1 : core n t c 1 = core n t a 1 + m * v := by
    simp only [core, DM.t2, Nat.one_ne_zero, if_false]
    omega
  have e2 : core n t b 0 = core n t a 0 + (m * u + k * u) := by
    simp only [core, DM.t2, if_true]
    omega
  have e3 : core n t b 1 = core n t a 1 + (m * v + k * v) := by
    simp only [core, DM.t2, Nat.one_ne_zero, if_false]
    omega
  rw [e0, e1, e2, e3]
  exact h
theorem tl_parts {a b c : Nat → Int} {m k u v : Int} (hm : 0 ≤ m) (hk : 0 ≤ k) (c0 : c 0 = a 0 + m * u) (c1 : c 1 = a 1 + m * v) (b0 : b 0 = c 0 + k * u) (b1 : b 1 = c 1 + k * v) : (0 < m → tl a c = DM.tall u v) ∧ (0 < k → tl c b = DM.tall u v) ∧ (0 < m + k → tl a b = DM.tall u v) := by
  refine ⟨fun h => ?_, fun h => ?_, fun h => ?_⟩
  · unfold tl
    rw [show c 0 - a 0 = m * u by omega, show c 1 - a 1 = m * v by omega, DM.tall_scale h]
  · unfold tl
    rw [show b 0 - c 0 = k * u by omega, show b 1 - c 1 = k * v by omega, DM.tall_scale h]
  · unfold tl
    rw [show b 0 - a 0 = (m + k) * u by rw [Int.add_mul]; omega, show b 1 - a 1 = (m + k) * v by rw [Int.add_mul]; omega, DM.tall_scale h]
theorem parts_any {a b c : Nat → Int} {m k u v : Int} (hm : 0 ≤ m) (hk : 0 ≤ k) (c0 : c 0 = a 0 + m * u) (c1 : c 1 = a 1 + m * v) (b0 : b 0 = c 0 + k * u) (b1 : b 1 = c 1 + k * v) (ha : VM.fit a = true) (hb : VM.fit b = true) (hc : VM.fit c = true) {n : Int} (hn : 1 ≤ n ∧ n ≤ 64) {d : Nat → Int} (hd : HM.right d = true) (ds : Bool) (r : Nat → Int) :
    (lin a b n ds d r).map (fun f => (f 0, f 1)) = (lin a c n ds d r).map (fun f => (f 0, f 1)) ++ (lin c b n ds (nxt a c n ds d) r).map (fun f => (f 0, f 1)) ∧ HM.right (nxt a c n ds d) = true ∧ ∀ i, i < 3 → nxt a b n ds d i = nxt c b n ds (nxt a c n ds d) i := by
  have r1 : ∀ e, HM.right e = true → right a b n e = true := fun e he => right_iff.2 ⟨⟨ha, hb⟩, hn, he⟩
  have r2 : ∀ e, HM.right e = true → right a c n e = true := fun e he => right_iff.2 ⟨⟨ha, hc⟩, hn, he⟩
  have r3 : ∀ e, HM.right e = true → right c b n e = true := fun e he => right_iff.2 ⟨⟨hc, hb⟩, hn, he⟩
  have hN : nxt a c n ds d = if ds then HM.nextF d (cnt n.toNat (tl a c) a c) else d := by
    unfold nxt
    rw [r2 d hd, Bool.true_and]
  have hE : HM.right (nxt a c n ds d) = true := by
    rw [hN]
    split
    · exact next_right hd _
    · exact hd
  -- one way for all
  have hall : ∀ T, (al n.toNat (tl a b) a b = al n.toNat T a b) → (al n.toNat (tl a c) a c = al n.toNat T a c ∧ (tl a c = T ∨ al n.toNat T a c = [])) → (al n.toNat (tl c b) c b = al n.toNat T c b ∧ (tl c b = T ∨ al n.toNat T c b = [])) → (tl a b = T ∨ al n.toNat T a b = []) →
      (pfr (tl a b) r n.toNat ds d (al n.toNat (tl a b) a b) = pfr T r n.toNat ds d (al n.toNat T a b)) ∧ (pfr (tl a c) r n.toNat ds d (al n.toNat (tl a c) a c) = pfr T r n.toNat ds d (al n.toNat T a c)) ∧ ∀ e, pfr (tl c b) r n.toNat ds e (al n.toNat (tl c b) c b) = pfr T r n.toNat ds e (al n.toNat T c b) := by
    intro T h1 ⟨h2, h3⟩ ⟨h4, h5⟩ h6
    refine ⟨?_, ?_, fun e => ?_⟩
    · rw [h1]
      rcases h6 with h | h
      · rw [h]
      · rw [h]; rfl
    · rw [h2]
      rcases h3 with h | h
      · rw [h]
      · rw [h]; rfl
    · rw [h4]
      rcases h5 with h | h
      · rw [h]
      · rw [h]; rfl
  obtain ⟨t1, t2, t3⟩ := tl_parts hm hk c0 c1 b0 b1
  have hs1 : m = 0 → ∀ t, al n.toNat t a c = [] := fun h t => al_same (by rw [c0, h, Int.zero_mul, Int.add_zero]) (by rw [c1, h, Int.zero_mul, Int.add_zero])
  have hs2 : k = 0 → ∀ t, al n.toNat t c b = [] := fun h t => al_same (by rw [b0, h, Int.zero_mul, Int.add_zero]) (by rw [b1, h, Int.zero_mul, Int.add_zero])
  have hs3 : m + k = 0 → ∀ t, al n.toNat t a b = [] := fun h t => al_same (by rw [b0, c0, show k = 0 by omega, show m = 0 by omega, Int.zero_mul, Int.add_zero, Int.add_zero]) (by rw [b1, c1, show k = 0 by omega, show m = 0 by omega, Int.zero_mul, Int.add_zero, Int.add_zero])
  have g1 : al n.toNat (tl a c) a c = al n.toNat (DM.tall u v) a c ∧ (tl a c = DM.tall u v ∨ al n.toNat (DM.tall u v) a c = []) := by
    rcases (by omega : m = 0 ∨ 0 < m) with h | h
    · rw [hs1 h, hs1 h]
      exact ⟨rfl, .inr rfl⟩
    · rw [t1 h]
      exact ⟨rfl, .inl rfl⟩
  have g2 : al n.toNat (tl c b) c b = al n.toNat (DM.tall u v) c b ∧ (tl c b = DM.tall u v ∨ al n.toNat (DM.tall u v) c b = []) := by
    rcases (by omega : k = 0 ∨ 0 < k) with h | h
    · rw [hs2 h, hs2 h]
      exact ⟨rfl, .inr rfl⟩
    · rw [t2 h]
      exact ⟨rfl, .inl rfl⟩
  have g3 : al n.toNat (tl a b) a b = al n.toNat (DM.tall u v) a b ∧ (tl a b = DM.tall u v ∨ al n.toNat (DM.tall u v) a b = []) := by
    rcases (by omega : m + k = 0 ∨ 0 < m + k) with h | h
    · rw [hs3 h, hs3 h]
      exact ⟨rfl, .inr rfl⟩
    · rw [t3 h]
      exact ⟨rfl, .inl rfl⟩
  obtain ⟨p1, p2, p3⟩ := hall _ g3.1 g1 g2 g3.2
  have hcn : cnt n.toNat (tl a c) a c = cnt n.toNat (DM.tall u v) a c := by
    have e : ∀ t, cnt n.toNat t a c = (al n.toNat t a c).length := fun t => by
      unfold cnt DM.cnt14 al
      rw [DM.steps_len]
    rw [e, e, g1.1]
  have hcb : cnt n.toNat (tl c b) c b = cnt n.toNat (DM.tall u v) c b := by
    have e : ∀ t, cnt n.toNat t c b = (al n.toNat t c b).length := fun t => by
      unfold cnt DM.cnt14 al
      rw [DM.steps_len]
    rw [e, e, g2.1]
  have hab : cnt n.toNat (tl a b) a b = cnt n.toNat (DM.tall u v) a b := by
    have e : ∀ t, cnt n.toNat t a b = (al n.toNat t a b).length := fun t => by
      unfold cnt DM.cnt14 al
      rw [DM.steps_len]
    rw [e, e, g3.1]
  have hp := al_parts (n := n.toNat) (t := DM.tall u v) hm hk c0 c1 b0 b1
  refine ⟨?_, hE, fun i hi => ?_⟩
  · unfold lin
    rw [if_pos (r1 d hd), if_pos (r2 d hd), if_pos (r3 _ hE), frs_pfr, frs_pfr, frs_pfr, p1, p2, p3, hp, pfr_app, pfr_later hd, hN, hcn]
  · have hl : cnt n.toNat (DM.tall u v) a b = cnt n.toNat (DM.tall u v) a c + cnt n.toNat (DM.tall u v) c b := by
      have e : ∀ p q, cnt n.toNat (DM.tall u v) p q = (al n.toNat (DM.tall u v) p q).length := fun p q => by
        unfold cnt DM.cnt14 al
        rw [DM.steps_len]
      rw [e, e, e, hp, List.length_append, List.length_map]
      omega
    have hM : ∀ e, HM.right e = true → nxt c b n ds e = if ds then HM.nextF e (cnt n.toNat (tl c b) c b) else e := fun e he => by
      unfold nxt
      rw [r3 e he, Bool.true_and]
    have hA : nxt a b n ds d = if ds then HM.nextF d (cnt n.toNat (tl a b) a b) else d := by
      unfold nxt
      rw [r1 d hd, Bool.true_and]
    rw [hM _ hE, hA, hN, hab, hcb, hcn, hl]
    cases ds
    · rfl
    · simp only [if_true]
      unfold HM.nextF HM.t3
      rcases (by omega : i = 0 ∨ i = 1 ∨ i = 2) with rfl | rfl | rfl
      · rfl
      · rfl
      · simp
        rw [HM.later_later]
end WD
end Go.Proofs.Ytpfhaocmcfnhnaa
