/- Contract of the law's play. -/
import Derived.Test.YtlggclehakcdaaaPlayW
import Derived.Test.YtlggclehakcdaaaAwake
import Derived.Test.YtlggclehakcdaaaLast
import Derived.LoopTactic
import Derived.Deep.DeepCutAuto
import Derived.Deep.RegionHeld3
import Derived.Deep.RegionLaw
namespace Go.Proofs.Ytlggclehakcdaaa
open Go.ChangeShapes Go.WideShapes Go.ChangeAt Go.RowKit
set_option linter.unusedVariables false
set_option linter.unusedSimpArgs false

/-- How play ends: what it noted stands behind what was noted before. -/
def Plays (B bo : Nat) (v : Value) (xs : List Int) (w : World) (R : List Int × Option Int) (e : Ending) (w' : World) : Prop :=
  e = Ends R.2 ∧ ∃ v', w'.cell? ⟨bo, 0, none⟩ = some v' ∧ w'.frozen? ⟨bo, 0, none⟩ = false ∧ w'.ownsRow B 3 1 v' (xs ++ R.1).length (ints (xs ++ R.1)) ∧ Two bo v w w' ∧ Owns v v' w
theorem add_off (a : Addr) (k : Nat) : a.add (k + 1) = ⟨(a.add k).block, (a.add k).off + 1, none⟩ := by
  by_cases h : k = 0
  · subst h; simp [Addr.add]
  · simp [Addr.add, h, Nat.add_assoc]
theorem add_off2 (a : Addr) (k : Nat) : a.add (k + 2) = ⟨(a.add k).block, (a.add k).off + 2, none⟩ := by
  by_cases h : k = 0
  · subst h; simp [Addr.add]
  · simp [Addr.add, h, Nat.add_assoc]
/-- What a note leaves: the variable holds the row, one number longer. -/
theorem noted {B bo n : Nat} {v u v' : Value} {W1 Wd w1 : World} {ys : List Int} (hbo : bo < B) (hT : Two bo v W1 Wd) (hO : Owns v u W1)
    (hg : Wd.grownBy w1 u.ownBlock) (hown : w1.ownsRow B 3 1 v' n (ints ys)) (hn : n = ys.length) (hat : v'.ownBlock = u.ownBlock ∨ v'.ownBlock = some Wd.heap.size)
    (hc : w1.cell? ⟨bo, 0, none⟩ = some u) (hz : w1.frozen? ⟨bo, 0, none⟩ = false) :
    (w1.setCell ⟨bo, 0, none⟩ v').ownsRow B 3 1 v' ys.length (ints ys) ∧ Two bo v W1 (w1.setCell ⟨bo, 0, none⟩ v') ∧ Owns v v' W1 ∧ Hid ((w1.setCell ⟨bo, 0, none⟩ v').cell? ⟨bo, 0, none⟩ = some v' ∧ (w1.setCell ⟨bo, 0, none⟩ v').frozen? ⟨bo, 0, none⟩ = false) := by
  subst hn
  refine ⟨ownsRow_setCell_below hown hbo _, (hT.grown hO hg).set (.inl rfl) _, ?_, Lib.hid ⟨World.cell?_setCell_same _ _ _ hc, (World.frozen?_setCell _ _ _ _).trans hz⟩⟩
  refine hO.trans (b := Wd) hT.size ?_
  rcases hat with h | h
  · exact .inl h
  · refine .inr (fun k hk => ?_)
    rw [h] at hk
    cases hk
    exact Nat.le_refl _
theorem own_lt {w : World} {B n : Nat} {e : TypeId} {u : Value} {xs : List Value} (h : w.ownsRow B e 1 u n xs) : ∀ k, u.ownBlock = some k → B ≤ k ∧ k < w.heap.size := by
  intro k hk
  rcases h.2 with ⟨rfl, _⟩ | ⟨g, cp, cur, rfl, hg, hgg, _⟩
  · simp [Value.ownBlock] at hk
  · simp [Value.ownBlock] at hk
    subst hk
    exact ⟨hg, (Array.getElem?_eq_some_iff.1 hgg).1⟩
theorem far_cell {w w1 : World} {u : Value} {k off : Nat} {x : Value} (hg : w.grownBy w1 u.ownBlock) (hc : w.cell? ⟨k, off, none⟩ = some x) (hk : k < w.heap.size) (hne : ∀ j, u.ownBlock = some j → j ≠ k) : w1.cell? ⟨k, off, none⟩ = some x :=
  (World.cell?_of_block (a := ⟨k, off, none⟩) (hg.block k hk (fun e => hne k e.symm rfl))).trans hc
theorem far_frozen {w w1 : World} {u : Value} {k off : Nat} {x : Bool} (hg : w.grownBy w1 u.ownBlock) (hc : w.frozen? ⟨k, off, none⟩ = x) (hk : k < w.heap.size) (hne : ∀ j, u.ownBlock = some j → j ≠ k) : w1.frozen? ⟨k, off, none⟩ = x :=
  (World.frozen?_of_block (a := ⟨k, off, none⟩) (hg.block k hk (fun e => hne k e.symm rfl))).trans hc
theorem vint {a b : Int} (h : a = b) : Value.int .i64 a = .int .i64 b := by rw [h]
/-- The closure that tries what stands within. -/
theorem c21 (A : Option Addr) (c cap : Nat) (p7 p3 : Addr) (bo : Nat) (o : Option Int) (w : World) (R : World → Prop) (h7 : w.cell? p7 = some (.slice A c cap)) (h3 : w.cell? p3 = some (.pointer (some ⟨bo, 0, none⟩)))
    (h : Calls Try.prog 9 #[.slice A c cap, .pointer (some ⟨bo, 0, none⟩)] w fun e w' => e = Ends o ∧ R w') :
    Calls Try.prog 21 #[.pointer (some p7), .pointer (some p3)] w fun e w' => e = Ends o ∧ R w' := by
  rcases o with _ | n
  · go_enter Try.func21, Try.ntmps21
    go_wp2_with fail
    refine h.mono ?_
    rintro e w1 ⟨he, hR⟩
    have he : e = .returned (.tuple #[]) := he
    subst he
    go_wp2_with fail
    first | go_end0 | refine bodyPost_ret (results_none rfl _ _ _) rfl ?_
    exact ⟨rfl, hR⟩
  · go_enter Try.func21, Try.ntmps21
    go_wp2_with fail
    refine h.mono ?_
    rintro e w1 ⟨he, hR⟩
    have he : e = .panicked [{ v := .iface 40 (.int .i64 n), recovered := false }] := he
    subst he
    go_wp2_with fail
    exact ⟨rfl, rfl, hR⟩
theorem own_set {w : World} {B n : Nat} {e : TypeId} {u x : Value} {xs : List Value} {p : Addr} (h : w.ownsRow B e 1 u n xs) (hne : ∀ k, u.ownBlock = some k → k ≠ p.block) : (w.setCell p x).ownsRow B e 1 u n xs :=
  h.kept (row := some p.block) ⟨rfl, rfl, rfl, by simp [World.setCell], fun k hk hr => Below.heap_setCell w p x k (fun e => hr (by rw [e]))⟩ (by
    rcases hu : u.ownBlock with _ | k
    · exact .inl rfl
    · exact .inr (fun e => hne k hu (Option.some.inj e)))
/-- What the loads of a note read. -/
abbrev Held (w : World) (p q r : Nat) (x y z : Value) : Prop := w.cell? ⟨p, 0, none⟩ = some x ∧ w.cell? ⟨q, 0, none⟩ = some y ∧ w.cell? ⟨r, 1, none⟩ = some z ∧ w.frozen? ⟨q, 0, none⟩ = false
theorem Held.alloc {w : World} {p q r : Nat} {x y z : Value} (h : Held w p q r x y z) (o : Obj) (hp : p < w.heap.size) (hq : q < w.heap.size) (hr : r < w.heap.size) : Held (w.alloc o) p q r x y z :=
  ⟨(World.cell?_alloc_lt w o ⟨p, 0, none⟩ hp).trans h.1, (World.cell?_alloc_lt w o ⟨q, 0, none⟩ hq).trans h.2.1, (World.cell?_alloc_lt w o ⟨r, 1, none⟩ hr).trans h.2.2.1, (World.frozen?_of_block (a := ⟨q, 0, none⟩) (Below.heap_alloc w o q hq)).trans h.2.2.2⟩
theorem Held.grown {w w1 : World} {u : Value} {p q r : Nat} {x y z : Value} (h : Held w p q r x y z) (hg : w.grownBy w1 u.ownBlock) (hp : p < w.heap.size) (hq : q < w.heap.size) (hr : r < w.heap.size) (hne : ∀ j, u.ownBlock = some j → j ≠ p ∧ j ≠ q ∧ j ≠ r) : Held w1 p q r x y z :=
  ⟨far_cell hg h.1 hp (fun j hj => (hne j hj).1), far_cell hg h.2.1 hq (fun j hj => (hne j hj).2.1), far_cell hg h.2.2.1 hr (fun j hj => (hne j hj).2.2), far_frozen hg h.2.2.2 hq (fun j hj => (hne j hj).2.1)⟩
theorem held_new {w : World} {p q : Nat} {x y h a b : Value} (t : TypeId) (hx : w.cell? ⟨p, 0, none⟩ = some x) (hy : w.cell? ⟨q, 0, none⟩ = some y) (hz : w.frozen? ⟨q, 0, none⟩ = false) (hp : p < w.heap.size) (hq : q < w.heap.size) :
    Held (w.alloc (.cells #[a, h, b] t)) p q w.heap.size x y h :=
  ⟨(World.cell?_alloc_lt w _ ⟨p, 0, none⟩ hp).trans hx, (World.cell?_alloc_lt w _ ⟨q, 0, none⟩ hq).trans hy, by simp, (World.frozen?_of_block (a := ⟨q, 0, none⟩) (Below.heap_alloc w _ q hq)).trans hz⟩
/-- What play does, of lists shorter than f. -/
def PlayOk (f : Nat) : Prop := ∀ (l : List (Int × Int × Int)) (A : Option Addr) (cap B bo : Nat) (v : Value) (xs : List Int) (w : World), l.length < f → l.length ≤ 1000 → xs.length + l.length ≤ 1000 → l.length ≤ cap → cap ≤ 9223372036854775807 →
    ActsAt w bo A l → bo < B → B ≤ w.heap.size → w.cell? ⟨bo, 0, none⟩ = some v → w.frozen? ⟨bo, 0, none⟩ = false → w.ownsRow B 3 1 v xs.length (ints xs) →
    Calls Try.prog 9 #[.slice A l.length cap, .pointer (some ⟨bo, 0, none⟩)] w (Plays B bo v xs w (P.play l))
/-- What stands within, tried. -/
theorem within (f : Nat) (ih : PlayOk f) (sub : List (Int × Int × Int)) (R : List Int × Option Int) (A' : Option Addr) (c cp B bo p7 p3 : Nat) (u : Value) (zs : List Int) (W : World) (hR : P.play sub = R) (hs : sub.length = c) (hf : c < f) (hc : c ≤ 1000) (hz : zs.length + c ≤ 1000) (hcp : c ≤ cp) (hm : cp ≤ 9223372036854775807)
    (hA : ActsAt W bo A' sub) (hbo : bo < B) (hB : B ≤ W.heap.size) (hu : W.cell? ⟨bo, 0, none⟩ = some u) (hzz : W.frozen? ⟨bo, 0, none⟩ = false) (own : W.ownsRow B 3 1 u zs.length (ints zs)) (h7 : W.cell? ⟨p7, 0, none⟩ = some (.slice A' c cp)) (h3 : W.cell? ⟨p3, 0, none⟩ = some (.pointer (some ⟨bo, 0, none⟩)))
    (s7 : p7 < W.heap.size) (s3 : p3 < W.heap.size) (n3 : p3 ≠ bo) (hp3 : ∀ k, u.ownBlock = some k → k ≠ p3) :
    Calls Try.prog 7 #[.func (.func 21) #[] #[.pointer (some ⟨p7, 0, none⟩), .pointer (some ⟨p3, 0, none⟩)]] W fun e w' => e = .returned (.int .i64 (errno R.2)) ∧ ∃ u', w'.cell? ⟨bo, 0, none⟩ = some u' ∧ w'.frozen? ⟨bo, 0, none⟩ = false ∧ w'.ownsRow B 3 1 u' (zs ++ R.1).length (ints (zs ++ R.1)) ∧ Two bo u W w' ∧ Owns u u' W ∧ w'.cell? ⟨p3, 0, none⟩ = some (.pointer (some ⟨bo, 0, none⟩)) := by
  subst hs hR
  have old : ∀ k off, k < W.heap.size → (W.alloc (.cells #[.int .i64 0] 25)).cell? ⟨k, off, none⟩ = W.cell? ⟨k, off, none⟩ := fun k off hk => World.cell?_alloc_lt W _ ⟨k, off, none⟩ hk
  have oldf : (W.alloc (.cells #[.int .i64 0] 25)).frozen? ⟨bo, 0, none⟩ = false := (World.frozen?_of_block (a := ⟨bo, 0, none⟩) (Below.heap_alloc W _ bo (by omega))).trans hzz
  have own2 := own.alloc (.cells #[.int .i64 0] 25)
  have lt := own_lt own
  refine (try_any 21 _ (P.play sub).2 W (fun w2 => ∃ u', w2.cell? ⟨bo, 0, none⟩ = some u' ∧ w2.frozen? ⟨bo, 0, none⟩ = false ∧ w2.ownsRow B 3 1 u' (zs ++ (P.play sub).1).length (ints (zs ++ (P.play sub).1)) ∧ Two bo u (W.alloc (.cells #[.int .i64 0] 25)) w2 ∧ Owns u u' (W.alloc (.cells #[.int .i64 0] 25))) (fun _ => by kernel_rfl)
    (c21 A' sub.length cp ⟨p7, 0, none⟩ ⟨p3, 0, none⟩ bo (P.play sub).2 _ _ ((old p7 0 s7).trans h7) ((old p3 0 s3).trans h3) ((ih sub A' cp B bo u zs (W.alloc (.cells #[.int .i64 0] 25)) hf hc hz hcp hm (hA.below (((Below.refl _ W).alloc (Nat.le_refl _) _).mono (by omega))) hbo (by simp; omega) ((old bo 0 (by omega)).trans hu) oldf own2).mono ?_))).mono ?_
  · rintro e w2 ⟨he, u', h1, h2, h3', h4, h5⟩
    refine ⟨he, ?_, ?_, u', h1, h2, h3', h4, h5⟩
    · exact (h4.cell (p := ⟨W.heap.size, 0, none⟩) (by simp) (by dsimp only; omega) (fun e => by have := (lt _ e.symm).2; dsimp only at this; omega)).trans (by simp)
    · exact (h4.frozen (p := ⟨W.heap.size, 0, none⟩) (by simp) (by dsimp only; omega) (fun e => by have := (lt _ e.symm).2; dsimp only at this; omega)).trans (by simp)
  · rintro e w3 ⟨he, w2, ⟨u', h1, h2, h3', h4, h5⟩, rfl⟩
    have hne : ∀ k, u'.ownBlock = some k → k ≠ W.heap.size := by
      intro k hk
      rcases h5 with h | h
      · have := (lt k (h.symm.trans hk)).2; omega
      · have := h k hk; simp at this; omega
    refine ⟨he, u', (World.cell?_setCell_other _ _ _ _ (by simp <;> omega)).trans h1, (World.frozen?_setCell _ _ _ _).trans h2, own_set h3' hne, ?_, (Owns.refl u W).trans (by simp) h5, ?_⟩
    · exact (((Two.refl bo u W).new _).trans (Owns.refl _ _) h4).set (.inr (Nat.le_refl _)) _
    · exact (World.cell?_setCell_other _ _ _ _ (by simp <;> omega)).trans ((h4.cell (p := ⟨p3, 0, none⟩) (by simp <;> omega) n3 (fun e => hp3 p3 e.symm rfl)).trans ((old p3 0 s3).trans h3))
set_option maxRecDepth 100000 in
set_option maxHeartbeats 4000000 in
theorem play_ok : ∀ f, PlayOk f := by
  intro f
  induction f with
  | zero => intro l A cap B bo v xs w h; exact absurd h (by omega)
  | succ f ih =>
    intro l A cap B bo v xs w hf hl hx hc hm hA hbo hB hv hz hown
    obtain ⟨i0, hi0, hz0, hz1, hz2⟩ := info_parts int_info
    have hmf : ∀ (fn : Fn) (first cap : Array Value) (w : World), (Instr.makeFunc fn first cap).run Try.prog w = .ok (.func fn first cap) w := fun _ _ _ _ => rfl
    have IH := Lib.hid ih
    clear ih
    have C3 : (w.alloc (.cells #[.pointer (some ⟨bo, 0, none⟩)] 28)).cell? ⟨w.heap.size, 0, none⟩ = some (.pointer (some ⟨bo, 0, none⟩)) := by simp
    have HC := Lib.hid C3
    have T1 : Two bo v w (w.alloc (.cells #[.pointer (some ⟨bo, 0, none⟩)] 28)) := (Two.refl bo v w).new _
    have S1 : w.heap.size < (w.alloc (.cells #[.pointer (some ⟨bo, 0, none⟩)] 28)).heap.size := by simp
    have own1 := hown.alloc (.cells #[.pointer (some ⟨bo, 0, none⟩)] 28)
    have hvk : ∀ k, v.ownBlock = some k → B ≤ k ∧ k < w.heap.size := by
      intro k hk
      rcases hown.2 with ⟨rfl, _⟩ | ⟨g, cp, cur, rfl, hg, hgg, _⟩
      · simp [Value.ownBlock] at hk
      · simp [Value.ownBlock] at hk
        subst hk
        exact ⟨hg, (Array.getElem?_eq_some_iff.1 hgg).1⟩
    have v1 : (w.alloc (.cells #[.pointer (some ⟨bo, 0, none⟩)] 28)).cell? ⟨bo, 0, none⟩ = some v := (World.cell?_alloc_lt w _ ⟨bo, 0, none⟩ (by dsimp only; omega)).trans hv
    have z1 : (w.alloc (.cells #[.pointer (some ⟨bo, 0, none⟩)] 28)).frozen? ⟨bo, 0, none⟩ = false := (World.frozen?_of_block (a := ⟨bo, 0, none⟩) (Below.heap_alloc w _ bo (by omega))).trans hz
    have A1 : ActsAt (w.alloc (.cells #[.pointer (some ⟨bo, 0, none⟩)] 28)) bo A l := hA.below (((Below.refl _ w).alloc (Nat.le_refl _) _).mono (by omega))
    have HV := Lib.hid (And.intro v1 z1)
    clear C3 hown v1 z1 hv hz hA
    go_enter Try.func9, Try.ntmps9
    go_wp2_with fail
    generalize w.alloc (.cells #[.pointer (some ⟨bo, 0, none⟩)] 28) = W1 at *
    go_loopw [4] (fun t wr => ∃ (i : Nat) (ys : List Int) (u : Value), t = .int .i64 i ∧ i ≤ l.length ∧ ys.length ≤ i ∧ Hid (P.Goes l i ys) ∧ wr.ownsRow B 3 1 u (xs ++ ys).length (ints (xs ++ ys)) ∧ Two bo v W1 wr ∧ Owns v u W1 ∧ Hid (wr.cell? ⟨bo, 0, none⟩ = some u ∧ wr.frozen? ⟨bo, 0, none⟩ = false)) (fun t _ => l.length - (intOf t).toNat)
    case atStart => exact ⟨0, [], v, rfl, by omega, by simp, Lib.hid (P.goes_0 l), by simpa using own1, Two.refl _ _ _, Owns.refl _ _, HV⟩
    case round =>
      obtain ⟨i, ys, u, rfl, hi, hyi, hG, hu, hT, hO, hC⟩ := hrel
      have sz := hT.size
      have bz : W1.heap.size ≠ bo := by omega
      have h3 : wr.cell? ⟨w.heap.size, 0, none⟩ = some (.pointer (some ⟨bo, 0, none⟩)) := (hT.cell (by dsimp only; omega) (by dsimp only; omega) (fun e => by have := (hvk _ e.symm).2; dsimp only at this; omega)).trans HC.out
      have hAr : ActsAt wr bo A l := A1.below (hT.below (by omega) (Nat.le_refl _) (fun k hk => by have := (hvk k hk).1; omega))
      by_cases hlt : i < l.length
      · obtain ⟨ad, hAd, hlt', c0, c1, c2⟩ := hAr i hlt
        obtain ⟨kk, n, m, hk⟩ : ∃ kk n m, l[i] = (kk, n, m) := ⟨_, _, _, rfl⟩
        rw [hk] at c0 c1 c2
        have q : (i : Int) < (l.length : Int) := by omega
        have q0 : (0 : Int) ≤ (i : Int) := by omega
        have q1 : (l.length : Int) ≤ 1000 := by omega
        have HK := Lib.hid hk
        clear hk
        subst hAd
        dsimp only at c0 c1 c2
        rw [add_off] at c1
        rw [add_off2] at c2
        by_cases k0 : kk = 0
        · subst k0
          have G := Lib.hid (P.goes_kind0 hG.out hlt HK.out rfl)
          clear hG HK IH
          have hne : ∀ j, u.ownBlock = some j → j ≠ w.heap.size ∧ j ≠ bo ∧ j < wr.heap.size := by
            intro j hj
            have a1 := own_lt hu j hj
            refine ⟨?_, by omega, a1.2⟩
            rcases hO with h | h
            · have := (hvk j (h.symm.trans hj)).2; omega
            · have := h j hj; omega
          have hbw : bo < wr.heap.size := by omega
          have F0 := held_new (a := .int .i64 0) (h := .int .i64 n) (b := .int .i64 m) 42 h3 hC.out.1 hC.out.2 (by omega) hbw
          have F1 : Held ((wr.alloc (.cells #[.int .i64 0, .int .i64 n, .int .i64 m] 42)).alloc (.cells #[.int .i64 n] 3)).drew w.heap.size bo wr.heap.size (.pointer (some ⟨bo, 0, none⟩)) u (.int .i64 n) := F0.alloc _ (by simp; omega) (by simp; omega) (by simp)
          have FK : ∀ w1, (((wr.alloc (.cells #[.int .i64 0, .int .i64 n, .int .i64 m] 42)).alloc (.cells #[.int .i64 n] 3)).drew).grownBy w1 u.ownBlock → Held w1 w.heap.size bo wr.heap.size (.pointer (some ⟨bo, 0, none⟩)) u (.int .i64 n) := fun w1 hg =>
            F1.grown hg (by simp; omega) (by simp; omega) (by simp; omega) (fun j hj => by have := hne j hj; omega)
          have HF0 := Lib.hid F0
          have HF1 := Lib.hid F1
          have HFK := Lib.hid FK
          clear F0 F1 FK
          have one : ∀ z ∈ [Value.int .i64 n], z.oneCell' = true := by intro z hz; simp at hz; subst hz; rfl
          have hlen : (xs ++ ys).length ≤ 1000 := by
            have := P.goes_len (l := l) (i := i + 1) (ys := ys ++ [n]) G.out
            simp at this ⊢; omega
          have h63 : (xs ++ ys).length + 1 ≤ maxLen := by simp only [maxLen]; omega
          have hby : ((xs ++ ys).length + 1) * 8 ≤ 140737488355328 := by omega
          have hbs : B ≤ (((wr.alloc (.cells #[.int .i64 0, .int .i64 n, .int .i64 m] 42)).alloc (.cells #[.int .i64 n] 3)).drew).heap.size := by simp; omega
          have own2 : (((wr.alloc (.cells #[.int .i64 0, .int .i64 n, .int .i64 m] 42)).alloc (.cells #[.int .i64 n] 3)).drew).ownsRow B 3 1 u (xs ++ ys).length (ints (xs ++ ys)) := (hu.alloc _).alloc _
          have src : Reads (((wr.alloc (.cells #[.int .i64 0, .int .i64 n, .int .i64 m] 42)).alloc (.cells #[.int .i64 n] 3)).drew) (wr.heap.size + 1 + 1) 1 (some ⟨wr.heap.size + 1, 0, none⟩) 1 [.int .i64 n] := ⟨rfl, fun _ => ⟨_, rfl, by simp, fun j x hx => by
            match j, hx with
            | 0, hx => simp at hx; subst hx; simp [Addr.add]⟩⟩
          go_wp2_with fail
          clear c0 c1 c2 h3
          refine region_L (fun w' => Held w' w.heap.size bo wr.heap.size (.pointer (some ⟨bo, 0, none⟩)) u (.int .i64 n)) 9 (by kernel_rfl) ?_
          refine takeL (i := 0) (v := .pointer (some ⟨bo, 0, none⟩)) rfl (by kernel_rfl) (by kernel_rfl) (by kernel_rfl) (by kernel_rfl) (fun _ _ _ h => h) (by rfl) (fun w' hS => ?_) HF0.out ?_
          · obtain ⟨s0, s1, s2, s3⟩ := hS
            go_simp
          try simp only [Act.put, List.setIfInBounds_toArray, List.set_cons_zero, List.set_cons_succ]
          refine takeL (i := 1) (v := .pointer (some ⟨bo, 0, none⟩)) rfl (by kernel_rfl) (by kernel_rfl) (by kernel_rfl) (by kernel_rfl) (fun _ _ _ h => h) (by rfl) (fun w' hS => ?_) HF0.out ?_
          · obtain ⟨s0, s1, s2, s3⟩ := hS
            go_simp
          try simp only [Act.put, List.setIfInBounds_toArray, List.set_cons_zero, List.set_cons_succ]
          refine takeL (i := 2) (v := .pointer (some ⟨bo, 0, none⟩)) rfl (by kernel_rfl) (by kernel_rfl) (by kernel_rfl) (by kernel_rfl) (fun _ _ _ h => h) (by rfl) (fun w' hS => ?_) HF0.out ?_
          · obtain ⟨s0, s1, s2, s3⟩ := hS
            go_simp
          try simp only [Act.put, List.setIfInBounds_toArray, List.set_cons_zero, List.set_cons_succ]
          refine takeL (i := 3) (v := u) rfl (by kernel_rfl) (by kernel_rfl) (by kernel_rfl) (by kernel_rfl) (fun _ _ _ h => h) (by rfl) (fun w' hS => ?_) HF0.out ?_
          · obtain ⟨s0, s1, s2, s3⟩ := hS
            go_simp
          try simp only [Act.put, List.setIfInBounds_toArray, List.set_cons_zero, List.set_cons_succ]
          refine takeL (i := 4) (v := .pointer (some ⟨wr.heap.size, 1, none⟩)) rfl (by kernel_rfl) (by kernel_rfl) (by kernel_rfl) (by kernel_rfl) (fun _ _ _ h => h) (by rfl) (fun w' hS => ?_) HF0.out ?_
          · obtain ⟨s0, s1, s2, s3⟩ := hS
            go_simp
          try simp only [Act.put, List.setIfInBounds_toArray, List.set_cons_zero, List.set_cons_succ]
          refine takeL (i := 5) (v := .int .i64 n) rfl (by kernel_rfl) (by kernel_rfl) (by kernel_rfl) (by kernel_rfl) (fun _ _ _ h => h) (by rfl) (fun w' hS => ?_) HF0.out ?_
          · obtain ⟨s0, s1, s2, s3⟩ := hS
            go_simp
          try simp only [Act.put, List.setIfInBounds_toArray, List.set_cons_zero, List.set_cons_succ]
          refine nextL (i := 6) (by kernel_rfl) rfl (fun K hK => ?_)
          go_simp
          refine hK _ _ (fun _ => HF1.out) ?_
          clear hK K
          try simp only [Act.put, List.setIfInBounds_toArray, List.set_cons_zero, List.set_cons_succ]
          refine nextL (i := 7) (by kernel_rfl) rfl (fun K hK => ?_)
          refine step_append_any _ (by rfl) _ _ _ (by rfl) B 3 i0 (.int .i64 0) 1 8 Try.underlying24 hi0 hz0 hz1 hz2 rfl (by omega) u (xs ++ ys).length (ints (xs ++ ys)) (by rfl) own2 (wr.heap.size + 1 + 1) (some ⟨wr.heap.size + 1, 0, none⟩) 1 1 [.int .i64 n] (by rfl) src one h63 hby hbs ?_
          intro v1 w1 hown1 hg1 hat1
          have FK1 := HFK.out w1 hg1
          obtain ⟨g1, cp1, rfl, _, _⟩ := hown1.form (by omega)
          refine hK _ _ (fun _ => FK1) ?_
          clear hK K
          try simp only [Act.put, List.setIfInBounds_toArray, List.set_cons_zero, List.set_cons_succ]
          refine takeL (i := 8) (v := .pointer (some ⟨bo, 0, none⟩)) rfl (by kernel_rfl) (by kernel_rfl) (by kernel_rfl) (by kernel_rfl) (fun _ _ _ h => h) (by rfl) (fun w' hS => ?_) FK1 ?_
          · obtain ⟨s0, s1, s2, s3⟩ := hS
            go_simp
          try simp only [Act.put, List.setIfInBounds_toArray, List.set_cons_zero, List.set_cons_succ]
          obtain ⟨s0, s1, s2, s3⟩ := FK1
          refine nextL (i := 9) (by kernel_rfl) rfl (fun K hK => ?_)
          go_simp
          refine hK _ _ (fun h => absurd rfl h) ?_
          clear hK K
          refine doneL (by kernel_rfl) ?_
          go_wp2_with fail
          simp only [List.length_append] at hown1 hat1
          have N := noted (ys := xs ++ (ys ++ [n])) hbo ((hT.new (.cells #[.int .i64 0, .int .i64 n, .int .i64 m] 42)).new (.cells #[.int .i64 n] 3)).draw hO hg1 (by simpa [ints] using hown1) (by simp; omega) hat1 s1 s3
          exact ⟨⟨i + 1, ys ++ [n], _, rfl, by omega, by simp; omega, G, N.1, N.2.1, N.2.2.1, N.2.2.2⟩, by simp [intOf]; omega⟩
        by_cases k1 : kk = 1
        · subst k1
          have E := Lib.hid (P.goes_kind1 hG.out hlt HK.out rfl)
          have e1 : (wr.alloc (.cells #[.int .i64 1, .int .i64 n, .int .i64 m] 42)).cell? ⟨bo, 0, none⟩ = some u := (World.cell?_alloc_lt wr _ ⟨bo, 0, none⟩ (by dsimp only; omega)).trans hC.out.1
          have e2 : (wr.alloc (.cells #[.int .i64 1, .int .i64 n, .int .i64 m] 42)).frozen? ⟨bo, 0, none⟩ = false := (World.frozen?_of_block (a := ⟨bo, 0, none⟩) (Below.heap_alloc wr _ bo (by omega))).trans hC.out.2
          have HE := Lib.hid (And.intro e1 e2)
          clear hG HK IH e1 e2
          go_wp2_with fail
          refine (fail_any n _).mono ?_
          rintro e w1 ⟨rfl, rfl⟩
          go_wp2_with fail
          refine ⟨rfl, ?_⟩
          rw [E.out]
          exact ⟨rfl, u, HE.out.1, HE.out.2, hu.alloc _, T1.trans (Owns.refl _ _) (hT.new _), (Owns.refl v w).trans (Nat.le_of_lt S1) hO⟩
        by_cases k2 : kk = 2
        · subst k2
          obtain ⟨c, hcut⟩ : ∃ c, P.cut m (l.length - (i + 1)) = c := ⟨_, rfl⟩
          have hc0 : c = min m.toNat (l.length - (i + 1)) := hcut.symm
          have G := Lib.hid (P.goes_kind2 hG.out hlt HK.out rfl c hcut)
          have hcl : c ≤ l.length - (i + 1) := by omega
          have HC0 := Lib.hid hc0
          have hsl : ((l.drop (i + 1)).take c).length = c := by rw [List.length_take, List.length_drop]; omega
          have hpl := P.play_len _ ((l.drop (i + 1)).take c) (Nat.le_refl _)
          rw [hsl] at hpl
          obtain ⟨A', hS, hA'⟩ := cut_acts (some ad) l.length cap i c l rfl (by omega) hc hm
          have hA2 := hA' wr bo hAr
          clear hc0 hcut hG HK hA' hAr
          go_upto_region 11 with fail
          go_cut [6] (fun t6 wx => t6 = .int .i64 (c : Nat) ∧ wx = wr.alloc (.cells #[.int .i64 2, .int .i64 n, .int .i64 m] 42))
          case first =>
            go_wp2_with fail
            all_goals go_meet
            all_goals exact ⟨vint (by have := HC0.out; omega), rfl⟩
          case rest =>
            obtain ⟨rfl, rfl⟩ := hcut
            generalize (l.drop (i + 1)).take c = sub at *
            obtain ⟨R, hR⟩ : ∃ R, P.play sub = R := ⟨_, rfl⟩
            rw [hR] at hpl
            have bw : bo < wr.heap.size := by omega
            have lt := own_lt hu
            have n3 : ∀ k, u.ownBlock = some k → k ≠ w.heap.size := by
              intro k hk
              rcases hO with h | h
              · have := (hvk k (h.symm.trans hk)).2; omega
              · have := h k hk; omega
            have old : ∀ k off, k < wr.heap.size → ((wr.alloc (.cells #[.int .i64 2, .int .i64 n, .int .i64 m] 42)).alloc (.cells #[.slice A' c (cap - (i + 1))] 22)).cell? ⟨k, off, none⟩ = wr.cell? ⟨k, off, none⟩ := fun k off hk => (World.cell?_alloc_lt _ _ ⟨k, off, none⟩ (by simp; omega)).trans (World.cell?_alloc_lt wr _ ⟨k, off, none⟩ hk)
            have oldf : ((wr.alloc (.cells #[.int .i64 2, .int .i64 n, .int .i64 m] 42)).alloc (.cells #[.slice A' c (cap - (i + 1))] 22)).frozen? ⟨bo, 0, none⟩ = false := (World.frozen?_of_block (a := ⟨bo, 0, none⟩) ((Below.heap_alloc _ _ bo (by simp; omega)).trans (Below.heap_alloc wr _ bo bw))).trans hC.out.2
            have T := within f IH.out sub R A' c (cap - (i + 1)) B bo (wr.heap.size + 1) w.heap.size u (xs ++ ys) ((wr.alloc (.cells #[.int .i64 2, .int .i64 n, .int .i64 m] 42)).alloc (.cells #[.slice A' c (cap - (i + 1))] 22)) hR hsl (by omega) (by omega) (by simp; omega) (by omega) (by omega)
              (hA2.below ((((Below.refl _ wr).alloc (Nat.le_refl _) _).alloc (by simp) _).mono (by omega))) hbo (by simp; omega) ((old bo 0 bw).trans hC.out.1) oldf ((hu.alloc _).alloc _) (by simp) ((old w.heap.size 0 (by omega)).trans h3) (by simp) (by simp; omega) (by omega) n3
            have mr := P.mark_rng R.2
            obtain ⟨mk, hmk⟩ : ∃ x, P.mark R.2 = x := ⟨_, rfl⟩
            have he : errno R.2 = P.err R.2 := by rcases R.2 with _ | _ <;> rfl
            have hme : P.mark R.2 = -1000000 - (P.err R.2).tmod 1000 := rfl
            rw [he] at T
            obtain ⟨e0, he0⟩ : ∃ x, P.err R.2 = x := ⟨_, rfl⟩
            obtain ⟨r0, hr0⟩ : ∃ x, e0.tmod 1000 = x := ⟨_, rfl⟩
            rw [he0] at T hme
            rw [hr0, hmk] at hme
            rw [hmk] at mr
            have HMK := Lib.hid hmk
            have HME := Lib.hid hme
            have HR0 := Lib.hid hr0
            have HT := Lib.hid T
            clear T old oldf he he0 hmk hme hr0
            have GR : Hid (P.Goes l (i + 1 + c) (ys ++ R.1 ++ [P.mark R.2])) := by rw [hR] at G; exact G
            clear hA2 IH HC0 hR G
            go_wp2_with fail
            refine HT.out.mono ?_
            rintro e w4 ⟨rfl, u', g1, g2, g3, g4, g5, g6⟩
            have T4 : Two bo v W1 w4 := ((hT.new _).new _).trans hO g4
            have O4 : Owns v u' W1 := hO.trans (b := ((wr.alloc (.cells #[.int .i64 2, .int .i64 n, .int .i64 m] 42)).alloc (.cells #[.slice A' c (cap - (i + 1))] 22))) (by simp; omega) g5
            have z4 := T4.size
            have lt4 := own_lt g3
            have n4 : ∀ k, u'.ownBlock = some k → k ≠ w.heap.size := by
              intro k hk
              rcases O4 with h | h
              · have := (hvk k (h.symm.trans hk)).2; omega
              · have := h k hk; omega
            have F0 := Lib.hid (show w4.cell? ⟨w.heap.size, 0, none⟩ = some (.pointer (some ⟨bo, 0, none⟩)) ∧ w4.cell? ⟨bo, 0, none⟩ = some u' ∧ w4.frozen? ⟨bo, 0, none⟩ = false from ⟨g6, g1, g2⟩)
            have F1 := Lib.hid (show (w4.alloc (.cells #[.int .i64 mk] 3)).drew.cell? ⟨w.heap.size, 0, none⟩ = some (.pointer (some ⟨bo, 0, none⟩)) ∧ (w4.alloc (.cells #[.int .i64 mk] 3)).drew.cell? ⟨bo, 0, none⟩ = some u' ∧ (w4.alloc (.cells #[.int .i64 mk] 3)).drew.frozen? ⟨bo, 0, none⟩ = false from
              ⟨(World.cell?_alloc_lt w4 _ ⟨w.heap.size, 0, none⟩ (by dsimp only; omega)).trans g6, (World.cell?_alloc_lt w4 _ ⟨bo, 0, none⟩ (by dsimp only; omega)).trans g1, (World.frozen?_of_block (a := ⟨bo, 0, none⟩) (Below.heap_alloc w4 _ bo (by omega))).trans g2⟩)
            have FK : ∀ w1, (w4.alloc (.cells #[.int .i64 mk] 3)).drew.grownBy w1 u'.ownBlock → w1.cell? ⟨w.heap.size, 0, none⟩ = some (.pointer (some ⟨bo, 0, none⟩)) ∧ w1.cell? ⟨bo, 0, none⟩ = some u' ∧ w1.frozen? ⟨bo, 0, none⟩ = false := fun w1 hg =>
              ⟨far_cell hg F1.out.1 (by simp; omega) n4, far_cell hg F1.out.2.1 (by simp; omega) (fun k hk => by have := (lt4 k hk).1; omega), far_frozen hg F1.out.2.2 (by simp; omega) (fun k hk => by have := (lt4 k hk).1; omega)⟩
            have HFK := Lib.hid FK
            have one : ∀ z ∈ [Value.int .i64 mk], z.oneCell' = true := by intro z hz; simp at hz; subst hz; rfl
            have hlen : (xs ++ ys ++ R.1).length ≤ 1000 := by simp; omega
            have h63 : (xs ++ ys ++ R.1).length + 1 ≤ maxLen := by simp only [maxLen]; omega
            have hby : ((xs ++ ys ++ R.1).length + 1) * 8 ≤ 140737488355328 := by omega
            have hbs : B ≤ (w4.alloc (.cells #[.int .i64 mk] 3)).drew.heap.size := by simp; omega
            have own2 : (w4.alloc (.cells #[.int .i64 mk] 3)).drew.ownsRow B 3 1 u' (xs ++ ys ++ R.1).length (ints (xs ++ ys ++ R.1)) := g3.alloc _
            have src : Reads ((w4.alloc (.cells #[.int .i64 mk] 3)).drew) (w4.heap.size + 1) 1 (some ⟨w4.heap.size, 0, none⟩) 1 [.int .i64 mk] := ⟨rfl, fun _ => ⟨_, rfl, by simp, fun j x hx => by
              match j, hx with
              | 0, hx => simp at hx; subst hx; simp [Addr.add]⟩⟩
            have hr0 := HR0.out
            have rr : -1000 < r0 ∧ r0 < 1000 := by have := HME.out; omega
            have w1e : IntKind.i64.wrap r0 = r0 := IntWalk.i64_in _ (by omega)
            have w2e : IntKind.i64.wrap (-1000000 - r0) = mk := (IntWalk.i64_in _ (by omega)).trans HME.out.symm
            have w3e : -1000000 - r0 = mk := HME.out.symm
            have w4e : IntKind.i64.wrap mk = mk := IntWalk.i64_in _ (by omega)
            clear FK g1 g2 g6
            go_wp2_with fail
            refine region_L (fun w' => w'.cell? ⟨w.heap.size, 0, none⟩ = some (.pointer (some ⟨bo, 0, none⟩)) ∧ w'.cell? ⟨bo, 0, none⟩ = some u' ∧ w'.frozen? ⟨bo, 0, none⟩ = false) 10 (by kernel_rfl) ?_
            refine takeL (i := 0) (v := .pointer (some ⟨bo, 0, none⟩)) rfl (by kernel_rfl) (by kernel_rfl) (by kernel_rfl) (by kernel_rfl) (fun _ _ _ h => h) (by rfl) (fun w' hS => ?_) F0.out ?_
            · obtain ⟨s0, s1, s2⟩ := hS
              go_simp
            try simp only [Act.put, List.setIfInBounds_toArray, List.set_cons_zero, List.set_cons_succ]
            refine takeL (i := 1) (v := .pointer (some ⟨bo, 0, none⟩)) rfl (by kernel_rfl) (by kernel_rfl) (by kernel_rfl) (by kernel_rfl) (fun _ _ _ h => h) (by rfl) (fun w' hS => ?_) F0.out ?_
            · obtain ⟨s0, s1, s2⟩ := hS
              go_simp
            try simp only [Act.put, List.setIfInBounds_toArray, List.set_cons_zero, List.set_cons_succ]
            refine takeL (i := 2) (v := .pointer (some ⟨bo, 0, none⟩)) rfl (by kernel_rfl) (by kernel_rfl) (by kernel_rfl) (by kernel_rfl) (fun _ _ _ h => h) (by rfl) (fun w' hS => ?_) F0.out ?_
            · obtain ⟨s0, s1, s2⟩ := hS
              go_simp
            try simp only [Act.put, List.setIfInBounds_toArray, List.set_cons_zero, List.set_cons_succ]
            refine takeL (i := 3) (v := u') rfl (by kernel_rfl) (by kernel_rfl) (by kernel_rfl) (by kernel_rfl) (fun _ _ _ h => h) (by rfl) (fun w' hS => ?_) F0.out ?_
            · obtain ⟨s0, s1, s2⟩ := hS
              go_simp
            try simp only [Act.put, List.setIfInBounds_toArray, List.set_cons_zero, List.set_cons_succ]
            refine takeL (i := 4) (v := .int .i64 e0) rfl (by kernel_rfl) (by kernel_rfl) (by kernel_rfl) (by kernel_rfl) (fun _ _ _ h => h) (by rfl) (fun w' hS => ?_) F0.out ?_
            · obtain ⟨s0, s1, s2⟩ := hS
              go_simp
            try simp only [Act.put, List.setIfInBounds_toArray, List.set_cons_zero, List.set_cons_succ]
            refine takeL (i := 5) (v := .int .i64 r0) rfl (by kernel_rfl) (by kernel_rfl) (by kernel_rfl) (by kernel_rfl) (fun _ _ _ h => h) (by rfl) (fun w' hS => ?_) F0.out ?_
            · obtain ⟨s0, s1, s2⟩ := hS
              go_simp
            try simp only [Act.put, List.setIfInBounds_toArray, List.set_cons_zero, List.set_cons_succ]
            refine takeL (i := 6) (v := .int .i64 mk) rfl (by kernel_rfl) (by kernel_rfl) (by kernel_rfl) (by kernel_rfl) (fun _ _ _ h => h) (by rfl) (fun w' hS => ?_) F0.out ?_
            · obtain ⟨s0, s1, s2⟩ := hS
              go_simp
            try simp only [Act.put, List.setIfInBounds_toArray, List.set_cons_zero, List.set_cons_succ]
            clear hr0 w1e w2e w3e w4e
            refine nextL (i := 7) (by kernel_rfl) rfl (fun K hK => ?_)
            go_simp
            refine hK _ _ (fun _ => F1.out) ?_
            clear hK K
            try simp only [Act.put, List.setIfInBounds_toArray, List.set_cons_zero, List.set_cons_succ]
            refine nextL (i := 8) (by kernel_rfl) rfl (fun K hK => ?_)
            refine step_append_any _ (by rfl) _ _ _ (by rfl) B 3 i0 (.int .i64 0) 1 8 Try.underlying24 hi0 hz0 hz1 hz2 rfl (by omega) u' (xs ++ ys ++ R.1).length (ints (xs ++ ys ++ R.1)) (by rfl) own2 (w4.heap.size + 1) (some ⟨w4.heap.size, 0, none⟩) 1 1 [.int .i64 mk] (by rfl) src one h63 hby hbs ?_
            intro v1 w1 hown1 hg1 hat1
            have FK1 := HFK.out w1 hg1
            obtain ⟨g1, cp1, rfl, _, _⟩ := hown1.form (by omega)
            refine hK _ _ (fun _ => FK1) ?_
            clear hK K
            try simp only [Act.put, List.setIfInBounds_toArray, List.set_cons_zero, List.set_cons_succ]
            refine takeL (i := 9) (v := .pointer (some ⟨bo, 0, none⟩)) rfl (by kernel_rfl) (by kernel_rfl) (by kernel_rfl) (by kernel_rfl) (fun _ _ _ h => h) (by rfl) (fun w' hS => ?_) FK1 ?_
            · obtain ⟨s0, s1, s2⟩ := hS
              go_simp
            try simp only [Act.put, List.setIfInBounds_toArray, List.set_cons_zero, List.set_cons_succ]
            obtain ⟨s0, s1, s2⟩ := FK1
            refine nextL (i := 10) (by kernel_rfl) rfl (fun K hK => ?_)
            go_simp
            refine hK _ _ (fun h => absurd rfl h) ?_
            clear hK K
            refine doneL (by kernel_rfl) ?_
            have HL := Lib.hid hlen
            have GR' : Hid (P.Goes l (i + 1 + c) (ys ++ R.1 ++ [mk])) := by rw [← HMK.out]; exact GR
            clear GR
            go_wp2_with fail
            have hlx : (xs ++ ys ++ R.1).length = xs.length + (ys.length + R.1.length) := by simp
            rw [hlx] at hown1 hat1
            have N := noted (ys := xs ++ (ys ++ R.1 ++ [mk])) hbo (T4.new (.cells #[.int .i64 mk] 3)).draw O4 hg1 (by simpa [ints] using hown1) (by simp; omega) hat1 s1 s2
            exact ⟨⟨i + 1 + c, ys ++ R.1 ++ [mk], _, vint (by omega), by omega, by simp; omega, GR', N.1, N.2.1, N.2.2.1, N.2.2.2⟩, by simp [intOf]; omega⟩
        · have b0 : (kk == 0) = false := by simp [k0]
          have b1 : (kk == 1) = false := by simp [k1]
          have b2 : (kk == 2) = false := by simp [k2]
          have G := Lib.hid (P.goes_kind3 hG.out hlt HK.out k0 k1 k2)
          have e1 : (wr.alloc (.cells #[.int .i64 kk, .int .i64 n, .int .i64 m] 42)).cell? ⟨bo, 0, none⟩ = some u := (World.cell?_alloc_lt wr _ ⟨bo, 0, none⟩ (by dsimp only; omega)).trans hC.out.1
          have e2 : (wr.alloc (.cells #[.int .i64 kk, .int .i64 n, .int .i64 m] 42)).frozen? ⟨bo, 0, none⟩ = false := (World.frozen?_of_block (a := ⟨bo, 0, none⟩) (Below.heap_alloc wr _ bo (by omega))).trans hC.out.2
          have HE := Lib.hid (And.intro e1 e2)
          clear hG HK IH e1 e2 k0 k1 k2
          go_wp2_with fail
          exact ⟨⟨i + 1, ys, u, rfl, by omega, by omega, G, hu.alloc _, hT.new _, hO, HE⟩, by simp [intOf]; omega⟩
      · have q : ¬ (i : Int) < (l.length : Int) := by omega
        have E := Lib.hid (P.goes_end hG.out (by omega))
        clear hG A1 HV HC hAr
        go_wp2_with fail
        first | go_end0 | refine bodyPost_ret (results_none rfl _ _ _) rfl ?_
        rw [E.out]
        exact ⟨rfl, u, hC.out.1, hC.out.2, hu, T1.trans (Owns.refl _ _) hT, (Owns.refl v w).trans (Nat.le_of_lt S1) hO⟩
end Go.Proofs.Ytlggclehakcdaaa
