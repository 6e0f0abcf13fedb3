/- Contracts: what tells what stands between. -/
import Derived.Test.YtdkppkdoconfhaaVd
namespace Go.Proofs.Ytdkppkdoconfhaa
open Go.ChangeShapes Go.WideShapes Go.ChangeAt Go.RowKit
set_option linter.unusedVariables false
set_option linter.unusedSimpArgs false

theorem VM.old1 {w w' : World} {bs : List (Nat × TypeId × List Value)} (O : Own w w' bs) {g : Nat} {t : TypeId} {cs : List Value} (h : w.heap[g]? = some (.cells cs.toArray t (0, 0))) : Own { w' with heap := #[] } w' [(g, t, cs)] := by
  refine ⟨⟨rfl, rfl, rfl, Nat.zero_le _, fun k hk => absurd hk (Nat.not_lt_zero k)⟩, by simp, fun x hx => ?_⟩
  obtain rfl := List.mem_singleton.1 hx
  exact ⟨Nat.zero_le _, (O.1.block g (Array.getElem?_eq_some_iff.1 h).1).trans h⟩
theorem VM.kept {w w' : World} (hb : Below w.heap.size w w') {g : Nat} {t : TypeId} {cs : List Value} (h : w.heap[g]? = some (.cells cs.toArray t (0, 0))) : w'.heap[g]? = some (.cells cs.toArray t (0, 0)) := (hb.block g (Array.getElem?_eq_some_iff.1 h).1).trans h
section
variable {P : Program} {ops : Array Oper} {Q : Exit → Act → World → Prop} {a : Act} {w w0 : World} {rest : List Oper} {bs : List (Nat × TypeId × List Value)} {dst : Option Tmp} {ty : TypeId} {pos : String} {after : Array Edge} {K : Act → World → Prop}
/-- A number in a box. -/
theorem wp_box1_own {t : TypeId} {x : Operand} (O : Own w0 w bs) (i : Int) (hx : a.eval x = .int .i64 i)
    (h : ∀ g w1, Own w0 w1 ((g, t, [.int .i64 i]) :: bs) → K (a.put dst (.pointer (some ⟨g, 0, none⟩))) w1) : Oper.wp P ⟨dst, .box t x, ty, pos, after, none⟩ a w K Q := by
  have hr : (Instr.box t (.int .i64 i)).run P w = .ok (.pointer (some ⟨w.heap.size, 0, none⟩)) (w.alloc (.cells [.int .i64 i].toArray t)) := rfl
  unfold Oper.wp execOp
  simp only [hx, Sem.run_bind, hr, Result.andThen_ok]
  exact h _ _ (O.alloc t [.int .i64 i])
theorem wpList_box1_own {t : TypeId} {x : Operand} (O : Own w0 w bs) (i : Int) (hx : a.eval x = .int .i64 i)
    (h : ∀ g w1, Own w0 w1 ((g, t, [.int .i64 i]) :: bs) → wpList P ops Q rest (a.put dst (.pointer (some ⟨g, 0, none⟩))) w1) : wpList P ops Q (⟨dst, .box t x, ty, pos, after, none⟩ :: rest) a w :=
  wpList_plain rfl fun K hK => wp_box1_own O i hx fun g w1 O' => hK _ _ (h g w1 O')
end
/-- What tells p. -/
theorem same_any (p q : Int) (w : World) : Calls Try.prog 64 #[.int .i64 p, .int .i64 q] w fun e w' => e = .returned (.int .i64 p) ∧ Below w.heap.size w w' := by
  go_enter Try.func64, Try.ntmps64
  go_wp2_with fail
  go_ret
  exact ⟨rfl, Below.refl _ _⟩
def ints (l : List Int) : List Value := l.map (Value.int IntKind.i64)
/-- What is captured: the number of parts, and how many of them have been gone. -/
def Cap (n d : Int) (gd gn : Nat) (w : World) : Prop := w.heap[gd]? = some (.cells [Value.int .i64 d].toArray 3 (0, 0)) ∧ w.heap[gn]? = some (.cells [Value.int .i64 (VM.cl n d)].toArray 3 (0, 0))
theorem Cap.kept {n d : Int} {gd gn : Nat} {w w' : World} (h : Cap n d gd gn w) (hb : Below w.heap.size w w') : Cap n d gd gn w' := ⟨VM.kept hb h.1, VM.kept hb h.2⟩
def fnS : Value := .func (.func 64) #[] #[]
def fnP (gd gn : Nat) : Value := .func (.func 65) #[] #[.pointer (some ⟨gd, 0, none⟩), .pointer (some ⟨gn, 0, none⟩)]
/-- A value that tells what stands at n of d parts. -/
def Tell (n d : Int) (v : Value) (w : World) : Prop := (d < 1 ∧ v = fnS) ∨ (1 ≤ d ∧ ∃ gd gn, v = fnP gd gn ∧ Cap n d gd gn w)
theorem Tell.kept {n d : Int} {v : Value} {w w' : World} (h : Tell n d v w) (hb : Below w.heap.size w w') : Tell n d v w' := by
  rcases h with h | ⟨h1, gd, gn, h2, h3⟩
  · exact .inl h
  · exact .inr ⟨h1, gd, gn, h2, h3.kept hb⟩
set_option maxRecDepth 100000 in
set_option maxHeartbeats 8000000 in
/-- What tells the weighted middle. -/
theorem part_any (p q c d : Int) (hp : -1099511627776 ≤ p ∧ p ≤ 1099511627776) (hq : -1099511627776 ≤ q ∧ q ≤ 1099511627776) (h0 : 0 ≤ c) (h1 : c ≤ d) (h2 : 1 ≤ d) (h3 : d < 9223372036854775808) (gd gn : Nat) (w : World)
    (fd : w.heap[gd]? = some (.cells [Value.int .i64 d].toArray 3 (0, 0))) (fn : w.heap[gn]? = some (.cells [Value.int .i64 c].toArray 3 (0, 0))) :
    Calls Try.prog 65 #[.int .i64 p, .int .i64 q, .pointer (some ⟨gd, 0, none⟩), .pointer (some ⟨gn, 0, none⟩)] w fun e w' => e = .returned (.int .i64 (D.wt p q c d)) ∧ Below w.heap.size w w' := by
  have O := Own.start w
  obtain ⟨o1, o2, o3, o4, o5⟩ := D.rng hp hq h0 h1 h2 h3
  have c1 := fun w => mul_any p (d - c) (by omega) (by omega) (by omega) (by omega) w
  have c2 := fun w => mul_any q c (by omega) (by omega) (by omega) (by omega) w
  have c3 := fun w => addZ o1 o2 o3 w
  have c4 := fun w => divZ o3 h2 h3 w
  have c5 := fun w => smallZ o4 o5 w
  have e : (p * (d - c) + q * c) / d = D.wt p q c d := rfl
  rw [e] at c4
  clear e
  have CW := Lib.hid (show IntKind.i64.wrap (d - c) = d - c from IntWalk.i64_in _ (by omega))
  generalize D.wt p q c d = y at *
  generalize (p * (d - c) + q * c) % d = r at *
  generalize p * (d - c) + q * c = s at *
  generalize p * (d - c) = z1 at *
  generalize q * c = z2 at *
  generalize M.oh y = qh at *
  generalize M.ol y = ql at *
  generalize M.oh s = sh at *
  generalize M.ol s = sl at *
  generalize M.oh z1 = h1' at *
  generalize M.ol z1 = l1' at *
  generalize M.oh z2 = h2' at *
  generalize M.ol z2 = l2' at *
  clear o1 o2 o3 o4 o5 hp hq h0 h1 h2 h3
  go_enter Try.func65, Try.ntmps65
  go_wp2_with fail
  refine region_A w [] 80 ([.int .i64 0, .int .u64 0]) ([.int .i64 sh, .int .u64 sl]) 12 13 14 [some 15, some 16, some 17, some 18, some 19, some 20, some 21, some 22, some 23, some 14, some 24, some 25, some 7, none] [.int .i64 (p), .int .i64 (d), .int .i64 (c), .int .i64 (d - c), .agg #[.int .i64 h1', .int .u64 l1'], .int .i64 (q), .int .i64 (c), .agg #[.int .i64 h2', .int .u64 l2'], .tuple #[.agg #[.int .i64 sh, .int .u64 sl], .bool true], .tuple #[.agg #[.int .i64 sh, .int .u64 sl], .bool true], .agg #[.int .i64 sh, .int .u64 sl], .bool true, undef, undef] 1 (by kernel_rfl) (by kernel_rfl) (by rfl) (by rfl) (by rfl) (by decide) (by decide) (by decide) (by kernel_rfl) (O.drew) (fun F hF => ?_)
  simp only [fillD, List.set_cons_zero, List.set_cons_succ, Act.put, List.setIfInBounds_toArray, List.set_cons_zero, List.set_cons_succ] at hF
  have hF2 := funext hF
  clear hF
  subst hF2
  refine ⟨⟨doesA_want rfl (fun p => rfl) (fun ext hx p w' O K hK => ?_), doesA_want rfl (fun p => rfl) (fun ext hx p w' O K hK => ?_), doesA_want rfl (fun p => rfl) (fun ext hx p w' O K hK => ?_), doesA_want rfl (fun p => rfl) (fun ext hx p w' O K hK => ?_), doesA_want rfl (fun p => rfl) (fun ext hx p w' O K hK => ?_), doesA_want rfl (fun p => rfl) (fun ext hx p w' O K hK => ?_), doesA_want rfl (fun p => rfl) (fun ext hx p w' O K hK => ?_), doesA_want rfl (fun p => rfl) (fun ext hx p w' O K hK => ?_), doesA_want rfl (fun p => rfl) (fun ext hx p w' O K hK => ?_), doesA_want rfl (fun p => rfl) (fun ext hx p w' O K hK => ?_), doesA_want rfl (fun p => rfl) (fun ext hx p w' O K hK => ?_), doesA_want rfl (fun p => rfl) (fun ext hx p w' O K hK => ?_), doesA_alloc, doesA_store, trivial⟩, ⟨_, rfl, rfl, fun w' O K hK => ?_⟩, ⟨_, rfl, fun g => rfl, fun g w' O K hK => ?_⟩, fun g w' O => ?_⟩
  · try dsimp only
    go_simp
    exact hK _ O
  · try dsimp only
    exact wp_cell_h (v := .int .i64 (d)) (VM.old1 O fd).held 0 rfl rfl rfl agg3 rfl (hK _ O)
  · try dsimp only
    exact wp_cell_h (v := .int .i64 (c)) (VM.old1 O fn).held 0 rfl rfl rfl agg3 rfl (hK _ O)
  · try dsimp only
    go_simp
    rw [CW.out]
    exact hK _ O
  · try dsimp only
    go_simp
    go_at_call 42
    refine (c1 _).mono ?_
    rintro e w2 ⟨rfl, hb⟩
    exact hK _ (O.call hb)
  · try dsimp only
    go_simp
    exact hK _ O
  · try dsimp only
    exact wp_cell_h (v := .int .i64 (c)) (VM.old1 O fn).held 0 rfl rfl rfl agg3 rfl (hK _ O)
  · try dsimp only
    go_simp
    go_at_call 42
    refine (c2 _).mono ?_
    rintro e w2 ⟨rfl, hb⟩
    exact hK _ (O.call hb)
  · try dsimp only
    go_simp
    go_at_call 66
    refine (c3 _).mono ?_
    rintro e w2 ⟨rfl, hb⟩
    exact hK _ (O.call hb)
  · try dsimp only
    go_simp
    exact hK _ O
  · try dsimp only
    go_simp
    exact hK _ O
  · try dsimp only
    go_simp
    exact hK _ O
  · try dsimp only
    exact wp_alloc_own O [.int .i64 0, .int .u64 0] zero54 fun g w1 O1 => hK g w1 O1
  · try dsimp only
    exact wp_put_own O 0 [.int .i64 sh, .int .u64 sl] rfl rfl rfl size54 rfl (two_one rfl rfl) fun w1 O1 => hK w1 O1
  try dsimp only
  refine wpAny_one (i := 14) (by kernel_rfl) rfl (fun K hK => ?_)
  go_simp
  refine hK _ _ ?_
  clear hK K
  try simp only [Act.put, List.setIfInBounds_toArray, List.set_cons_zero, List.set_cons_succ]
  refine wpAny_done (by kernel_rfl) ?_ _
  go_wp2_with (first | ((with_reducible refine at_load 27 ?_); refine wpList_whole rfl O 0 rfl rfl Try.underlying80 rfl size54 ?_) | ((with_reducible refine at_load 28 ?_); refine wpList_cell_h (v := .int .i64 (d)) rfl (VM.old1 O fd).held 0 rfl rfl rfl agg3 rfl ?_) | (go_at_call 67; refine (c4 _).mono ?_; rintro e w4 ⟨rfl, hb⟩; replace O := O.call hb; clear hb) | ((with_reducible refine at_alloc 9 ?_); refine wpList_alloc_own O [.int .i64 0, .int .u64 0] zero54 ?_; clear O; intro g9 w5 O) | ((with_reducible refine at_store 9 ?_); refine wpList_put_own O 0 [.int .i64 qh, .int .u64 ql] rfl rfl rfl size54 rfl (two_one rfl rfl) ?_; clear O; intro w6 O) | ((with_reducible refine at_load 34 ?_); refine wpList_whole rfl O 0 rfl rfl Try.underlying80 rfl size54 ?_) | (go_at_call 68; refine (c5 _).mono ?_; rintro e w7 ⟨rfl, hb⟩; replace O := O.call hb; clear hb))
  go_ret
  exact ⟨rfl, O.below⟩
set_option maxHeartbeats 4000000 in
/-- What tells what stands at n of d parts. -/
theorem at_any (n d : Int) (w : World) : Calls Try.prog 51 #[.int .i64 n, .int .i64 d] w fun e w' => ∃ v, e = .returned v ∧ Tell n d v w' ∧ Below w.heap.size w w' := by
  have O := Own.start w
  by_cases h1 : d < 1
  · have HE := Lib.hid h1
    have c1 : decide (d < 1) = true := decide_eq_true h1
    clear h1
    go_enter Try.func51, Try.ntmps51
    go_wp2_with (first | ((with_reducible refine at_box 2 ?_); refine wpList_box1_own O (n) rfl ?_; clear O; intro g2 w1 O) | ((with_reducible refine at_box 3 ?_); refine wpList_box1_own O (d) rfl ?_; clear O; intro g3 w2 O) | ((with_reducible refine at_load 5 ?_); refine wpList_cell_h (v := .int .i64 (d)) rfl O.held 0 rfl rfl rfl agg3 rfl ?_))
    go_ret
    exact ⟨fnS, rfl, .inl ⟨HE.out, rfl⟩, O.below⟩
  · have HE := Lib.hid (show 1 ≤ d by omega)
    have c1 : decide (d < 1) = false := decide_eq_false h1
    have HC : Hid (VM.cl n d = max 0 (min n d)) := Lib.hid rfl
    clear h1
    go_enter Try.func51, Try.ntmps51
    go_wp2_with (first | ((with_reducible refine at_box 2 ?_); refine wpList_box1_own O (n) rfl ?_; clear O; intro g2 w1 O) | ((with_reducible refine at_box 3 ?_); refine wpList_box1_own O (d) rfl ?_; clear O; intro g3 w2 O) | ((with_reducible refine at_load 5 ?_); refine wpList_cell_h (v := .int .i64 (d)) rfl O.held 0 rfl rfl rfl agg3 rfl ?_) | ((with_reducible refine at_load 7 ?_); refine wpList_cell_h (v := .int .i64 (n)) rfl O.held 1 rfl rfl rfl agg3 rfl ?_) | ((with_reducible refine at_load 8 ?_); refine wpList_cell_h (v := .int .i64 (d)) rfl O.held 0 rfl rfl rfl agg3 rfl ?_) | ((with_reducible refine at_store 2 ?_); refine wpList_set_own O 1 (.int .i64 (max 0 (min n d))) rfl (Nat.succ_pos _) rfl rfl size3 rfl rfl ?_; clear O; intro w3 O))
    go_ret
    refine ⟨fnP g3 g2, rfl, .inr ⟨HE.out, g3, g2, rfl, ?_, ?_⟩, O.below⟩
    · exact (O.2.2 _ List.mem_cons_self).2
    · rw [HC.out]
      exact (O.2.2 _ (List.mem_cons_of_mem _ List.mem_cons_self)).2
end Go.Proofs.Ytdkppkdoconfhaa
