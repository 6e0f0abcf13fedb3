/- Contract: the primitives by the document. -/
import Derived.Test.YtadpejblhkcjgaaD3
namespace Go.Proofs.Ytadpejblhkcjgaa
open Go.ChangeShapes Go.WideShapes Go.ChangeAt Go.RowKit
set_option linter.unusedVariables false
set_option linter.unusedSimpArgs false

/-- A list of nothing. -/
theorem Held.addNil {w0 w : World} {bs : List (Nat × TypeId × List Value)} {R : RowD} {es : List Ent} (h : Held w0 w bs R es) {x : Ent} (hn : x.n = 0) (hx : x.xs = []) (hc : 0 ≤ x.c) : Held w0 w bs R (x :: es) := by
  refine ⟨h.1, h.2.1, h.2.2.1, fun y hy => ?_⟩
  rcases List.mem_cons.1 hy with rfl | hy
  · exact ⟨by rw [hx, hn]; simp, by rw [hn]; exact Nat.zero_le _, fun h0 => by omega⟩
  · exact h.2.2.2 y hy
theorem P.cnt0_le {m : Nat} (h : m ≤ 8) (n : Nat) : P.cnt0 (P.shp m) n ≤ n := by
  have h9 : m < 9 := by omega
  rcases P.le9 h9 with rfl | rfl | rfl | rfl | rfl | rfl | rfl | rfl | rfl
  all_goals
    simp only [P.shp, P.tab, P.cnt0, List.getD_cons_zero, List.getD_cons_succ]
    split <;> omega
theorem P.dV_len (m i : Nat) : (P.dV m i).length ≤ 4 := by
  unfold P.dV
  repeat' split
  all_goals simp
theorem foldl_max_le {l : List Nat} : ∀ {b x : Nat}, x ≤ b ∨ x ∈ l → x ≤ l.foldl max b := by
  induction l with
  | nil => intro b x h; simpa using h
  | cons a l ih =>
    intro b x h
    rw [List.foldl_cons]
    refine ih ?_
    rcases h with h | h
    · exact .inl (Nat.le_trans h (Nat.le_max_left _ _))
    · rcases List.mem_cons.1 h with rfl | h
      · exact .inl (Nat.le_max_right _ _)
      · exact .inr h
theorem P.mx_lt {v : List Nat} {n : Nat} (h : P.mx v < n) : ∀ k ∈ v, k < n := fun k hk => Nat.lt_of_le_of_lt (foldl_max_le (.inr hk)) h
theorem mem_drop1 {α : Type} {a b y : α} {l : List α} (h : y ∈ l ++ []) : y ∈ a :: (l ++ [b]) := by
  rw [List.append_nil] at h
  exact List.mem_cons_of_mem _ (List.mem_append_left _ h)
set_option maxRecDepth 100000 in
set_option maxHeartbeats 16000000 in
theorem rprims_in (m : Nat) (fl : List Bool) {lo : Nat} {A' : Option Addr} {c' : Nat} (first : Bool) (hm : m ≤ 8) (hn : fl.length ≤ 256) (w : World) (hf : Lies w free (bE lo A' c' fl)) : Calls Try.prog 10 #[.int .i64 m, .slice A' fl.length c', .bool first] w (RetP w (P.list (P.shp m) fl first) 0) := by
  have O := Held.start w [bE lo A' c' fl] (by simpa using hf)
  have q1 : decide ((m : Int) < 0) = false := by simp
  have q2 : decide ((9 : Int) < m) = false := by simp; omega
  have q3 : ¬ (256 : Int) < fl.length := by omega
  have q4 : ((m : Int) == 9) = false := by simp; omega
  have HP := Lib.hid (P.list_eq (show m < 9 by omega) fl first)
  have HIN := Lib.hid (fun i => P.cnt0_iff (show m < 9 by omega) fl.length i)
  have hle := P.cnt0_le hm fl.length
  obtain ⟨N, hN⟩ : ∃ N, P.cnt0 (P.shp m) fl.length = N := ⟨_, rfl⟩
  rw [hN] at HP HIN hle
  clear hN hf
  go_enter Try.func10, Try.ntmps10
  go_wp2_with fail
  replace O := O.fresh 35 3
  clear q1 q2 q3 q4
  go_loopw [8, 11] (fun u t wr => ∃ (k : Nat) (l : List PA), k ≤ N ∧ t = .int .i64 k ∧ l.length = k ∧ l.map (·.1) = (List.range k).map (P.dprim m fl first) ∧ Held w wr [] ⟨u, 35, 3, k, pmcs l⟩ (ents w.heap.size l ++ [bE lo A' c' fl])) (fun _ t _ => fl.length - (intOf t).toNat)
  case atStart => exact ⟨0, [], Nat.zero_le _, rfl, rfl, rfl, O⟩
  case round =>
    clear O
    obtain ⟨k, l, hk, rfl, hkl, hl, O⟩ := hrel
    have q0 : (0 : Int) ≤ k := by omega
    have hki : k ≤ 256 := by omega
    have HL := Lib.hid hl
    have HKL := Lib.hid hkl
    clear hl hkl
    by_cases hlt : k < fl.length
    · have q7 : (k : Int) < fl.length := by omega
      have hV4 := P.dV_len m k
      obtain ⟨V, hV⟩ : ∃ V, P.dV m k = V := ⟨_, rfl⟩
      obtain ⟨p, hp⟩ : ∃ p, P.dP m k = p := ⟨_, rfl⟩
      obtain ⟨q, hq⟩ : ∃ q, P.dQ m k = q := ⟨_, rfl⟩
      have HE : Hid (P.dprim m fl first k = ⟨V, P.dE m V fl, if first then p else q⟩) := by show _ = _; rw [← hV, ← hp, ← hq]; rfl
      have hmx := HIN.out k
      rw [hV] at hmx hV4
      have HV := Lib.hid hV
      have HP1 := Lib.hid hp
      have HQ1 := Lib.hid hq
      obtain ⟨cb, hcb⟩ : ∃ cb, P.dC m = cb := ⟨_, rfl⟩
      have HC1 := Lib.hid hcb
      clear hV hp hq hcb
      by_cases hin : k < N
      · have HM := hmx.2 hin
        have HVM := Lib.hid (P.mx_lt HM)
        have q8 : decide ((fl.length : Int) ≤ (P.mx V : Nat)) = false := by simp; omega
        obtain ⟨M, hM⟩ : ∃ M, P.mx V = M := ⟨_, rfl⟩
        clear hmx HP HIN
        by_cases h2 : 2 < V.length
        · have q9 : decide ((2 : Int) < V.length) = true := by simp; omega
          cases cb
          · have HD : Hid (P.dE m V fl = List.replicate V.length true) := by show _ = _; simp [P.dE, h2, HC1.out]
            clear h2
            cases first
            · go_wp2_with (first | (go_at_call 20; refine (one_any m k hm hki _).mono ?_; rw [HV.out, HP1.out, HQ1.out, HC1.out]; rintro e w6 ⟨VA, Vc, rfl, hv, hb⟩; replace O := O.gain hb hv; clear hb hv) | (go_at_call 21; refine (greatest_any V _ (O.arg (x := iE w.heap.size VA Vc V) List.mem_cons_self) (by omega)).mono ?_; rintro e w7 ⟨rfl, rfl⟩) | ((with_reducible refine at_alloc 16 ?_); refine wpList_alloc_h O (pm ⟨nilE 1, nilE 1, 0⟩) zero35 ?_; clear O; intro g16 w10 O) | ((with_reducible refine at_store 16 ?_); refine wpList_put_h O 0 ([.slice VA V.length Vc, .slice none 0 0, .int .i64 q]) rfl rfl rfl size35 (rfl) (by simp [Value.oneCell']) ?_; clear O; intro w11 O) | (go_at_call 22; refine (all_any V.length _ (by omega)).mono ?_; rintro e w8 ⟨EA0, Ec0, rfl, hv, hb⟩; replace O := O.gain hb hv; clear hb hv) | ((with_reducible refine at_store 83 ?_); refine wpList_set_h O 0 (.slice EA0 V.length Ec0) rfl (by simp) rfl rfl size22 rfl rfl ?_; clear O; intro w13 O; simp only [List.set_cons_zero, List.set_cons_succ] at O) | ((with_reducible refine at_load 90 ?_); refine wpList_rowg_h rfl O 0 rfl rfl Try.underlying35 rfl size35 ?_) | ((with_reducible refine at_lit 91 ?_); refine wpList_lit_h rfl O 3 (.agg (pm ⟨nilE 1, nilE 1, 0⟩).toArray) info35 Try.underlying24 ([(0, .agg ([.slice VA V.length Vc, .slice EA0 V.length Ec0, .int .i64 q] : List Value).toArray)]) ([.slice VA V.length Vc, .slice EA0 V.length Ec0, .int .i64 q]) rfl rfl (by decide) (by decide) (by kernel_rfl) ?_; clear O; intro g w15 O) | ((with_reducible refine at_app 92 ?_); refine wpList_app_h rfl O (.agg (pm ⟨nilE 1, nilE 1, 0⟩).toArray) 56 info35b rfl (Nat.succ_pos _) Try.underlying24 rfl (⟨w.heap.size, some ⟨g, 0, none⟩, 1, 1, 3, [.slice VA V.length Vc, .slice EA0 V.length Ec0, .int .i64 q]⟩) (O.mem (List.mem_cons_self)) rfl rfl (by simp [Value.oneCell']) (by dsimp only; omega) (by decide) ?_; clear O; intro v w16 O))
              go_roundw
              case rel =>
                refine ⟨k + 1, l ++ [(⟨V, (List.replicate V.length true), q⟩, ⟨VA, Vc, EA0, Ec0⟩)], by omega, by go_num, by rw [List.length_append, HKL.out]; rfl, ?_, ?_⟩
                · rw [List.map_append, HL.out, List.range_succ, List.map_append]
                  simp only [List.map_cons, List.map_nil]
                  rw [HE.out, HD.out]
                  rfl
                · rw [pmcs_snoc, ents_snoc, show pmc (⟨V, (List.replicate V.length true), q⟩, ⟨VA, Vc, EA0, Ec0⟩) = [.slice VA V.length Vc, .slice EA0 V.length Ec0, .int .i64 q] by simp [pmc]]
                  refine O.tail.pick (fun x hx => ?_)
                  simp only [List.mem_append, List.mem_cons, List.not_mem_nil, or_false] at hx ⊢
                  rcases hx with (hx | rfl | rfl) | hx
                  · simp [hx]
                  · simp [vOf, iE]
                  · simp [eOf, bE]
                  · simp [hx]
              case measure => simp [intOf]; omega
            · go_wp2_with (first | (go_at_call 20; refine (one_any m k hm hki _).mono ?_; rw [HV.out, HP1.out, HQ1.out, HC1.out]; rintro e w6 ⟨VA, Vc, rfl, hv, hb⟩; replace O := O.gain hb hv; clear hb hv) | (go_at_call 21; refine (greatest_any V _ (O.arg (x := iE w.heap.size VA Vc V) List.mem_cons_self) (by omega)).mono ?_; rintro e w7 ⟨rfl, rfl⟩) | ((with_reducible refine at_alloc 16 ?_); refine wpList_alloc_h O (pm ⟨nilE 1, nilE 1, 0⟩) zero35 ?_; clear O; intro g16 w10 O) | ((with_reducible refine at_store 16 ?_); refine wpList_put_h O 0 ([.slice VA V.length Vc, .slice none 0 0, .int .i64 q]) rfl rfl rfl size35 (rfl) (by simp [Value.oneCell']) ?_; clear O; intro w11 O) | ((with_reducible refine at_store 76 ?_); refine wpList_set_h O 0 (.int .i64 p) rfl (by simp) rfl rfl size3 rfl rfl ?_; clear O; intro w12 O; simp only [List.set_cons_zero, List.set_cons_succ] at O) | (go_at_call 22; refine (all_any V.length _ (by omega)).mono ?_; rintro e w8 ⟨EA0, Ec0, rfl, hv, hb⟩; replace O := O.gain hb hv; clear hb hv) | ((with_reducible refine at_store 83 ?_); refine wpList_set_h O 0 (.slice EA0 V.length Ec0) rfl (by simp) rfl rfl size22 rfl rfl ?_; clear O; intro w13 O; simp only [List.set_cons_zero, List.set_cons_succ] at O) | ((with_reducible refine at_load 90 ?_); refine wpList_rowg_h rfl O 0 rfl rfl Try.underlying35 rfl size35 ?_) | ((with_reducible refine at_lit 91 ?_); refine wpList_lit_h rfl O 3 (.agg (pm ⟨nilE 1, nilE 1, 0⟩).toArray) info35 Try.underlying24 ([(0, .agg ([.slice VA V.length Vc, .slice EA0 V.length Ec0, .int .i64 p] : List Value).toArray)]) ([.slice VA V.length Vc, .slice EA0 V.length Ec0, .int .i64 p]) rfl rfl (by decide) (by decide) (by kernel_rfl) ?_; clear O; intro g w15 O) | ((with_reducible refine at_app 92 ?_); refine wpList_app_h rfl O (.agg (pm ⟨nilE 1, nilE 1, 0⟩).toArray) 56 info35b rfl (Nat.succ_pos _) Try.underlying24 rfl (⟨w.heap.size, some ⟨g, 0, none⟩, 1, 1, 3, [.slice VA V.length Vc, .slice EA0 V.length Ec0, .int .i64 p]⟩) (O.mem (List.mem_cons_self)) rfl rfl (by simp [Value.oneCell']) (by dsimp only; omega) (by decide) ?_; clear O; intro v w16 O))
              go_roundw
              case rel =>
                refine ⟨k + 1, l ++ [(⟨V, (List.replicate V.length true), p⟩, ⟨VA, Vc, EA0, Ec0⟩)], by omega, by go_num, by rw [List.length_append, HKL.out]; rfl, ?_, ?_⟩
                · rw [List.map_append, HL.out, List.range_succ, List.map_append]
                  simp only [List.map_cons, List.map_nil]
                  rw [HE.out, HD.out]
                  rfl
                · rw [pmcs_snoc, ents_snoc, show pmc (⟨V, (List.replicate V.length true), p⟩, ⟨VA, Vc, EA0, Ec0⟩) = [.slice VA V.length Vc, .slice EA0 V.length Ec0, .int .i64 p] by simp [pmc]]
                  refine O.tail.pick (fun x hx => ?_)
                  simp only [List.mem_append, List.mem_cons, List.not_mem_nil, or_false] at hx ⊢
                  rcases hx with (hx | rfl | rfl) | hx
                  · simp [hx]
                  · simp [vOf, iE]
                  · simp [eOf, bE]
                  · simp [hx]
              case measure => simp [intOf]; omega
          · have HD : Hid (P.dE m V fl = V.map fun k => fl.getD k false) := by show _ = _; simp [P.dE, h2, HC1.out]
            clear h2
            cases first
            · go_wp2_with (first | (go_at_call 20; refine (one_any m k hm hki _).mono ?_; rw [HV.out, HP1.out, HQ1.out, HC1.out]; rintro e w6 ⟨VA, Vc, rfl, hv, hb⟩; replace O := O.gain hb hv; clear hb hv) | (go_at_call 21; refine (greatest_any V _ (O.arg (x := iE w.heap.size VA Vc V) List.mem_cons_self) (by omega)).mono ?_; rintro e w7 ⟨rfl, rfl⟩) | ((with_reducible refine at_alloc 16 ?_); refine wpList_alloc_h O (pm ⟨nilE 1, nilE 1, 0⟩) zero35 ?_; clear O; intro g16 w10 O) | ((with_reducible refine at_store 16 ?_); refine wpList_put_h O 0 ([.slice VA V.length Vc, .slice none 0 0, .int .i64 q]) rfl rfl rfl size35 (rfl) (by simp [Value.oneCell']) ?_; clear O; intro w11 O) | (go_at_call 22; refine (all_any V.length _ (by omega)).mono ?_; rintro e w8 ⟨EA0, Ec0, rfl, hv, hb⟩; replace O := O.gain hb hv; clear hb hv) | ((with_reducible refine at_store 83 ?_); refine wpList_set_h O 0 (.slice EA0 V.length Ec0) rfl (by simp) rfl rfl size22 rfl rfl ?_; clear O; intro w13 O; simp only [List.set_cons_zero, List.set_cons_succ] at O) | (go_at_call 23; refine (pick_any V fl _ (O.arg (x := iE w.heap.size VA Vc V) (List.mem_cons_of_mem _ List.mem_cons_self)) (O.arg (x := bE lo A' c' fl) (by simp)) (by omega) HVM.out).mono ?_; rintro e w9 ⟨EA, Ec, rfl, hv, hb⟩; replace O := O.gain hb hv; clear hb hv) | ((with_reducible refine at_store 88 ?_); refine wpList_set_h O 0 (.slice EA V.length Ec) rfl (by simp) rfl rfl size22 rfl rfl ?_; clear O; intro w14 O; simp only [List.set_cons_zero, List.set_cons_succ] at O) | ((with_reducible refine at_load 90 ?_); refine wpList_rowg_h rfl O 0 rfl rfl Try.underlying35 rfl size35 ?_) | ((with_reducible refine at_lit 91 ?_); refine wpList_lit_h rfl O 3 (.agg (pm ⟨nilE 1, nilE 1, 0⟩).toArray) info35 Try.underlying24 ([(0, .agg ([.slice VA V.length Vc, .slice EA V.length Ec, .int .i64 q] : List Value).toArray)]) ([.slice VA V.length Vc, .slice EA V.length Ec, .int .i64 q]) rfl rfl (by decide) (by decide) (by kernel_rfl) ?_; clear O; intro g w15 O) | ((with_reducible refine at_app 92 ?_); refine wpList_app_h rfl O (.agg (pm ⟨nilE 1, nilE 1, 0⟩).toArray) 56 info35b rfl (Nat.succ_pos _) Try.underlying24 rfl (⟨w.heap.size, some ⟨g, 0, none⟩, 1, 1, 3, [.slice VA V.length Vc, .slice EA V.length Ec, .int .i64 q]⟩) (O.mem (List.mem_cons_self)) rfl rfl (by simp [Value.oneCell']) (by dsimp only; omega) (by decide) ?_; clear O; intro v w16 O))
              go_roundw
              case rel =>
                refine ⟨k + 1, l ++ [(⟨V, (V.map fun k => fl.getD k false), q⟩, ⟨VA, Vc, EA, Ec⟩)], by omega, by go_num, by rw [List.length_append, HKL.out]; rfl, ?_, ?_⟩
                · rw [List.map_append, HL.out, List.range_succ, List.map_append]
                  simp only [List.map_cons, List.map_nil]
                  rw [HE.out, HD.out]
                  rfl
                · rw [pmcs_snoc, ents_snoc, show pmc (⟨V, (V.map fun k => fl.getD k false), q⟩, ⟨VA, Vc, EA, Ec⟩) = [.slice VA V.length Vc, .slice EA V.length Ec, .int .i64 q] by simp [pmc]]
                  refine O.tail.pick (fun x hx => ?_)
                  simp only [List.mem_append, List.mem_cons, List.not_mem_nil, or_false] at hx ⊢
                  rcases hx with (hx | rfl | rfl) | hx
                  · simp [hx]
                  · simp [vOf, iE]
                  · simp [eOf, bE]
                  · simp [hx]
              case measure => simp [intOf]; omega
            · go_wp2_with (first | (go_at_call 20; refine (one_any m k hm hki _).mono ?_; rw [HV.out, HP1.out, HQ1.out, HC1.out]; rintro e w6 ⟨VA, Vc, rfl, hv, hb⟩; replace O := O.gain hb hv; clear hb hv) | (go_at_call 21; refine (greatest_any V _ (O.arg (x := iE w.heap.size VA Vc V) List.mem_cons_self) (by omega)).mono ?_; rintro e w7 ⟨rfl, rfl⟩) | ((with_reducible refine at_alloc 16 ?_); refine wpList_alloc_h O (pm ⟨nilE 1, nilE 1, 0⟩) zero35 ?_; clear O; intro g16 w10 O) | ((with_reducible refine at_store 16 ?_); refine wpList_put_h O 0 ([.slice VA V.length Vc, .slice none 0 0, .int .i64 q]) rfl rfl rfl size35 (rfl) (by simp [Value.oneCell']) ?_; clear O; intro w11 O) | ((with_reducible refine at_store 76 ?_); refine wpList_set_h O 0 (.int .i64 p) rfl (by simp) rfl rfl size3 rfl rfl ?_; clear O; intro w12 O; simp only [List.set_cons_zero, List.set_cons_succ] at O) | (go_at_call 22; refine (all_any V.length _ (by omega)).mono ?_; rintro e w8 ⟨EA0, Ec0, rfl, hv, hb⟩; replace O := O.gain hb hv; clear hb hv) | ((with_reducible refine at_store 83 ?_); refine wpList_set_h O 0 (.slice EA0 V.length Ec0) rfl (by simp) rfl rfl size22 rfl rfl ?_; clear O; intro w13 O; simp only [List.set_cons_zero, List.set_cons_succ] at O) | (go_at_call 23; refine (pick_any V fl _ (O.arg (x := iE w.heap.size VA Vc V) (List.mem_cons_of_mem _ List.mem_cons_self)) (O.arg (x := bE lo A' c' fl) (by simp)) (by omega) HVM.out).mono ?_; rintro e w9 ⟨EA, Ec, rfl, hv, hb⟩; replace O := O.gain hb hv; clear hb hv) | ((with_reducible refine at_store 88 ?_); refine wpList_set_h O 0 (.slice EA V.length Ec) rfl (by simp) rfl rfl size22 rfl rfl ?_; clear O; intro w14 O; simp only [List.set_cons_zero, List.set_cons_succ] at O) | ((with_reducible refine at_load 90 ?_); refine wpList_rowg_h rfl O 0 rfl rfl Try.underlying35 rfl size35 ?_) | ((with_reducible refine at_lit 91 ?_); refine wpList_lit_h rfl O 3 (.agg (pm ⟨nilE 1, nilE 1, 0⟩).toArray) info35 Try.underlying24 ([(0, .agg ([.slice VA V.length Vc, .slice EA V.length Ec, .int .i64 p] : List Value).toArray)]) ([.slice VA V.length Vc, .slice EA V.length Ec, .int .i64 p]) rfl rfl (by decide) (by decide) (by kernel_rfl) ?_; clear O; intro g w15 O) | ((with_reducible refine at_app 92 ?_); refine wpList_app_h rfl O (.agg (pm ⟨nilE 1, nilE 1, 0⟩).toArray) 56 info35b rfl (Nat.succ_pos _) Try.underlying24 rfl (⟨w.heap.size, some ⟨g, 0, none⟩, 1, 1, 3, [.slice VA V.length Vc, .slice EA V.length Ec, .int .i64 p]⟩) (O.mem (List.mem_cons_self)) rfl rfl (by simp [Value.oneCell']) (by dsimp only; omega) (by decide) ?_; clear O; intro v w16 O))
              go_roundw
              case rel =>
                refine ⟨k + 1, l ++ [(⟨V, (V.map fun k => fl.getD k false), p⟩, ⟨VA, Vc, EA, Ec⟩)], by omega, by go_num, by rw [List.length_append, HKL.out]; rfl, ?_, ?_⟩
                · rw [List.map_append, HL.out, List.range_succ, List.map_append]
                  simp only [List.map_cons, List.map_nil]
                  rw [HE.out, HD.out]
                  rfl
                · rw [pmcs_snoc, ents_snoc, show pmc (⟨V, (V.map fun k => fl.getD k false), p⟩, ⟨VA, Vc, EA, Ec⟩) = [.slice VA V.length Vc, .slice EA V.length Ec, .int .i64 p] by simp [pmc]]
                  refine O.tail.pick (fun x hx => ?_)
                  simp only [List.mem_append, List.mem_cons, List.not_mem_nil, or_false] at hx ⊢
                  rcases hx with (hx | rfl | rfl) | hx
                  · simp [hx]
                  · simp [vOf, iE]
                  · simp [eOf, bE]
                  · simp [hx]
              case measure => simp [intOf]; omega
        · have q9 : decide ((2 : Int) < V.length) = false := by simp; omega
          have HD : Hid (P.dE m V fl = []) := by show _ = _; simp [P.dE, h2]
          clear h2
          cases first
          · go_wp2_with (first | (go_at_call 20; refine (one_any m k hm hki _).mono ?_; rw [HV.out, HP1.out, HQ1.out, HC1.out]; rintro e w6 ⟨VA, Vc, rfl, hv, hb⟩; replace O := O.gain hb hv; clear hb hv) | (go_at_call 21; refine (greatest_any V _ (O.arg (x := iE w.heap.size VA Vc V) List.mem_cons_self) (by omega)).mono ?_; rintro e w7 ⟨rfl, rfl⟩) | ((with_reducible refine at_alloc 16 ?_); refine wpList_alloc_h O (pm ⟨nilE 1, nilE 1, 0⟩) zero35 ?_; clear O; intro g16 w10 O) | ((with_reducible refine at_store 16 ?_); refine wpList_put_h O 0 ([.slice VA V.length Vc, .slice none 0 0, .int .i64 q]) rfl rfl rfl size35 (rfl) (by simp [Value.oneCell']) ?_; clear O; intro w11 O) | ((with_reducible refine at_load 90 ?_); refine wpList_rowg_h rfl O 0 rfl rfl Try.underlying35 rfl size35 ?_) | ((with_reducible refine at_lit 91 ?_); refine wpList_lit_h rfl O 3 (.agg (pm ⟨nilE 1, nilE 1, 0⟩).toArray) info35 Try.underlying24 ([(0, .agg ([.slice VA V.length Vc, .slice none 0 0, .int .i64 q] : List Value).toArray)]) ([.slice VA V.length Vc, .slice none 0 0, .int .i64 q]) rfl rfl (by decide) (by decide) (by kernel_rfl) ?_; clear O; intro g w15 O) | ((with_reducible refine at_app 92 ?_); refine wpList_app_h rfl O (.agg (pm ⟨nilE 1, nilE 1, 0⟩).toArray) 56 info35b rfl (Nat.succ_pos _) Try.underlying24 rfl (⟨w.heap.size, some ⟨g, 0, none⟩, 1, 1, 3, [.slice VA V.length Vc, .slice none 0 0, .int .i64 q]⟩) (O.mem (List.mem_cons_self)) rfl rfl (by simp [Value.oneCell']) (by dsimp only; omega) (by decide) ?_; clear O; intro v w16 O))
            go_roundw
            case rel =>
              refine ⟨k + 1, l ++ [(⟨V, [], q⟩, ⟨VA, Vc, none, 0⟩)], by omega, by go_num, by rw [List.length_append, HKL.out]; rfl, ?_, ?_⟩
              · rw [List.map_append, HL.out, List.range_succ, List.map_append]
                simp only [List.map_cons, List.map_nil]
                rw [HE.out, HD.out]
                rfl
              · rw [pmcs_snoc, ents_snoc, show pmc (⟨V, [], q⟩, ⟨VA, Vc, none, 0⟩) = [.slice VA V.length Vc, .slice none 0 0, .int .i64 q] by simp [pmc]]
                refine (O.tail.addNil (x := eOf w.heap.size (⟨V, [], q⟩, ⟨VA, Vc, none, 0⟩)) rfl rfl (Nat.zero_le _)).pick (fun x hx => ?_)
                simp only [List.mem_append, List.mem_cons, List.not_mem_nil, or_false] at hx ⊢
                rcases hx with (hx | rfl | rfl) | hx
                · simp [hx]
                · simp [vOf, iE]
                · simp [eOf, bE]
                · simp [hx]
            case measure => simp [intOf]; omega
          · go_wp2_with (first | (go_at_call 20; refine (one_any m k hm hki _).mono ?_; rw [HV.out, HP1.out, HQ1.out, HC1.out]; rintro e w6 ⟨VA, Vc, rfl, hv, hb⟩; replace O := O.gain hb hv; clear hb hv) | (go_at_call 21; refine (greatest_any V _ (O.arg (x := iE w.heap.size VA Vc V) List.mem_cons_self) (by omega)).mono ?_; rintro e w7 ⟨rfl, rfl⟩) | ((with_reducible refine at_alloc 16 ?_); refine wpList_alloc_h O (pm ⟨nilE 1, nilE 1, 0⟩) zero35 ?_; clear O; intro g16 w10 O) | ((with_reducible refine at_store 16 ?_); refine wpList_put_h O 0 ([.slice VA V.length Vc, .slice none 0 0, .int .i64 q]) rfl rfl rfl size35 (rfl) (by simp [Value.oneCell']) ?_; clear O; intro w11 O) | ((with_reducible refine at_store 76 ?_); refine wpList_set_h O 0 (.int .i64 p) rfl (by simp) rfl rfl size3 rfl rfl ?_; clear O; intro w12 O; simp only [List.set_cons_zero, List.set_cons_succ] at O) | ((with_reducible refine at_load 90 ?_); refine wpList_rowg_h rfl O 0 rfl rfl Try.underlying35 rfl size35 ?_) | ((with_reducible refine at_lit 91 ?_); refine wpList_lit_h rfl O 3 (.agg (pm ⟨nilE 1, nilE 1, 0⟩).toArray) info35 Try.underlying24 ([(0, .agg ([.slice VA V.length Vc, .slice none 0 0, .int .i64 p] : List Value).toArray)]) ([.slice VA V.length Vc, .slice none 0 0, .int .i64 p]) rfl rfl (by decide) (by decide) (by kernel_rfl) ?_; clear O; intro g w15 O) | ((with_reducible refine at_app 92 ?_); refine wpList_app_h rfl O (.agg (pm ⟨nilE 1, nilE 1, 0⟩).toArray) 56 info35b rfl (Nat.succ_pos _) Try.underlying24 rfl (⟨w.heap.size, some ⟨g, 0, none⟩, 1, 1, 3, [.slice VA V.length Vc, .slice none 0 0, .int .i64 p]⟩) (O.mem (List.mem_cons_self)) rfl rfl (by simp [Value.oneCell']) (by dsimp only; omega) (by decide) ?_; clear O; intro v w16 O))
            go_roundw
            case rel =>
              refine ⟨k + 1, l ++ [(⟨V, [], p⟩, ⟨VA, Vc, none, 0⟩)], by omega, by go_num, by rw [List.length_append, HKL.out]; rfl, ?_, ?_⟩
              · rw [List.map_append, HL.out, List.range_succ, List.map_append]
                simp only [List.map_cons, List.map_nil]
                rw [HE.out, HD.out]
                rfl
              · rw [pmcs_snoc, ents_snoc, show pmc (⟨V, [], p⟩, ⟨VA, Vc, none, 0⟩) = [.slice VA V.length Vc, .slice none 0 0, .int .i64 p] by simp [pmc]]
                refine (O.tail.addNil (x := eOf w.heap.size (⟨V, [], p⟩, ⟨VA, Vc, none, 0⟩)) rfl rfl (Nat.zero_le _)).pick (fun x hx => ?_)
                simp only [List.mem_append, List.mem_cons, List.not_mem_nil, or_false] at hx ⊢
                rcases hx with (hx | rfl | rfl) | hx
                · simp [hx]
                · simp [vOf, iE]
                · simp [eOf, bE]
                · simp [hx]
            case measure => simp [intOf]; omega
      · obtain rfl : k = N := by omega
        have HM : ¬ P.mx V < fl.length := fun h => hin (hmx.1 h)
        have q8 : decide ((fl.length : Int) ≤ (P.mx V : Nat)) = true := by simp; omega
        clear hmx HIN hin HE
        by_cases h3 : m = 3 ∧ 2 ≤ fl.length
        · obtain ⟨rfl, h2⟩ := h3
          have HP2 : Hid (P.list (P.shp 3) fl first = (List.range k).map (P.dprim 3 fl first) ++ [P.last fl.length first]) := by show _ = _; rw [HP.out, if_pos ⟨rfl, h2⟩]
          have q5 : decide ((2 : Int) ≤ fl.length) = true := by simp; omega
          have HL1 : Hid (∀ f, P.last fl.length f = ⟨[fl.length - 1, 0], [], if f then fl.length - 1 else 0⟩) := by show _; intro f; rfl
          have e1 : IntKind.i64.wrap ((fl.length : Int) - 1) = ((fl.length - 1 : Nat) : Int) := by rw [show (fl.length : Int) - 1 = ((fl.length - 1 : Nat) : Int) by omega]; exact IntWalk.i64_in _ (by omega)
          have HPL : ∀ f, Hid (pmc (P.last fl.length f, ⟨some ⟨0, 0, none⟩, 2, none, 0⟩) = pmc (P.last fl.length f, ⟨some ⟨0, 0, none⟩, 2, none, 0⟩)) := fun f => Lib.hid rfl
          clear HPL
          obtain ⟨n1, hn1⟩ : ∃ n1, fl.length - 1 = n1 := ⟨_, rfl⟩
          rw [hn1] at e1 HL1
          have HN1 := Lib.hid hn1
          clear h2 hn1
          cases first
          · have HPC : Hid (∀ g : Nat, pmc (P.last fl.length false, ⟨some ⟨g, 0, none⟩, 2, none, 0⟩) = [.slice (some ⟨g, 0, none⟩) 2 2, .slice none 0 0, .int .i64 0]) := by show _; intro g; rw [HL1.out]; rfl
            go_wp2_with (first | (go_at_call 20; refine (one_any 3 k hm hki _).mono ?_; rw [HV.out, HP1.out, HQ1.out, HC1.out]; rintro e w6 ⟨VA, Vc, rfl, hv, hb⟩; replace O := O.gain hb hv; clear hb hv) | (go_at_call 21; refine (greatest_any V _ (O.arg (x := iE w.heap.size VA Vc V) List.mem_cons_self) (by omega)).mono ?_; rintro e w7 ⟨rfl, rfl⟩) | ((with_reducible refine at_lit 103 ?_); refine wpList_lit_h rfl O 1 (.int .i64 0) info3 Try.underlying33 ([(0, .int .i64 n1), (1, .int .i64 0)]) ([.int .i64 n1, .int .i64 0]) rfl rfl (by decide) (by decide) (by kernel_rfl) ?_; clear O; intro g7 w11 O) | ((with_reducible refine at_alloc 17 ?_); refine wpList_alloc_h O (pm ⟨nilE 1, nilE 1, 0⟩) zero35 ?_; clear O; intro g17 w12 O) | ((with_reducible refine at_store 17 ?_); refine wpList_put_h O 0 ([.slice (some ⟨g7, 0, none⟩) 2 2, .slice none 0 0, .int .i64 0]) rfl rfl rfl size35 (rfl) (by simp [Value.oneCell']) ?_; clear O; intro w13 O) | ((with_reducible refine at_store 109 ?_); refine wpList_set_h O 0 (.int .i64 n1) rfl (by simp) rfl rfl size3 rfl rfl ?_; clear O; intro w14 O; simp only [List.set_cons_zero, List.set_cons_succ] at O) | ((with_reducible refine at_load 111 ?_); refine wpList_rowg_h rfl O 0 rfl rfl Try.underlying35 rfl size35 ?_) | ((with_reducible refine at_lit 112 ?_); refine wpList_lit_h rfl O 3 (.agg (pm ⟨nilE 1, nilE 1, 0⟩).toArray) info35 Try.underlying24 ([(0, .agg ([.slice (some ⟨g7, 0, none⟩) 2 2, .slice none 0 0, .int .i64 0] : List Value).toArray)]) ([.slice (some ⟨g7, 0, none⟩) 2 2, .slice none 0 0, .int .i64 0]) rfl rfl (by decide) (by decide) (by kernel_rfl) ?_; clear O; intro g w15 O) | ((with_reducible refine at_app 113 ?_); refine wpList_app_h rfl O (.agg (pm ⟨nilE 1, nilE 1, 0⟩).toArray) 56 info35b rfl (Nat.succ_pos _) Try.underlying24 rfl (⟨w.heap.size, some ⟨g, 0, none⟩, 1, 1, 3, [.slice (some ⟨g7, 0, none⟩) 2 2, .slice none 0 0, .int .i64 0]⟩) (O.mem (List.mem_cons_self)) rfl rfl (by simp [Value.oneCell']) (by dsimp only; omega) (by decide) ?_; clear O; intro v w16 O))
            go_ret2
            rw [HP2.out, ← HL.out, ← List.map_singleton (f := fun (x : PA) => x.1) (a := (P.last fl.length false, ⟨some ⟨g7, 0, none⟩, 2, none, 0⟩)), ← List.map_append]
            refine retP_done (bs := [(g17, 35, [.slice (some ⟨g7, 0, none⟩) 2 2, .slice none 0 0, .int .i64 0])]) (es := []) ?_
            rw [List.length_append, HKL.out, pmcs_snoc, ents_snoc, HPC.out]
            refine (O.addNil (x := eOf w.heap.size (P.last fl.length false, ⟨some ⟨g7, 0, none⟩, 2, none, 0⟩)) (by simp [eOf, bE, HL1.out]) (by simp [eOf, bE, bools, HL1.out]) (Nat.zero_le _)).pick (fun y hy => ?_)
            simp only [List.append_nil, List.mem_append, List.mem_cons, List.not_mem_nil, or_false] at hy
            rcases hy with hy | rfl | rfl
            · simp [hy]
            · refine List.mem_cons_of_mem _ (List.mem_cons_of_mem _ ?_)
              unfold vOf iE
              rw [HL1.out]
              exact List.mem_cons_self
            · exact List.mem_cons_self
          · have HPC : Hid (∀ g : Nat, pmc (P.last fl.length true, ⟨some ⟨g, 0, none⟩, 2, none, 0⟩) = [.slice (some ⟨g, 0, none⟩) 2 2, .slice none 0 0, .int .i64 (n1 : Nat)]) := by show _; intro g; rw [HL1.out]; rfl
            go_wp2_with (first | (go_at_call 20; refine (one_any 3 k hm hki _).mono ?_; rw [HV.out, HP1.out, HQ1.out, HC1.out]; rintro e w6 ⟨VA, Vc, rfl, hv, hb⟩; replace O := O.gain hb hv; clear hb hv) | (go_at_call 21; refine (greatest_any V _ (O.arg (x := iE w.heap.size VA Vc V) List.mem_cons_self) (by omega)).mono ?_; rintro e w7 ⟨rfl, rfl⟩) | ((with_reducible refine at_lit 103 ?_); refine wpList_lit_h rfl O 1 (.int .i64 0) info3 Try.underlying33 ([(0, .int .i64 n1), (1, .int .i64 0)]) ([.int .i64 n1, .int .i64 0]) rfl rfl (by decide) (by decide) (by kernel_rfl) ?_; clear O; intro g7 w11 O) | ((with_reducible refine at_alloc 17 ?_); refine wpList_alloc_h O (pm ⟨nilE 1, nilE 1, 0⟩) zero35 ?_; clear O; intro g17 w12 O) | ((with_reducible refine at_store 17 ?_); refine wpList_put_h O 0 ([.slice (some ⟨g7, 0, none⟩) 2 2, .slice none 0 0, .int .i64 0]) rfl rfl rfl size35 (rfl) (by simp [Value.oneCell']) ?_; clear O; intro w13 O) | ((with_reducible refine at_store 109 ?_); refine wpList_set_h O 0 (.int .i64 n1) rfl (by simp) rfl rfl size3 rfl rfl ?_; clear O; intro w14 O; simp only [List.set_cons_zero, List.set_cons_succ] at O) | ((with_reducible refine at_load 111 ?_); refine wpList_rowg_h rfl O 0 rfl rfl Try.underlying35 rfl size35 ?_) | ((with_reducible refine at_lit 112 ?_); refine wpList_lit_h rfl O 3 (.agg (pm ⟨nilE 1, nilE 1, 0⟩).toArray) info35 Try.underlying24 ([(0, .agg ([.slice (some ⟨g7, 0, none⟩) 2 2, .slice none 0 0, .int .i64 n1] : List Value).toArray)]) ([.slice (some ⟨g7, 0, none⟩) 2 2, .slice none 0 0, .int .i64 n1]) rfl rfl (by decide) (by decide) (by kernel_rfl) ?_; clear O; intro g w15 O) | ((with_reducible refine at_app 113 ?_); refine wpList_app_h rfl O (.agg (pm ⟨nilE 1, nilE 1, 0⟩).toArray) 56 info35b rfl (Nat.succ_pos _) Try.underlying24 rfl (⟨w.heap.size, some ⟨g, 0, none⟩, 1, 1, 3, [.slice (some ⟨g7, 0, none⟩) 2 2, .slice none 0 0, .int .i64 n1]⟩) (O.mem (List.mem_cons_self)) rfl rfl (by simp [Value.oneCell']) (by dsimp only; omega) (by decide) ?_; clear O; intro v w16 O))
            go_ret2
            rw [HP2.out, ← HL.out, ← List.map_singleton (f := fun (x : PA) => x.1) (a := (P.last fl.length true, ⟨some ⟨g7, 0, none⟩, 2, none, 0⟩)), ← List.map_append]
            refine retP_done (bs := [(g17, 35, [.slice (some ⟨g7, 0, none⟩) 2 2, .slice none 0 0, .int .i64 n1])]) (es := []) ?_
            rw [List.length_append, HKL.out, pmcs_snoc, ents_snoc, HPC.out]
            refine (O.addNil (x := eOf w.heap.size (P.last fl.length true, ⟨some ⟨g7, 0, none⟩, 2, none, 0⟩)) (by simp [eOf, bE, HL1.out]) (by simp [eOf, bE, bools, HL1.out]) (Nat.zero_le _)).pick (fun y hy => ?_)
            simp only [List.append_nil, List.mem_append, List.mem_cons, List.not_mem_nil, or_false] at hy
            rcases hy with hy | rfl | rfl
            · simp [hy]
            · refine List.mem_cons_of_mem _ (List.mem_cons_of_mem _ ?_)
              unfold vOf iE
              rw [HL1.out]
              exact List.mem_cons_self
            · exact List.mem_cons_self
        · have HP2 : Hid (P.list (P.shp m) fl first = (List.range k).map (P.dprim m fl first)) := by show _ = _; rw [HP.out, if_neg h3, List.append_nil]
          by_cases h33 : m = 3
          · have q5 : decide ((2 : Int) ≤ fl.length) = false := by simp; omega
            have q6 : ((m : Int) == 3) = true := by simp; omega
            clear h3 h33
            go_wp2_with (first | (go_at_call 20; refine (one_any m k hm hki _).mono ?_; rw [HV.out, HP1.out, HQ1.out, HC1.out]; rintro e w6 ⟨VA, Vc, rfl, hv, hb⟩; replace O := O.gain hb hv; clear hb hv) | (go_at_call 21; refine (greatest_any V _ (O.arg (x := iE w.heap.size VA Vc V) List.mem_cons_self) (by omega)).mono ?_; rintro e w7 ⟨rfl, rfl⟩))
            go_ret2
            rw [HP2.out, ← HL.out]
            obtain rfl := HKL.out
            exact retP_done (es := []) (O.pick (fun y hy => by rw [List.append_nil] at hy; simp [hy]))
          · have q6 : ((m : Int) == 3) = false := by simp; omega
            clear h3 h33
            go_wp2_with (first | (go_at_call 20; refine (one_any m k hm hki _).mono ?_; rw [HV.out, HP1.out, HQ1.out, HC1.out]; rintro e w6 ⟨VA, Vc, rfl, hv, hb⟩; replace O := O.gain hb hv; clear hb hv) | (go_at_call 21; refine (greatest_any V _ (O.arg (x := iE w.heap.size VA Vc V) List.mem_cons_self) (by omega)).mono ?_; rintro e w7 ⟨rfl, rfl⟩))
            go_ret2
            rw [HP2.out, ← HL.out]
            obtain rfl := HKL.out
            exact retP_done (es := []) (O.pick (fun y hy => by rw [List.append_nil] at hy; simp [hy]))
    · have q7 : ¬ (k : Int) < fl.length := by omega
      obtain rfl : k = N := by omega
      clear HIN
      by_cases h3 : m = 3 ∧ 2 ≤ fl.length
      · obtain ⟨rfl, h2⟩ := h3
        have HP2 : Hid (P.list (P.shp 3) fl first = (List.range k).map (P.dprim 3 fl first) ++ [P.last fl.length first]) := by show _ = _; rw [HP.out, if_pos ⟨rfl, h2⟩]
        have q5 : decide ((2 : Int) ≤ fl.length) = true := by simp; omega
        have HL1 : Hid (∀ f, P.last fl.length f = ⟨[fl.length - 1, 0], [], if f then fl.length - 1 else 0⟩) := by show _; intro f; rfl
        have e1 : IntKind.i64.wrap ((fl.length : Int) - 1) = ((fl.length - 1 : Nat) : Int) := by rw [show (fl.length : Int) - 1 = ((fl.length - 1 : Nat) : Int) by omega]; exact IntWalk.i64_in _ (by omega)
        have HPL : ∀ f, Hid (pmc (P.last fl.length f, ⟨some ⟨0, 0, none⟩, 2, none, 0⟩) = pmc (P.last fl.length f, ⟨some ⟨0, 0, none⟩, 2, none, 0⟩)) := fun f => Lib.hid rfl
        clear HPL
        obtain ⟨n1, hn1⟩ : ∃ n1, fl.length - 1 = n1 := ⟨_, rfl⟩
        rw [hn1] at e1 HL1
        have HN1 := Lib.hid hn1
        clear h2 hn1
        cases first
        · have HPC : Hid (∀ g : Nat, pmc (P.last fl.length false, ⟨some ⟨g, 0, none⟩, 2, none, 0⟩) = [.slice (some ⟨g, 0, none⟩) 2 2, .slice none 0 0, .int .i64 0]) := by show _; intro g; rw [HL1.out]; rfl
          go_wp2_with (first | ((with_reducible refine at_lit 103 ?_); refine wpList_lit_h rfl O 1 (.int .i64 0) info3 Try.underlying33 ([(0, .int .i64 n1), (1, .int .i64 0)]) ([.int .i64 n1, .int .i64 0]) rfl rfl (by decide) (by decide) (by kernel_rfl) ?_; clear O; intro g7 w11 O) | ((with_reducible refine at_alloc 17 ?_); refine wpList_alloc_h O (pm ⟨nilE 1, nilE 1, 0⟩) zero35 ?_; clear O; intro g17 w12 O) | ((with_reducible refine at_store 17 ?_); refine wpList_put_h O 0 ([.slice (some ⟨g7, 0, none⟩) 2 2, .slice none 0 0, .int .i64 0]) rfl rfl rfl size35 (rfl) (by simp [Value.oneCell']) ?_; clear O; intro w13 O) | ((with_reducible refine at_store 109 ?_); refine wpList_set_h O 0 (.int .i64 n1) rfl (by simp) rfl rfl size3 rfl rfl ?_; clear O; intro w14 O; simp only [List.set_cons_zero, List.set_cons_succ] at O) | ((with_reducible refine at_load 111 ?_); refine wpList_rowg_h rfl O 0 rfl rfl Try.underlying35 rfl size35 ?_) | ((with_reducible refine at_lit 112 ?_); refine wpList_lit_h rfl O 3 (.agg (pm ⟨nilE 1, nilE 1, 0⟩).toArray) info35 Try.underlying24 ([(0, .agg ([.slice (some ⟨g7, 0, none⟩) 2 2, .slice none 0 0, .int .i64 0] : List Value).toArray)]) ([.slice (some ⟨g7, 0, none⟩) 2 2, .slice none 0 0, .int .i64 0]) rfl rfl (by decide) (by decide) (by kernel_rfl) ?_; clear O; intro g w15 O) | ((with_reducible refine at_app 113 ?_); refine wpList_app_h rfl O (.agg (pm ⟨nilE 1, nilE 1, 0⟩).toArray) 56 info35b rfl (Nat.succ_pos _) Try.underlying24 rfl (⟨w.heap.size, some ⟨g, 0, none⟩, 1, 1, 3, [.slice (some ⟨g7, 0, none⟩) 2 2, .slice none 0 0, .int .i64 0]⟩) (O.mem (List.mem_cons_self)) rfl rfl (by simp [Value.oneCell']) (by dsimp only; omega) (by decide) ?_; clear O; intro v w16 O))
          go_ret2
          rw [HP2.out, ← HL.out, ← List.map_singleton (f := fun (x : PA) => x.1) (a := (P.last fl.length false, ⟨some ⟨g7, 0, none⟩, 2, none, 0⟩)), ← List.map_append]
          refine retP_done (bs := [(g17, 35, [.slice (some ⟨g7, 0, none⟩) 2 2, .slice none 0 0, .int .i64 0])]) (es := []) ?_
          rw [List.length_append, HKL.out, pmcs_snoc, ents_snoc, HPC.out]
          refine (O.addNil (x := eOf w.heap.size (P.last fl.length false, ⟨some ⟨g7, 0, none⟩, 2, none, 0⟩)) (by simp [eOf, bE, HL1.out]) (by simp [eOf, bE, bools, HL1.out]) (Nat.zero_le _)).pick (fun y hy => ?_)
          simp only [List.append_nil, List.mem_append, List.mem_cons, List.not_mem_nil, or_false] at hy
          rcases hy with hy | rfl | rfl
          · simp [hy]
          · refine List.mem_cons_of_mem _ (List.mem_cons_of_mem _ ?_)
            unfold vOf iE
            rw [HL1.out]
            exact List.mem_cons_self
          · exact List.mem_cons_self
        · have HPC : Hid (∀ g : Nat, pmc (P.last fl.length true, ⟨some ⟨g, 0, none⟩, 2, none, 0⟩) = [.slice (some ⟨g, 0, none⟩) 2 2, .slice none 0 0, .int .i64 (n1 : Nat)]) := by show _; intro g; rw [HL1.out]; rfl
          go_wp2_with (first | ((with_reducible refine at_lit 103 ?_); refine wpList_lit_h rfl O 1 (.int .i64 0) info3 Try.underlying33 ([(0, .int .i64 n1), (1, .int .i64 0)]) ([.int .i64 n1, .int .i64 0]) rfl rfl (by decide) (by decide) (by kernel_rfl) ?_; clear O; intro g7 w11 O) | ((with_reducible refine at_alloc 17 ?_); refine wpList_alloc_h O (pm ⟨nilE 1, nilE 1, 0⟩) zero35 ?_; clear O; intro g17 w12 O) | ((with_reducible refine at_store 17 ?_); refine wpList_put_h O 0 ([.slice (some ⟨g7, 0, none⟩) 2 2, .slice none 0 0, .int .i64 0]) rfl rfl rfl size35 (rfl) (by simp [Value.oneCell']) ?_; clear O; intro w13 O) | ((with_reducible refine at_store 109 ?_); refine wpList_set_h O 0 (.int .i64 n1) rfl (by simp) rfl rfl size3 rfl rfl ?_; clear O; intro w14 O; simp only [List.set_cons_zero, List.set_cons_succ] at O) | ((with_reducible refine at_load 111 ?_); refine wpList_rowg_h rfl O 0 rfl rfl Try.underlying35 rfl size35 ?_) | ((with_reducible refine at_lit 112 ?_); refine wpList_lit_h rfl O 3 (.agg (pm ⟨nilE 1, nilE 1, 0⟩).toArray) info35 Try.underlying24 ([(0, .agg ([.slice (some ⟨g7, 0, none⟩) 2 2, .slice none 0 0, .int .i64 n1] : List Value).toArray)]) ([.slice (some ⟨g7, 0, none⟩) 2 2, .slice none 0 0, .int .i64 n1]) rfl rfl (by decide) (by decide) (by kernel_rfl) ?_; clear O; intro g w15 O) | ((with_reducible refine at_app 113 ?_); refine wpList_app_h rfl O (.agg (pm ⟨nilE 1, nilE 1, 0⟩).toArray) 56 info35b rfl (Nat.succ_pos _) Try.underlying24 rfl (⟨w.heap.size, some ⟨g, 0, none⟩, 1, 1, 3, [.slice (some ⟨g7, 0, none⟩) 2 2, .slice none 0 0, .int .i64 n1]⟩) (O.mem (List.mem_cons_self)) rfl rfl (by simp [Value.oneCell']) (by dsimp only; omega) (by decide) ?_; clear O; intro v w16 O))
          go_ret2
          rw [HP2.out, ← HL.out, ← List.map_singleton (f := fun (x : PA) => x.1) (a := (P.last fl.length true, ⟨some ⟨g7, 0, none⟩, 2, none, 0⟩)), ← List.map_append]
          refine retP_done (bs := [(g17, 35, [.slice (some ⟨g7, 0, none⟩) 2 2, .slice none 0 0, .int .i64 n1])]) (es := []) ?_
          rw [List.length_append, HKL.out, pmcs_snoc, ents_snoc, HPC.out]
          refine (O.addNil (x := eOf w.heap.size (P.last fl.length true, ⟨some ⟨g7, 0, none⟩, 2, none, 0⟩)) (by simp [eOf, bE, HL1.out]) (by simp [eOf, bE, bools, HL1.out]) (Nat.zero_le _)).pick (fun y hy => ?_)
          simp only [List.append_nil, List.mem_append, List.mem_cons, List.not_mem_nil, or_false] at hy
          rcases hy with hy | rfl | rfl
          · simp [hy]
          · refine List.mem_cons_of_mem _ (List.mem_cons_of_mem _ ?_)
            unfold vOf iE
            rw [HL1.out]
            exact List.mem_cons_self
          · exact List.mem_cons_self
      · have HP2 : Hid (P.list (P.shp m) fl first = (List.range k).map (P.dprim m fl first)) := by show _ = _; rw [HP.out, if_neg h3, List.append_nil]
        by_cases h33 : m = 3
        · have q5 : decide ((2 : Int) ≤ fl.length) = false := by simp; omega
          have q6 : ((m : Int) == 3) = true := by simp; omega
          clear h3 h33
          go_wp2_with fail
          go_ret2
          rw [HP2.out, ← HL.out]
          obtain rfl := HKL.out
          exact retP_done (es := []) (O.pick (fun y hy => by rw [List.append_nil] at hy; simp [hy]))
        · have q6 : ((m : Int) == 3) = false := by simp; omega
          clear h3 h33
          go_wp2_with fail
          go_ret2
          rw [HP2.out, ← HL.out]
          obtain rfl := HKL.out
          exact retP_done (es := []) (O.pick (fun y hy => by rw [List.append_nil] at hy; simp [hy]))
end Go.Proofs.Ytadpejblhkcjgaa
