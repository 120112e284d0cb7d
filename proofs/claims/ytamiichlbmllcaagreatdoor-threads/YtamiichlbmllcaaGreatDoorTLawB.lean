import Derived.Test.YtamiichlbmllcaaGreatDoorTChA
import Derived.Test.YtamiichlbmllcaaGreatDoorTRowF
import Derived.SizedLaws
import Derived.Laws.CopyOwn
/-
  The contracts of (machine.Program).Danger and Flow, for every instruction that may stand in a program.
-/
namespace Go.Proofs.YtamiichlbmllcaaGreatDoor
open Go.RowKit
/-- what of a state goes on behind an instruction -/
def flowOn (i : I5) (s : St) : Option St :=
  if i.o = 1 then some (updS s i.a.toNat ⟨i.k, i.k⟩)
  else if i.o = 2 then some (updS s i.a.toNat (s i.b.toNat))
  else if i.o = 3 then some (updS s i.a.toNat (sumR (s i.b.toNat) (s i.c.toNat)))
  else if i.o = 4 then some (updS s i.a.toNat (difR (s i.b.toNat) (s i.c.toNat)))
  else if i.o = 5 then some (updS s i.a.toNat (prodR (s i.b.toNat) (s i.c.toNat)))
  else if i.o = 6 then some (updS s i.a.toNat (quoR (s i.b.toNat) (s i.c.toNat)))
  else if i.o = 7 then some (updS s i.a.toNat allR)
  else if i.o = 8 then some s
  else if i.o = 10 then (if i.a = i.b then some s else narrR s i.a.toNat ⟨max (s i.a.toNat).lo (s i.b.toNat).lo, (s i.a.toNat).hi⟩ i.b.toNat ⟨(s i.b.toNat).lo, min (s i.b.toNat).hi (s i.a.toNat).hi⟩)
  else if i.o = 11 then (if i.a = i.b then none else if oneR (s i.a.toNat) (s i.b.toNat) then none else some s)
  else none
/-- what of a state goes to K -/
def flowFar (i : I5) (s : St) : Option St :=
  if i.o = 9 then some s
  else if i.o = 10 then (if i.a = i.b then none else if (s i.b.toNat).hi = -9223372036854775808 ∨ (s i.a.toNat).lo = 9223372036854775807 then none
    else narrR s i.a.toNat ⟨(s i.a.toNat).lo, min (s i.a.toNat).hi ((s i.b.toNat).hi - 1)⟩ i.b.toNat ⟨max (s i.b.toNat).lo ((s i.a.toNat).lo + 1), (s i.b.toNat).hi⟩)
  else if i.o = 11 then (if i.a = i.b then some s else narrR s i.a.toNat (comR (s i.a.toNat) (s i.b.toNat)) i.b.toNat (comR (s i.a.toNat) (s i.b.toNat)))
  else none
/-- what may go wrong -/
def dangR (i : I5) (s : St) : Int :=
  if i.o = 6 then (if hasR (s i.c.toNat) 0 then 6 else 0)
  else if i.o = 7 then (if inRg (s i.b.toNat) ⟨0, 15⟩ then 0 else 7)
  else if i.o = 8 then (if inRg (s i.a.toNat) ⟨0, 15⟩ then 0 else 7)
  else 0
def St.in64 (s : St) : Prop := ∀ j, j < 8 → (s j).in64
def St.ok (s : St) : Prop := ∀ j, j < 8 → (s j).lo ≤ (s j).hi
theorem ret_i64 {a b : Int} (h : a = b) : Ending.returned (.int .i64 a) = .returned (.int .i64 b) := by rw [h]
theorem danger_any (i : I5) (N : Nat) (hfit : i.fits N = true) (pb cap n at_ : Nat) (hat : at_ < n) (s : St) (w : World) (hi : w.cell? ⟨pb, at_ * 1, none⟩ = some (iVal i)) : Calls Tryz.prog 148 #[.slice (some ⟨pb, 0, none⟩) n cap, .int .i64 at_, .agg (stC s)] w fun e w' => e = .returned (.int .i64 (dangR i s)) ∧ Below w.heap.size w w' := by
  have hc := fit_cases hfit
  obtain ⟨op, a, b, c, k⟩ := i
  simp only at hc
  rcases hc with rfl | ⟨rfl, _⟩ | ⟨rfl, _⟩ | ⟨rfl, _⟩ | ⟨rfl, _⟩ | ⟨rfl, _⟩ | ⟨rfl, ha, hb, hc⟩ | ⟨rfl, ha, hb⟩ | ⟨rfl, ha, hb⟩ | ⟨rfl, _⟩ | ⟨rfl, _⟩ | ⟨rfl, _⟩
  · exact danger_no 199 _ (by decide) (by decide) (by decide) pb cap n at_ hat s w hi
  · exact danger_no 183 _ (by decide) (by decide) (by decide) pb cap n at_ hat s w hi
  · exact danger_no 185 _ (by decide) (by decide) (by decide) pb cap n at_ hat s w hi
  · exact danger_no 187 _ (by decide) (by decide) (by decide) pb cap n at_ hat s w hi
  · exact danger_no 188 _ (by decide) (by decide) (by decide) pb cap n at_ hat s w hi
  · exact danger_no 189 _ (by decide) (by decide) (by decide) pb cap n at_ hat s w hi
  · obtain ⟨c, hc', rfl⟩ := hc.nat
    cases hB : hasR (s c) 0 with
    | true => exact (danger_div6 a b c hc' pb cap n at_ hat s hB w hi).mono fun e w' ⟨h1, h2⟩ => ⟨h1.trans (ret_i64 (by unfold dangR; simp [hB])), h2⟩
    | false => exact (danger_div0 a b c hc' pb cap n at_ hat s hB w hi).mono fun e w' ⟨h1, h2⟩ => ⟨h1.trans (ret_i64 (by unfold dangR; simp [hB])), h2⟩
  · obtain ⟨b, hb', rfl⟩ := hb.nat
    exact danger_load a b hb' pb cap n at_ hat s w hi
  · obtain ⟨a, ha', rfl⟩ := ha.nat
    exact danger_store a b ha' pb cap n at_ hat s w hi
  · exact danger_no 194 _ (by decide) (by decide) (by decide) pb cap n at_ hat s w hi
  · exact danger_no 196 _ (by decide) (by decide) (by decide) pb cap n at_ hat s w hi
  · exact danger_no 197 _ (by decide) (by decide) (by decide) pb cap n at_ hat s w hi
set_option maxHeartbeats 4000000 in
set_option maxRecDepth 100000 in
theorem flow_gen (T f : Nat) (v : Value) (b1 b2 : Bool) (s1 s2 : St) (pb cap n at_ : Nat) (hat : at_ < n) (s : St) (w : World) (hi : w.cell? ⟨pb, at_ * 1, none⟩ = some (.iface T v))
    (hm : ∀ w, (method 367 T v "surety/machine.flow").run Tryz.prog w = .ok (f, v) w)
    (hcf : ∀ w, (callFunc f #[v, .agg (stC s)]).run Tryz.prog w = .ok (.enter f #[v, .agg (stC s)]) w)
    (hcall : Hid (∀ w1, Calls Tryz.prog f #[v, .agg (stC s)] w1 fun e w' => e = .returned (.tuple #[.agg (plC b1 s1), .agg (plC b2 s2)]) ∧ Below w1.heap.size w1 w')) :
    Calls Tryz.prog 119 #[.slice (some ⟨pb, 0, none⟩) n cap, .int .i64 at_, .agg (stC s)] w fun e w' => e = .returned (.tuple #[.agg (plC b1 s1), .agg (plC b2 s2)]) ∧ Below w.heap.size w w' := by
  have hk := Kn.nil [] w
  go_enter Tryz.func119, Tryz.ntmps119
  go_wp2_with (first | ((with_reducible show wpList _ _ _ _ _ _); (first | (refine wS hk ?_; simp only [Act.put, pw]) | (refine wN hk ?_; clear hk; intro w1 hk; simp only [Act.put, pw]) | (refine wT hk ?_; clear hk; intro w1 hk; simp only [Act.put]))))
  (refine wp_regK hk (.op 0 (.op 1 (.op 2 (.op 3 (.op 4 (.op 5 (.op 6 (.op 7 (.op 8 (.op 9 .nil)))))))))) (fun i => decide (i < 8)) mixT (by decide) (by kernel_rfl) (by kernel_rfl) ?_; clear hk; intro w1 hk)
  (repeat (refine sS hk ?_; simp only [Act.put, pw]))
  (refine sCall ?_; intro K hK; go_step; refine (hcall.out _).mono ?_; rintro e w1 ⟨rfl, hb⟩; replace hk := hk.call hb; clear hb; refine hK _ _ (fun _ => hk) ?_; clear hK K)
  (repeat (refine sS hk ?_; simp only [Act.put, pw]))
  (refine sStore hk ?_; clear hk; intro w1 hk; refine ⟨fun h => absurd h (by decide), ?_⟩; simp only [Act.put])
  (refine sStore hk ?_; clear hk; intro w1 hk; refine ⟨fun h => absurd h (by decide), ?_⟩; simp only [Act.put])
  refine tNil ?_
  go_wp2_with (first | ((with_reducible show wpList _ _ _ _ _ _); (first | (refine wS hk ?_; simp only [Act.put, pw]) | (refine wN hk ?_; clear hk; intro w1 hk; simp only [Act.put, pw]) | (refine wT hk ?_; clear hk; intro w1 hk; simp only [Act.put]))))
  exact post_2 rfl (by rfl) (hk.at (by with_reducible repeat (first | exact List.mem_cons_self | apply List.mem_cons_of_mem))) (rowT_of (by rfl)) (by rfl) (by rfl) (hk.at (by with_reducible repeat (first | exact List.mem_cons_self | apply List.mem_cons_of_mem))) (rowT_of (by rfl)) (by rfl) rfl ⟨rfl, hk.mod.below⟩
def FlowP (i : I5) (s : St) : Value := .tuple #[.agg (plC (flowOn i s).isSome (stO (flowOn i s))), .agg (plC (flowFar i s).isSome (stO (flowFar i s)))]
theorem flow_any (i : I5) (N : Nat) (hfit : i.fits N = true) (pb cap n at_ : Nat) (hat : at_ < n) (s : St) (hok : s.ok) (h64 : s.in64) (w : World) (hi : w.cell? ⟨pb, at_ * 1, none⟩ = some (iVal i)) : Calls Tryz.prog 119 #[.slice (some ⟨pb, 0, none⟩) n cap, .int .i64 at_, .agg (stC s)] w fun e w' => e = .returned (FlowP i s) ∧ Below w.heap.size w w' := by
  have hc := fit_cases hfit
  obtain ⟨op, a, b, c, k⟩ := i
  simp only at hc
  rcases hc with rfl | ⟨rfl, ha⟩ | ⟨rfl, ha, hb⟩ | ⟨rfl, ha, hb, hc⟩ | ⟨rfl, ha, hb, hc⟩ | ⟨rfl, ha, hb, hc⟩ | ⟨rfl, ha, hb, hc⟩ | ⟨rfl, ha, hb⟩ | ⟨rfl, ha, hb⟩ | ⟨rfl, hk0, hk1⟩ | ⟨rfl, ha, hb, hk0, hk1⟩ | ⟨rfl, ha, hb, hk0, hk1⟩
  · exact flow_gen 199 205 (.agg #[]) false false (zeroS) (zeroS) pb cap n at_ hat s w hi (fun _ => by kernel_rfl) (fun _ => by kernel_rfl) (hide fun w1 => halt_flow s w1)
  · obtain ⟨a, ha8, rfl⟩ := ha.nat
    exact flow_gen 183 163 (.agg #[.int .i64 a, .int .i64 k]) true false (updS s a ⟨k, k⟩) (zeroS) pb cap n at_ hat s w hi (fun _ => by kernel_rfl) (fun _ => by kernel_rfl) (hide fun w1 => set_flow a k ha8 s w1)
  · obtain ⟨a, ha8, rfl⟩ := ha.nat
    obtain ⟨b, hb8, rfl⟩ := hb.nat
    exact flow_gen 185 168 (.agg #[.int .i64 a, .int .i64 b]) true false (updS s a (s b)) (zeroS) pb cap n at_ hat s w hi (fun _ => by kernel_rfl) (fun _ => by kernel_rfl) (hide fun w1 => move_flow a b ha8 hb8 s w1)
  · obtain ⟨a, ha8, rfl⟩ := ha.nat
    obtain ⟨b, hb8, rfl⟩ := hb.nat
    obtain ⟨c, hc8, rfl⟩ := hc.nat
    exact flow_gen 187 170 (.agg #[.int .i64 a, .int .i64 b, .int .i64 c]) true false (updS s a (sumR (s b) (s c))) (zeroS) pb cap n at_ hat s w hi (fun _ => by kernel_rfl) (fun _ => by kernel_rfl) (hide fun w1 => add_flow a b c ha8 hb8 hc8 s h64 w1)
  · obtain ⟨a, ha8, rfl⟩ := ha.nat
    obtain ⟨b, hb8, rfl⟩ := hb.nat
    obtain ⟨c, hc8, rfl⟩ := hc.nat
    exact flow_gen 188 181 (.agg #[.int .i64 a, .int .i64 b, .int .i64 c]) true false (updS s a (difR (s b) (s c))) (zeroS) pb cap n at_ hat s w hi (fun _ => by kernel_rfl) (fun _ => by kernel_rfl) (hide fun w1 => sub_flow a b c ha8 hb8 hc8 s h64 w1)
  · obtain ⟨a, ha8, rfl⟩ := ha.nat
    obtain ⟨b, hb8, rfl⟩ := hb.nat
    obtain ⟨c, hc8, rfl⟩ := hc.nat
    exact flow_gen 189 185 (.agg #[.int .i64 a, .int .i64 b, .int .i64 c]) true false (updS s a (prodR (s b) (s c))) (zeroS) pb cap n at_ hat s w hi (fun _ => by kernel_rfl) (fun _ => by kernel_rfl) (hide fun w1 => mul_flow a b c ha8 hb8 hc8 s w1)
  · obtain ⟨a, ha8, rfl⟩ := ha.nat
    obtain ⟨b, hb8, rfl⟩ := hb.nat
    obtain ⟨c, hc8, rfl⟩ := hc.nat
    exact flow_gen 190 189 (.agg #[.int .i64 a, .int .i64 b, .int .i64 c]) true false (updS s a (quoR (s b) (s c))) (zeroS) pb cap n at_ hat s w hi (fun _ => by kernel_rfl) (fun _ => by kernel_rfl) (hide fun w1 => div_flow a b c ha8 hb8 hc8 s hok w1)
  · obtain ⟨a, ha8, rfl⟩ := ha.nat
    obtain ⟨b, hb8, rfl⟩ := hb.nat
    exact flow_gen 191 192 (.agg #[.int .i64 a, .int .i64 b]) true false (updS s a allR) (zeroS) pb cap n at_ hat s w hi (fun _ => by kernel_rfl) (fun _ => by kernel_rfl) (hide fun w1 => load_flow a b ha8 s w1)
  · obtain ⟨a, ha8, rfl⟩ := ha.nat
    obtain ⟨b, hb8, rfl⟩ := hb.nat
    exact flow_gen 192 195 (.agg #[.int .i64 a, .int .i64 b]) true false (s) (zeroS) pb cap n at_ hat s w hi (fun _ => by kernel_rfl) (fun _ => by kernel_rfl) (hide fun w1 => store_flow a b s w1)
  · exact flow_gen 194 197 (.agg #[.int .i64 k]) false true (zeroS) (s) pb cap n at_ hat s w hi (fun _ => by kernel_rfl) (fun _ => by kernel_rfl) (hide fun w1 => jump_flow k s w1)
  · obtain ⟨a, ha8, rfl⟩ := ha.nat
    obtain ⟨b, hb8, rfl⟩ := hb.nat
    by_cases hab : a = b
    · subst hab
      have e1 : FlowP ⟨10, a, a, c, k⟩ s = .tuple #[.agg (plC true s), .agg (plC false zeroS)] := by unfold FlowP flowOn flowFar; simp [stO]
      rw [e1]
      exact flow_gen 196 199 (.agg #[.int .i64 a, .int .i64 a, .int .i64 k]) true false s zeroS pb cap n at_ hat s w hi (fun _ => by kernel_rfl) (fun _ => by kernel_rfl) (hide fun w1 => less_one a k s w1)
    · have hne : ¬ ((a : Int) = (b : Int)) := by omega
      have hb1 := h64 b hb8
      have ha1 := h64 a ha8
      unfold R2.in64 I64 at hb1 ha1
      by_cases hB : (s b).hi = -9223372036854775808
      · have e1 : flowFar ⟨10, a, b, c, k⟩ s = none := by unfold flowFar; simp [hne, hB]
        have e2 : flowOn ⟨10, a, b, c, k⟩ s = narrR s a ⟨max (s a).lo (s b).lo, (s a).hi⟩ b ⟨(s b).lo, min (s b).hi (s a).hi⟩ := by unfold flowOn; simp [hne]
        unfold FlowP
        rw [e1, e2]
        exact flow_gen 196 199 (.agg #[.int .i64 a, .int .i64 b, .int .i64 k]) _ false _ zeroS pb cap n at_ hat s w hi (fun _ => by kernel_rfl) (fun _ => by kernel_rfl) (hide fun w1 => less_noB a b k ha8 hb8 hab s (by simpa using hB) w1)
      · by_cases hA : (s a).lo = 9223372036854775807
        · have e1 : flowFar ⟨10, a, b, c, k⟩ s = none := by unfold flowFar; simp [hne, hA]
          have e2 : flowOn ⟨10, a, b, c, k⟩ s = narrR s a ⟨max (s a).lo (s b).lo, (s a).hi⟩ b ⟨(s b).lo, min (s b).hi (s a).hi⟩ := by unfold flowOn; simp [hne]
          unfold FlowP
          rw [e1, e2]
          exact flow_gen 196 199 (.agg #[.int .i64 a, .int .i64 b, .int .i64 k]) _ false _ zeroS pb cap n at_ hat s w hi (fun _ => by kernel_rfl) (fun _ => by kernel_rfl) (hide fun w1 => less_noA a b k ha8 hb8 hab s (by simpa using hB) (by simpa using hA) w1)
        · have e1 : flowFar ⟨10, a, b, c, k⟩ s = narrR s a ⟨(s a).lo, min (s a).hi ((s b).hi - 1)⟩ b ⟨max (s b).lo ((s a).lo + 1), (s b).hi⟩ := by unfold flowFar; simp [hne, hA, hB]
          have e2 : flowOn ⟨10, a, b, c, k⟩ s = narrR s a ⟨max (s a).lo (s b).lo, (s a).hi⟩ b ⟨(s b).lo, min (s b).hi (s a).hi⟩ := by unfold flowOn; simp [hne]
          unfold FlowP
          rw [e1, e2]
          exact flow_gen 196 199 (.agg #[.int .i64 a, .int .i64 b, .int .i64 k]) _ _ _ _ pb cap n at_ hat s w hi (fun _ => by kernel_rfl) (fun _ => by kernel_rfl) (hide fun w1 => less_both a b k ha8 hb8 hab s (by simpa using hB) (by simpa using hA) (by omega) (by omega) (by omega) (by omega) w1)
  · obtain ⟨a, ha8, rfl⟩ := ha.nat
    obtain ⟨b, hb8, rfl⟩ := hb.nat
    by_cases hab : a = b
    · subst hab
      have e1 : FlowP ⟨11, a, a, c, k⟩ s = .tuple #[.agg (plC false zeroS), .agg (plC true s)] := by unfold FlowP flowOn flowFar; simp [stO]
      rw [e1]
      exact flow_gen 197 202 (.agg #[.int .i64 a, .int .i64 a, .int .i64 k]) false true zeroS s pb cap n at_ hat s w hi (fun _ => by kernel_rfl) (fun _ => by kernel_rfl) (hide fun w1 => same_one a k s w1)
    · have hne : ¬ ((a : Int) = (b : Int)) := by omega
      have e1 : flowFar ⟨11, a, b, c, k⟩ s = narrR s a (comR (s a) (s b)) b (comR (s a) (s b)) := by unfold flowFar; simp [hne]
      cases hO : oneR (s a) (s b) with
      | true =>
        have e2 : flowOn ⟨11, a, b, c, k⟩ s = none := by unfold flowOn; simp [hO]
        unfold FlowP
        rw [e1, e2]
        exact flow_gen 197 202 (.agg #[.int .i64 a, .int .i64 b, .int .i64 k]) false _ zeroS _ pb cap n at_ hat s w hi (fun _ => by kernel_rfl) (fun _ => by kernel_rfl) (hide fun w1 => same_alone a b k ha8 hb8 hab s hO w1)
      | false =>
        have e2 : flowOn ⟨11, a, b, c, k⟩ s = some s := by unfold flowOn; simp [hne, hO]
        unfold FlowP
        rw [e1, e2]
        exact flow_gen 197 202 (.agg #[.int .i64 a, .int .i64 b, .int .i64 k]) true _ s _ pb cap n at_ hat s w hi (fun _ => by kernel_rfl) (fun _ => by kernel_rfl) (hide fun w1 => same_both a b k ha8 hb8 hab s hO w1)
end Go.Proofs.YtamiichlbmllcaaGreatDoor
/-
  What the given reading of a state tells.
-/
namespace Go.Proofs.YtamiichlbmllcaaGreatDoor
open Go.ChangeShapes Go.WideShapes Go.ChangeAt Go.RowKit Go.Deep
theorem cRg : Tryz.prog.cellsOf 28 = 2 := by kernel_rfl
theorem cState : Tryz.prog.cellsOf 30 = 16 := by kernel_rfl
section
variable {H : Type} {enc : TypeId × Value → H} {W : World} {base : Nat} {spare : Nat → Bool} {held : Bool}
set_option maxRecDepth 10000 in
theorem read_rg {n : Nat} {cs : List Value} {x : DataW H × List MemPlace} (h : DataW.trod enc Tryz.prog W base spare held n 28 cs = some x) : ∃ r : R2, cs = [.int .i64 r.lo, .int .i64 r.hi] ∧ r.in64 := by
  obtain ⟨xs, m, _, _, hl, hlen, hf⟩ := DataW.trod_struct Tryz.underlying28 h
  rw [cRg] at hl
  replace hlen : xs.length = 2 := hlen
  match cs, hl, xs, hlen with
  | [v0, v1], _, [y0, y1], _ =>
    have g0 := hf 0 _ rfl
    have g1 := hf 1 _ rfl
    simp [cInt] at g0 g1
    obtain ⟨a0, e0, _, w0⟩ := DataW.trod_int Tryz.underlying3 g0
    obtain ⟨a1, e1, _, w1⟩ := DataW.trod_int Tryz.underlying3 g1
    simp at e0 e1
    subst e0 e1
    exact ⟨⟨a0, a1⟩, rfl, wf64 w0, wf64 w1⟩
theorem pick_two {cs : List Value} {j : Nat} {a b : Value} (h : (cs.drop (j * 2)).take 2 = [a, b]) : cs[j * 2]? = some a ∧ cs[j * 2 + 1]? = some b := by
  have h0 := congrArg (fun l => l[0]?) h
  have h1 := congrArg (fun l => l[1]?) h
  simp [List.getElem?_drop] at h0 h1
  exact ⟨h0, h1⟩
set_option maxRecDepth 10000 in
theorem read_st {n : Nat} {cs : List Value} {x : DataW H × List MemPlace} (h : DataW.trod enc Tryz.prog W base spare held n 30 cs = some x) : ∃ s : St, cs = (stC s).toList ∧ s.in64 := by
  obtain ⟨xs, m, _, _, hl, hlen, hf⟩ := DataW.trod_array Tryz.underlying30 h
  rw [cState] at hl
  have each : ∀ j, j < 8 → ∃ r : R2, r.in64 ∧ cs[j * 2]? = some (.int .i64 r.lo) ∧ cs[j * 2 + 1]? = some (.int .i64 r.hi) := by
    intro j hj
    have := hf j hj
    rw [cRg, List.getElem?_eq_getElem (by omega)] at this
    obtain ⟨r, e, h64⟩ := read_rg this
    exact ⟨r, h64, pick_two e⟩
  have : Inhabited R2 := ⟨⟨0, 0⟩⟩
  obtain ⟨q, hq⟩ := choose_lt each
  refine ⟨q, ?_, fun j hj => (hq j hj).1⟩
  have hcs : cs.length = 16 := hl
  apply List.ext_getElem?
  intro j
  by_cases hj : j < 16
  · have h0 := (hq 0 (by omega)).2
    have h1 := (hq 1 (by omega)).2
    have h2 := (hq 2 (by omega)).2
    have h3 := (hq 3 (by omega)).2
    have h4 := (hq 4 (by omega)).2
    have h5 := (hq 5 (by omega)).2
    have h6 := (hq 6 (by omega)).2
    have h7 := (hq 7 (by omega)).2
    match j, hj with
    | 0, _ => exact h0.1
    | 1, _ => exact h0.2
    | 2, _ => exact h1.1
    | 3, _ => exact h1.2
    | 4, _ => exact h2.1
    | 5, _ => exact h2.2
    | 6, _ => exact h3.1
    | 7, _ => exact h3.2
    | 8, _ => exact h4.1
    | 9, _ => exact h4.2
    | 10, _ => exact h5.1
    | 11, _ => exact h5.2
    | 12, _ => exact h6.1
    | 13, _ => exact h6.2
    | 14, _ => exact h7.1
    | 15, _ => exact h7.2
    | j + 16, hj => exact absurd hj (by omega)
  · rw [List.getElem?_eq_none (by omega), List.getElem?_eq_none (by show 16 ≤ j; omega)]
set_option maxRecDepth 100000 in
/-- A STATE THAT CAME IN. -/
theorem open_st {r : Reach} {b0 : Nat} {v : Value} {d : DataW H} {ps : List MemPlace} (hv : Value.okWide Tryz.prog W r b0 30 v) (h : DataW.Trod enc Tryz.prog W base spare held 30 v d ps) : ∃ s : St, v = .agg (stC s) ∧ s.in64 := by
  have hag : ∃ cs, v = .agg cs := by
    simp only [Value.okWide, Tryz.underlying30] at hv
    obtain ⟨cs, h1, _⟩ := hv
    exact ⟨cs, h1⟩
  obtain ⟨cs, rfl⟩ := hag
  obtain ⟨fuel, hf⟩ := h
  obtain ⟨s, e, h64⟩ := read_st hf
  refine ⟨s, ?_, h64⟩
  have e' : cs.toList = (stC s).toList := e
  rw [Array.toList_inj.1 e']
end
end Go.Proofs.YtamiichlbmllcaaGreatDoor
/-
  Laws on append and copy that the statements' helpers want: an append that tells whether it wrote where it stood; a copy of elements of several cells; a row by what each of its cells holds.
-/
namespace Go.Proofs.YtamiichlbmllcaaGreatDoor
open Go.RowKit
/-- either nothing that was there is written, or the list stands where it stood -/
def AppRoom (w w' : World) (v v' : Value) (n m : Nat) : Prop := w.grownBy w' none ∧ (∀ k, v'.ownBlock = some k → w.heap.size ≤ k) ∨ ∃ g cap, v = .slice (some ⟨g, 0, none⟩) n cap ∧ v' = .slice (some ⟨g, 0, none⟩) (n + m) cap
/-- append onto what the call owns: either nothing that was there is written, or it stands where it stood -/
theorem run_append_strong {P : Program} (w : World) (base : Nat) (t ty e : TypeId) (i : TypeInfo) (z : Value) (size bytes : Nat) (ht : P.underlying t = some (.slice e)) (hi : P.info? e = some i) (hz : i.zero = some z)
    (hsize : i.size = size) (hby : i.bytes = bytes) (hzs : z.cells.size = size) (hsz : 0 < size)
    (v : Value) (n : Nat) (xs : List Value) (hown : w.ownsRow base e size v n xs)
    (a : Addr) (m c : Nat) (news : List Value) (hl : news.length = m * size) (hnews : ∀ j u, news[j]? = some u → w.cell? (a.add j) = some u) (h1 : ∀ u ∈ news, u.oneCell' = true)
    (hm : 0 < m) (h63 : n + m ≤ maxLen) (hbytes : (n + m) * bytes ≤ 140737488355328) (hbase : base ≤ w.heap.size) :
    ∃ v' w', (Builtin.append_ #[t, t] ty #[v, .slice (some a) m c]).run P w = .ok v' w' ∧ w'.ownsRow base e size v' (n + m) (xs ++ news) ∧ w.grownBy w' v.ownBlock ∧
      (w.grownBy w' none ∧ (∀ k, v'.ownBlock = some k → w.heap.size ≤ k) ∨ ∃ g cap, v = .slice (some ⟨g, 0, none⟩) n cap ∧ v' = .slice (some ⟨g, 0, none⟩) (n + m) cap) := by
  obtain ⟨v', w', hr, h2, h3, _⟩ := run_append_own (P := P) w base t ty e i z size bytes ht hi hz hsize hby hzs hsz v n xs hown a m c news hl hnews h1 h63 hbytes hbase
  refine ⟨v', w', hr, h2, h3, ?_⟩
  subst hsize
  subst hby
  simp only [maxLen] at h63
  rcases hown.2 with ⟨rfl, rfl⟩ | ⟨g, cap, cur, rfl, _, hg, _, _, hcs, _⟩
  · have eq := run_append_nil (P := P) w t ty e i z ht hi hz a m c news hl hnews hm (by omega) (by rw [Nat.zero_add] at hbytes; omega)
    rw [eq] at hr
    cases hr
    exact Or.inl ⟨⟨rfl, rfl, rfl, by simp, fun k hk _ => Below.heap_alloc w.drew _ k hk⟩, fun k hk => by simp [Value.ownBlock] at hk; omega⟩
  · by_cases hroom : n + m ≤ cap
    · have eq := run_append_room (P := P) w t ty e i ht hi g n cap cur hg a m c news hl hnews h1 hroom (by rw [hl, hcs, ← Nat.add_mul]; exact Nat.mul_le_mul_right _ hroom)
      rw [eq] at hr
      cases hr
      exact Or.inr ⟨g, cap, rfl, rfl⟩
    · have eq := run_append_grow (P := P) w t ty e i z ht hi hz ⟨g, 0, none⟩ n cap xs hown.1 (hown.cells (g := g) rfl) a m c news hl hnews (by omega) (by omega) (growslice_fits (by omega) hbytes)
      rw [eq] at hr
      cases hr
      exact Or.inl ⟨⟨rfl, rfl, rfl, by simp, fun k hk _ => Below.heap_alloc w.drew _ k hk⟩, fun k hk => by simp [Value.ownBlock] at hk; omega⟩
theorem wpList_append_strong {P : Program} (w : World) {ops : Array Oper} {rest : List Oper} {o : Oper} {a : Act} {Q : Exit → Act → World → Prop} (hgd : o.guard = none) (s x : Operand) (t : TypeId)
    (ho : o.op = .call { callee := .builtin .append, args := #[s, x], argTypes := #[t, t] })
    (base : Nat) (e : TypeId) (i : TypeInfo) (z : Value) (size bytes : Nat) (ht : P.underlying t = some (.slice e)) (hi : P.info? e = some i) (hz : i.zero = some z)
    (hsize : i.size = size) (hby : i.bytes = bytes) (hzs : z.cells.size = size) (hsz : 0 < size)
    (v : Value) (n : Nat) (xs : List Value) (hs : a.eval s = v) (hown : w.ownsRow base e size v n xs)
    (ad : Addr) (m c : Nat) (news : List Value) (hx : a.eval x = .slice (some ad) m c) (hl : news.length = m * size) (hnews : ∀ j u, news[j]? = some u → w.cell? (ad.add j) = some u) (h1 : ∀ u ∈ news, u.oneCell' = true)
    (hm : 0 < m) (h63 : n + m ≤ maxLen) (hbytes : (n + m) * bytes ≤ 140737488355328) (hbase : base ≤ w.heap.size)
    (h : ∀ v' w', w'.ownsRow base e size v' (n + m) (xs ++ news) → w.grownBy w' v.ownBlock → AppRoom w w' v v' n m → wpList P ops Q rest (a.put o.dst v') w') : wpList P ops Q (o :: rest) a w := by
  refine wpList_plain hgd fun K hK => ?_
  obtain ⟨v', w', hr, h2, h3, h4⟩ := run_append_strong (P := P) w base t o.type e i z size bytes ht hi hz hsize hby hzs hsz v n xs hown ad m c news hl hnews h1 hm h63 hbytes hbase
  unfold Oper.wp execOp
  simp only [ho, resolve, invoke, builtin, Sem.run_bind, Sem.run_pure, Result.andThen_ok, List.map_toArray, List.map_cons, List.map_nil, hs, hx, hr]
  exact hK _ _ (h v' w' h2 h3 h4)
/-- WHAT ELSE STANDS IN ROWS OF ONE AND THE SAME ELEMENT STAYS SO BEHIND SUCH AN APPEND -/
theorem keep_same {w w' : World} {base e size n m k : Nat} {v v' u : Value} {X : List Value} (hX : X.length = size)
    (hown : w.ownsRow base e size v n (List.replicate n X).flatten) (hown' : w'.ownsRow base e size v' (n + m) (List.replicate (n + m) X).flatten) (hg : w.grownBy w' v.ownBlock)
    (hS : AppRoom w w' v v' n m)
    (hu : w.ownsRow base e size u k (List.replicate k X).flatten) (hk : u.ownBlock = v.ownBlock → k ≤ n + m) : w'.ownsRow base e size u k (List.replicate k X).flatten := by
  rcases hS with ⟨hS, _⟩ | ⟨g, cap, rfl, rfl⟩
  · refine World.ownsRow.kept hu hS ?_
    cases u.ownBlock <;> simp
  · by_cases hb : u.ownBlock = some g
    · have hkn := hk (by rw [hb]; rfl)
      have hown2 := hown
      obtain ⟨_, h2⟩ := hu
      rcases h2 with ⟨rfl, rfl⟩ | ⟨g2, cap2, cur2, rfl, hbase2, hh2, hc1, hc2, hc3, _⟩
      · exact ⟨by simp, Or.inl ⟨rfl, rfl⟩⟩
      · simp [Value.ownBlock] at hb
        subst hb
        rcases hown'.2 with ⟨h0, _⟩ | ⟨g3, cap3, cur3, h3, hbase3, hh3, hd1, hd2, hd3, htake⟩
        · cases h0
        · simp only [Value.slice.injEq, Option.some.injEq, Addr.mk.injEq, and_true] at h3
          obtain ⟨rfl, _, rfl⟩ := h3
          rcases hown2.2 with ⟨h0, _⟩ | ⟨g4, cap4, cur4, h4, _, hh4, _, _, hd4, _⟩
          · cases h0
          · simp only [Value.slice.injEq, Option.some.injEq, Addr.mk.injEq, and_true] at h4
            obtain ⟨rfl, _, rfl⟩ := h4
            rw [hh2] at hh4
            simp at hh4
            have hsz : cur3.size = cap2 * size := by rw [hd3, ← hd4, ← hh4, hc3]
            refine ⟨by simp [hX], Or.inr ⟨g2, cap2, cur3, rfl, hbase2, hh3, hc1, hc2, hsz, ?_⟩⟩
            have : k * size ≤ (n + m) * size := Nat.mul_le_mul_right _ hkn
            rw [← Nat.min_eq_left this, ← List.take_take, htake]
            rw [show n + m = k + (n + m - k) by omega, ← List.replicate_append_replicate, List.flatten_append]
            exact List.take_left' (by simp [hX])
    · refine World.ownsRow.kept hu hg (Or.inr ?_)
      simpa [Value.ownBlock] using hb
/-- copy of a whole slice of elements of several cells, to the head of a row -/
theorem run_copy_wide {P : Program} (w : World) (dT sT ty elem : TypeId) (i : TypeInfo) (g dLen dCap : Nat) (a : Addr) (sLen sCap : Nat) (cur : Array Value) (t : TypeId) (cs : List Value)
    (hu : P.underlying dT = some (.slice elem)) (hi : P.info? elem = some i)
    (hg : w.heap[g]? = some (.cells cur t (0, 0))) (hn : cs.length = sLen * i.size) (hle : sLen ≤ dLen)
    (hsrc : ∀ j v, cs[j]? = some v → w.cell? (a.add j) = some v) (hfit : cs.length ≤ cur.size) (h1 : ∀ v ∈ cs, v.oneCell' = true) :
    (Builtin.copy_ #[dT, sT] ty #[.slice (some ⟨g, 0, none⟩) dLen dCap, .slice (some a) sLen sCap]).run P w =
      .ok (goInt sLen) (w.setRow g (cs ++ cur.toList.drop cs.length).toArray) := by
  have hf := run_firstCells_some (P := P) w i.size sLen a sLen sCap cs hn hsrc
  have hst := run_storeCells_at P g 0 t cs 0 cur w hg (by simpa using hfit) h1
  have hmin : Nat.min sLen dLen = sLen := Nat.min_eq_left hle
  simp [Builtin.copy_, run_underlying hu, Builtin.lenOf, sizeOf, typeInfo, hi, hmin, hf, hst]
theorem wpList_copy_wide {P : Program} {w : World} {ops : Array Oper} {rest : List Oper} {o : Oper} {a : Act} {Q : Exit → Act → World → Prop} (hgd : o.guard = none) (d s : Operand) (dT sT : TypeId)
    (ho : o.op = .call { callee := .builtin .copy, args := #[d, s], argTypes := #[dT, sT] }) (elem : TypeId) (i : TypeInfo) (hu : P.underlying dT = some (.slice elem)) (hi : P.info? elem = some i)
    (g dLen dCap : Nat) (ad : Addr) (sLen sCap : Nat) (hd : a.eval d = .slice (some ⟨g, 0, none⟩) dLen dCap) (hs : a.eval s = .slice (some ad) sLen sCap)
    (n : Nat) (t : TypeId) (f f' : Nat → Value) (hg : RowF w g t n f) (cs : List Value) (hn : cs.length = sLen * i.size) (hle : sLen ≤ dLen)
    (hsrc : ∀ j v, cs[j]? = some v → w.cell? (ad.add j) = some v) (hfit : cs.length ≤ n) (h1 : ∀ v ∈ cs, v.oneCell' = true) (hf : ∀ j, j < n → f' j = if h : j < cs.length then cs[j] else f j)
    (h : ∀ w', RowF w' g t n f' → w.grownBy w' (some g) → wpList P ops Q rest (a.put o.dst (goInt sLen)) w') : wpList P ops Q (o :: rest) a w := by
  refine wpList_plain hgd fun K hK => ?_
  obtain ⟨A, hA, hAn, hAf⟩ := hg
  have hrun := run_copy_wide (P := P) w dT sT o.type elem i g dLen dCap ad sLen sCap A t cs hu hi hA hn hle hsrc (by omega) h1
  unfold Oper.wp
  simp [execOp, ho, resolve, invoke, builtin, hd, hs, hrun, Result.andThen]
  refine hK _ _ (h _ ⟨_, setRow_heap w g A _ t _ hA, by simp; omega, fun j hj => ?_⟩ ⟨rfl, rfl, rfl, by simp [World.setRow], fun k _ hk => setRow_other w g k _ (fun e => hk (by rw [e]))⟩)
  rw [hf j hj]
  by_cases hc : j < cs.length
  · rw [dif_pos hc]; simp [List.getElem?_append_left hc, List.getElem?_eq_getElem hc]
  · rw [dif_neg hc]
    have := hAf j hj
    simp only [List.getElem?_toArray]
    rw [List.getElem?_append_right (by omega), List.getElem?_drop, show cs.length + (j - cs.length) = j by omega]
    simpa using this
end Go.Proofs.YtamiichlbmllcaaGreatDoor
