import Derived.Test.YtamiichlbmllcaaGreatDoorTTkn
import Derived.Test.YtamiichlbmllcaaGreatDoorTChkC
import Derived.Test.YtamiichlbmllcaaGreatDoorTRefA
import Derived.Test.YtamiichlbmllcaaGreatDoorTRowF
import Derived.Laws.CopyOwn
import Derived.Test.YtamiichlbmllcaaGreatDoorTChD
/-
  Moves and assignments whose value is read at once: lists, pointers, pairs.
-/
namespace Go.Proofs.YtamiichlbmllcaaGreatDoor
open Go.RowKit
section
variable {l : List Oper} {Q : Exit → Act → World → Prop} {F : Nat → Bool} {S : World → Prop} {i : Nat} {r : OT} {a : Act} {w : World} {d : Option Tmp} {x y : Operand} {t tt : TypeId} {pos : String} {aft : Array Edge} {g : Option (Nat × Bool)}
set_option maxRecDepth 100000 in
theorem uMoveS {p : Option Addr} {n c : Nat} (hk : S w) (h : wpT Tryz.prog l Q F S r (a.put d (.slice p n c)) w) (ho : nthO i l = some ⟨d, .move x, tt, pos, aft, g⟩ := by rfl) (hw : Region.wanted ⟨d, .move x, tt, pos, aft, g⟩ (yielded l.toArray a.tmps) = true := by rfl) (hx : a.eval x = .slice p n c := by rfl) : wpT Tryz.prog l Q F S (.op i r) a w := sMove hk (by rw [hx]; exact h) ho hw
set_option maxRecDepth 100000 in
theorem uAssignS {p : Option Addr} {n c : Nat} (hk : S w) (h : wpT Tryz.prog l Q F S r (a.put d (.slice p n c)) w) (ho : nthO i l = some ⟨d, .assign x, tt, pos, aft, g⟩ := by rfl) (hw : Region.wanted ⟨d, .assign x, tt, pos, aft, g⟩ (yielded l.toArray a.tmps) = true := by rfl) (hx : a.eval x = .slice p n c := by rfl) : wpT Tryz.prog l Q F S (.op i r) a w := sAssign hk (by rw [hx]; exact h) ho hw
set_option maxRecDepth 100000 in
theorem uMoveP {p : Option Addr} (hk : S w) (h : wpT Tryz.prog l Q F S r (a.put d (.pointer p)) w) (ho : nthO i l = some ⟨d, .move x, tt, pos, aft, g⟩ := by rfl) (hw : Region.wanted ⟨d, .move x, tt, pos, aft, g⟩ (yielded l.toArray a.tmps) = true := by rfl) (hx : a.eval x = .pointer p := by rfl) : wpT Tryz.prog l Q F S (.op i r) a w := sMove hk (by rw [hx]; exact h) ho hw
set_option maxRecDepth 100000 in
theorem uAssignP {p : Option Addr} (hk : S w) (h : wpT Tryz.prog l Q F S r (a.put d (.pointer p)) w) (ho : nthO i l = some ⟨d, .assign x, tt, pos, aft, g⟩ := by rfl) (hw : Region.wanted ⟨d, .assign x, tt, pos, aft, g⟩ (yielded l.toArray a.tmps) = true := by rfl) (hx : a.eval x = .pointer p := by rfl) : wpT Tryz.prog l Q F S (.op i r) a w := sAssign hk (by rw [hx]; exact h) ho hw
set_option maxRecDepth 100000 in
theorem uMoveT {xs : Array Value} (hk : S w) (h : wpT Tryz.prog l Q F S r (a.put d (.tuple xs)) w) (ho : nthO i l = some ⟨d, .move x, tt, pos, aft, g⟩ := by rfl) (hw : Region.wanted ⟨d, .move x, tt, pos, aft, g⟩ (yielded l.toArray a.tmps) = true := by rfl) (hx : a.eval x = .tuple xs := by rfl) : wpT Tryz.prog l Q F S (.op i r) a w := sMove hk (by rw [hx]; exact h) ho hw
end
set_option maxRecDepth 100000 in
theorem sU {l : List Oper} {Q : Exit → Act → World → Prop} {F : Nat → Bool} {S : World → Prop} {r : OT} {a : Act} {w : World} {G : Prop} (hk : S w) (h : G) (t : S w → G → wpT Tryz.prog l Q F S r a w := by intro hk h; first | exact vMoveI hk h | exact vMoveB hk h | exact uMoveS hk h | exact uMoveP hk h | exact uMoveT hk h | exact vAssignI hk h | exact vAssignB hk h | exact uAssignS hk h | exact uAssignP hk h | exact sMove hk h | exact sAssign hk h | exact sExtract hk h | exact sFieldZ hk h | exact sField0 hk h | exact sField hk h | exact sIndexA0 hk h | exact sIndexS0 hk h | exact sIndexA hk h | exact sIndexS hk h | exact sLoadR hk h | exact sLoad1 hk h | exact sOldR hk h | exact sOld1 hk h | exact sOldC hk h | exact sOldG hk h | exact sBuild hk h | exact sPickT hk h | exact sPickF hk h | exact sLss hk h | exact sLeq hk h | exact sGtr hk h | exact sGeq hk h | exact sEql hk h | exact sNot hk h | exact sSkip hk h | exact sSkipA hk h) : wpT Tryz.prog l Q F S r a w := t hk h
end Go.Proofs.YtamiichlbmllcaaGreatDoor
/-
  The contracts of suretylaw.pick, within and halts.
-/
namespace Go.Proofs.YtamiichlbmllcaaGreatDoor
open Go.RowKit
set_option maxHeartbeats 4000000 in
theorem lawPick_any (c : Int) (hc : I64 c) (n : Nat) (hn : 0 < n) (hn2 : n < 4000000000000) (w : World) : Calls Tryz.prog 89 #[.int .i64 c, .int .i64 n] w fun e w' => ∃ i : Nat, i < n ∧ e = .returned (.int .i64 i) ∧ w' = w := by
  unfold I64 at hc
  have hne : ((n : Int) == 0) = false := by rw [beq_eq_false_iff_ne]; omega
  by_cases h : c < 0
  · have R : Hid (∃ i : Nat, i < n ∧ -((c + 1).tmod (n : Int)) = i) := hide (by
      have h1 : 0 ≤ -(c + 1) := by omega
      rw [← Int.neg_tmod]
      have h2 := Int.tmod_lt_of_pos (-(c + 1)) (show (0 : Int) < n by omega)
      have h3 := Int.tmod_nonneg (n : Int) h1
      exact ⟨((-(c + 1)).tmod (n : Int)).toNat, by omega, by omega⟩)
    go_enter Tryz.func89, Tryz.ntmps89
    go_wp2
    go_ret
    obtain ⟨i, h1, h2⟩ := R.out
    exact ⟨i, h1, congrArg (fun z => Ending.returned (Value.int .i64 z)) h2, rfl⟩
  · have R : Hid (∃ i : Nat, i < n ∧ c % (n : Int) = i) := hide (by
      have h2 := Int.emod_lt_of_pos c (show (0 : Int) < n by omega)
      have h3 := Int.emod_nonneg c (show (n : Int) ≠ 0 by omega)
      exact ⟨(c % (n : Int)).toNat, by omega, by omega⟩)
    go_enter Tryz.func89, Tryz.ntmps89
    go_wp2
    go_ret
    obtain ⟨i, h1, h2⟩ := R.out
    exact ⟨i, h1, congrArg (fun z => Ending.returned (Value.int .i64 z)) h2, rfl⟩
theorem hasR_parts {r : R2} {n : Int} : hasR r n = (!decide (n < r.lo) && !decide (r.hi < n)) := by
  unfold hasR
  by_cases h1 : n < r.lo <;> by_cases h2 : r.hi < n <;> simp [h1, h2] <;> omega
set_option maxHeartbeats 8000000 in
set_option maxRecDepth 100000 in
theorem within_any (r : Nat → Int) (s : St) (w : World) : Calls Tryz.prog 90 #[.agg (rgsC r), .agg (stC s)] w fun e w' => e = .returned (.bool (areR r s)) ∧ Below w.heap.size w w' := by
  have hk := Kn.nil [] w
  go_enter Tryz.func90, Tryz.ntmps90
  go_wp2_with (first | ((with_reducible show wpList _ _ _ (⟨some 2, _, _, _, _, _⟩ :: _) _ _); refine wBox hk ?_; clear hk; intro wa hk; simp only [Act.put, pw]) | ((with_reducible show wpList _ _ _ _ _ _); (first | (refine wS hk ?_; simp only [Act.put, pw]) | (refine wN hk ?_; clear hk; intro w1 hk; simp only [Act.put, pw]) | (refine wT hk ?_; clear hk; intro w1 hk; simp only [Act.put]))))
  go_loopw [5] (fun j wr => ∃ n : Nat, n ≤ 8 ∧ j = .int .i64 n ∧ (∀ i, i < n → hasR (s i) (r i) = true) ∧ Kn [] w wr [(wa.heap.size, stC s, 30), (w.heap.size, rgsC r, 42)]) (fun j _ => 8 - (intOf j).toNat)
  case atStart => exact ⟨0, by omega, rfl, fun i hi => by omega, hk⟩
  case round =>
    clear hk
    obtain ⟨n, hn, rfl, hall, hk⟩ := hrel
    have HA := hide hall
    clear hall
    by_cases hlt : n < 8
    · cases h1 : decide (r n < (s n).lo) with
      | true =>
        have HE : Hid (areR r s = false) := hide (areR_no hlt (by rw [hasR_parts, h1]; rfl))
        have H1 := hide h1
        clear h1
        go_wp2_with (first | ((with_reducible show wpList _ _ _ _ _ _); (first | (refine wS hk ?_; simp only [Act.put, pw]) | (refine wN hk ?_; clear hk; intro w1 hk; simp only [Act.put, pw]) | (refine wT hk ?_; clear hk; intro w1 hk; simp only [Act.put]))))
        (refine wp_regK hk (.op 0 (.op 1 (.op 2 (.op 3 (.op 4 (.op 5 (.op 6 (.op 7 (.op 8 (.op 9 (.op 10 (.op 11 (.op 12 (.op 13 (.op 14 (.op 15 (.op 16 (.op 17 .nil)))))))))))))))))) (fun i => decide (i < 18)) mixT (by decide) (by kernel_rfl) (by kernel_rfl) ?_; clear hk; intro w1 hk)
        (repeat (refine sU hk ?_; simp only [Act.put, pw]; (try rw [H1.out])))
        refine tNil ?_
        go_wp2_with (first | ((with_reducible show wpList _ _ _ _ _ _); (first | (refine wS hk ?_; simp only [Act.put, pw]) | (refine wN hk ?_; clear hk; intro w1 hk; simp only [Act.put, pw]) | (refine wT hk ?_; clear hk; intro w1 hk; simp only [Act.put]))))
        go_ret
        exact ⟨ret_bool HE.out.symm, hk.mod.below⟩
      | false =>
        cases h2 : decide ((s n).hi < r n) with
        | true =>
          have HE : Hid (areR r s = false) := hide (areR_no hlt (by rw [hasR_parts, h1, h2]; rfl))
          have H1 := hide h1
          have H2 := hide h2
          clear h1 h2
          go_wp2_with (first | ((with_reducible show wpList _ _ _ _ _ _); (first | (refine wS hk ?_; simp only [Act.put, pw]) | (refine wN hk ?_; clear hk; intro w1 hk; simp only [Act.put, pw]) | (refine wT hk ?_; clear hk; intro w1 hk; simp only [Act.put]))))
          (refine wp_regK hk (.op 0 (.op 1 (.op 2 (.op 3 (.op 4 (.op 5 (.op 6 (.op 7 (.op 8 (.op 9 (.op 10 (.op 11 (.op 12 (.op 13 (.op 14 (.op 15 (.op 16 (.op 17 .nil)))))))))))))))))) (fun i => decide (i < 18)) mixT (by decide) (by kernel_rfl) (by kernel_rfl) ?_; clear hk; intro w1 hk)
          (repeat (refine sU hk ?_; simp only [Act.put, pw]; (try rw [H1.out]); (try rw [H2.out])))
          refine tNil ?_
          go_wp2_with (first | ((with_reducible show wpList _ _ _ _ _ _); (first | (refine wS hk ?_; simp only [Act.put, pw]) | (refine wN hk ?_; clear hk; intro w1 hk; simp only [Act.put, pw]) | (refine wT hk ?_; clear hk; intro w1 hk; simp only [Act.put]))))
          go_ret
          exact ⟨ret_bool HE.out.symm, hk.mod.below⟩
        | false =>
          have HE : Hid (hasR (s n) (r n) = true) := hide (by rw [hasR_parts, h1, h2]; rfl)
          have H1 := hide h1
          have H2 := hide h2
          clear h1 h2
          go_wp2_with (first | ((with_reducible show wpList _ _ _ _ _ _); (first | (refine wS hk ?_; simp only [Act.put, pw]) | (refine wN hk ?_; clear hk; intro w1 hk; simp only [Act.put, pw]) | (refine wT hk ?_; clear hk; intro w1 hk; simp only [Act.put]))))
          (refine wp_regK hk (.op 0 (.op 1 (.op 2 (.op 3 (.op 4 (.op 5 (.op 6 (.op 7 (.op 8 (.op 9 (.op 10 (.op 11 (.op 12 (.op 13 (.op 14 (.op 15 (.op 16 (.op 17 .nil)))))))))))))))))) (fun i => decide (i < 18)) mixT (by decide) (by kernel_rfl) (by kernel_rfl) ?_; clear hk; intro w1 hk)
          (repeat (refine sU hk ?_; simp only [Act.put, pw]; (try rw [H1.out]); (try rw [H2.out])))
          refine tNil ?_
          go_wp2_with (first | ((with_reducible show wpList _ _ _ _ _ _); (first | (refine wS hk ?_; simp only [Act.put, pw]) | (refine wN hk ?_; clear hk; intro w1 hk; simp only [Act.put, pw]) | (refine wT hk ?_; clear hk; intro w1 hk; simp only [Act.put]))))
          go_roundw
          case rel => exact ⟨n + 1, by omega, by go_num, fun i hi => by rcases Nat.lt_succ_iff_lt_or_eq.1 hi with h | h; exact HA.out i h; subst h; exact HE.out, hk⟩
          case measure => simp [intOf]; omega
    · have HE : Hid (areR r s = true) := hide (areR_yes fun i hi => HA.out i (by omega))
      go_wp2_with (first | ((with_reducible show wpList _ _ _ _ _ _); (first | (refine wS hk ?_; simp only [Act.put, pw]) | (refine wN hk ?_; clear hk; intro w1 hk; simp only [Act.put, pw]) | (refine wT hk ?_; clear hk; intro w1 hk; simp only [Act.put]))))
      go_ret
      exact ⟨ret_bool HE.out.symm, hk.mod.below⟩
def haL : List I5 := [⟨0, 0, 0, 0, 0⟩]
def haE : St := fun j => if j = 0 then ⟨3, 4⟩ else ⟨0, 0⟩
theorem ha_check : scheckR haL haE [] = (0, 0) := by kernel_rfl
theorem ha_right : rightR haL = (0, 0) := by kernel_rfl
theorem ha_in : In64 haL haE [] := ⟨fun i hi => by match i, hi with | 0, _ => exact ⟨by decide, by decide⟩ | j + 1, hj => simp [haL] at hj, fun j _ => by unfold haE R2.in64 I64; split <;> simp, fun i hi => by simp at hi⟩
theorem ha_checkR : (checkR haL haE []).1 = 0 := by kernel_rfl
theorem ha_taken : Taken haL (layR []) haE := ((right_fit ha_right).taken ha_in ha_checkR).1
def haR (x : Int) : Nat → Int := fun j => if j = 0 then x else 0
theorem ha_3 : areR (haR 3) haE = true := by kernel_rfl
theorem ha_5 : areR (haR 5) haE = false := by kernel_rfl
theorem areR_inS {r : Nat → Int} {s : St} (h : areR r s = true) : inS r s := fun j hj => by
  have := List.all_eq_true.1 h j (List.mem_range.2 hj)
  unfold hasR at this
  have h2 := of_decide_eq_true this
  exact h2
theorem ha_run : runO haL (haR 3) 9 = ⟨1, 0, 3, 1⟩ := by kernel_rfl
theorem build_ha (w : World) : (Instr.build 30 [(0, .agg #[.int .i64 3, .int .i64 4])].toArray).run Tryz.prog w = .ok (.agg (stC haE)) w := run_build w _ _ _ (by kernel_rfl)
theorem build_hr (x : Int) (w : World) : (Instr.build 42 [(0, .int .i64 x)].toArray).run Tryz.prog w = .ok (.agg (rgsC (haR x))) w := run_build w _ _ _ (by kernel_rfl)
/-- what is known of the little thread -/
theorem ha_all : ∃ (E : St) (R3 R5 : Nat → Int), (∀ w : World, (Instr.build 30 [(0, .agg #[.int .i64 3, .int .i64 4])].toArray).run Tryz.prog w = .ok (.agg (stC E)) w) ∧ (∀ w : World, (Instr.build 42 [(0, .int .i64 3)].toArray).run Tryz.prog w = .ok (.agg (rgsC R3)) w) ∧ (∀ w : World, (Instr.build 42 [(0, .int .i64 5)].toArray).run Tryz.prog w = .ok (.agg (rgsC R5)) w) ∧ In64 haL E [] ∧ scheckR haL E [] = (0, 0) ∧ Taken haL (layR []) E ∧ areR R3 E = true ∧ areR R5 E = false ∧ runO haL R3 9 = ⟨1, 0, 3, 1⟩ :=
  ⟨haE, haR 3, haR 5, build_ha, build_hr 3, build_hr 5, ha_in, ha_check, ha_taken, ha_3, ha_5, ha_run⟩
set_option maxHeartbeats 8000000 in
set_option maxRecDepth 100000 in
theorem halts_any (w : World) (hs : Shapes w) : Calls Tryz.prog 17 #[] w fun x w' => x = .returned (.bool true) ∧ Below w.heap.size w w' := by
  obtain ⟨E, R3, R5, h1, h2, h3, h4, h5, h6, h7, h8, h9⟩ := ha_all
  have B1 := hide h1
  have B3 := hide h2
  have B5 := hide h3
  have HIN := hide h4
  have HCK := hide h5
  have HTK := hide h6
  have HA3 := hide h7
  have HA5 := hide h8
  have HRU := hide h9
  clear h1 h2 h3 h4 h5 h6 h7 h8 h9
  have hk := Kn.nil [] w
  have HS := hide hs
  clear hs
  go_enter Tryz.func17, Tryz.ntmps17
  go_wp2_with (first | (refine wKnAlloc hk ?_; clear hk; intro w1 hk) | (refine wBuild hk ?_ (hb := B1.out _); simp only [Act.put, pw]) | ((with_reducible show wpList _ _ _ _ _ _); (first | (refine wS hk ?_; simp only [Act.put, pw]) | (refine wN hk ?_; clear hk; intro w1 hk; simp only [Act.put, pw]) | (refine wT hk ?_; clear hk; intro w1 hk; simp only [Act.put]))))
  go_at_call 28
  refine (compile_ok haL E [] HIN.out (by decide) _ _ _ (HS.out.below hk.mod.below HS.out.1) (slc_one (hk.at List.mem_cons_self)) (Or.inl ⟨⟨_, _, rfl⟩, rfl⟩) HCK.out (right_fit ha_right)).mono ?_
  rintro x w2 ⟨t, rfl, hT, hb⟩
  replace hk := hk.call hb
  obtain ⟨pb, cap, hT1, hT2, _, _⟩ := hT.ex
  have HB2 := hide hk.mod.below
  have HT1 := hide hT1
  have HT2 := hide hT2
  clear hb hT hT1 hT2 hk
  have hk := Kn.nil [] w2
  go_wp2_with (first | (refine wBuild hk ?_ (hb := B3.out _); simp only [Act.put, pw]) | (refine wBuild hk ?_ (hb := B5.out _); simp only [Act.put, pw]) | ((with_reducible show wpList _ _ _ _ _ _); (first | (refine wS hk ?_; simp only [Act.put, pw]) | (refine wN hk ?_; clear hk; intro w1 hk; simp only [Act.put, pw]) | (refine wT hk ?_; clear hk; intro w1 hk; simp only [Act.put]))))
  go_at_call 29
  refine (thread_ok t pb cap haL (right_fit ha_right) E (layR []) HTK.out R3 9 _ (HT1.out.mod hk.mod List.not_mem_nil) (HT2.out.mod hk.mod) HA3.out (areR_inS HA3.out)).mono ?_
  rintro x w3 ⟨rfl, hb⟩
  replace hk := hk.call hb
  clear hb
  rw [HRU.out]
  unfold O4.val
  go_wp2_with (first | (refine wBuild hk ?_ (hb := B3.out _); simp only [Act.put, pw]) | (refine wBuild hk ?_ (hb := B5.out _); simp only [Act.put, pw]) | ((with_reducible show wpList _ _ _ _ _ _); (first | (refine wS hk ?_; simp only [Act.put, pw]) | (refine wN hk ?_; clear hk; intro w1 hk; simp only [Act.put, pw]) | (refine wT hk ?_; clear hk; intro w1 hk; simp only [Act.put]))))
  go_at_call 29
  refine (thread_no t pb cap haL.length E R5 9 _ (HT1.out.mod hk.mod List.not_mem_nil) HA5.out).mono ?_
  rintro x w4 ⟨rfl, hb⟩
  replace hk := hk.call hb
  clear hb
  go_wp2_with (first | ((with_reducible show wpList _ _ _ _ _ _); (first | (refine wS hk ?_; simp only [Act.put, pw]) | (refine wN hk ?_; clear hk; intro w1 hk; simp only [Act.put, pw]) | (refine wT hk ?_; clear hk; intro w1 hk; simp only [Act.put]))))
  go_ret
  exact ⟨rfl, HB2.out.trans (hk.mod.below.mono HB2.out.size)⟩
end Go.Proofs.YtamiichlbmllcaaGreatDoor
/-
  The document's answer: the contract of (*suretyref.Eye).number.
-/
namespace Go.Proofs.YtamiichlbmllcaaGreatDoor
open Go.RowKit
def EyeAt (w : World) (eb : Nat) (s : ByteArray) (bad : Bool) : Prop := w.heap[eb]? = some (.cells #[.string s, .bool bad] 215 (0, 0))
theorem EyeAt.cell {w : World} {eb : Nat} {s : ByteArray} {bad : Bool} (h : EyeAt w eb s bad) : w.cell? ⟨eb, 0, none⟩ = some (.string s) ∧ w.cell? ⟨eb, 1, none⟩ = some (.bool bad) ∧ w.frozen? ⟨eb, 0, none⟩ = false ∧ w.frozen? ⟨eb, 1, none⟩ = false := by
  unfold EyeAt at h
  refine ⟨by rw [cell_of_row _ _ _ _ _ _ h]; rfl, by rw [cell_of_row _ _ _ _ _ _ h]; rfl, ?_, ?_⟩
  · simp [World.frozen?, h]
  · simp [World.frozen?, h]
theorem grown_set (w : World) (g off : Nat) (u : Value) : w.grownBy (w.setCell ⟨g, off, none⟩ u) (some g) :=
  ⟨rfl, rfl, rfl, by simp [World.setCell], fun k _ hk => Below.heap_setCell w _ u k (fun e => hk (by rw [e]))⟩
theorem u64_back (n b : Nat) (h : 256 * n + b < 18446744073709551616) : IntKind.u64.wrap (IntKind.u64.wrap (256 * (n : Int)) + IntKind.u64.wrap (b : Int)) = ((256 * n + b : Nat) : Int) := by
  simp only [IntKind.wrap_u64]; omega
theorem leNat_drop (l : List UInt8) (j : Nat) (h : j < l.length) : leNat (l.drop j) = 256 * leNat (l.drop (j + 1)) + l[j].toNat := by
  rw [List.drop_eq_getElem_cons h, leNat]; omega
theorem leNat_drop_lt (l : List UInt8) (j : Nat) (h8 : l.length ≤ 8) : leNat (l.drop j) < 18446744073709551616 := by
  have h1 := leNat_lt (l.drop j)
  have h2 := pow_le8 (j := (l.drop j).length) (by rw [List.length_drop]; omega)
  omega
/-- what number answers, and what it leaves -/
def eyeN (l : List UInt8) (needed : Bool) (size : Nat) : Int := if needed = true ∧ size ≤ l.length then wrap64 (leNat (l.take size)) else 0
def eyeRest (l : List UInt8) (needed : Bool) (size : Nat) : List UInt8 := if needed = true ∧ size ≤ l.length then l.drop size else l
def eyeBad (l : List UInt8) (bad needed : Bool) (size : Nat) : Bool := if needed = true ∧ ¬ size ≤ l.length then true else bad
set_option maxHeartbeats 4000000 in
theorem number_yes (eb size : Nat) (s : ByteArray) (bad : Bool) (w : World) (h : EyeAt w eb s bad) (h1 : 1 ≤ size) (h8 : size ≤ 8) (hs : size ≤ s.size) :
    Calls Tryz.prog 112 #[.pointer (some ⟨eb, 0, none⟩), .bool true, .int .i64 size] w fun e w' => e = .returned (.int .i64 (wrap64 (leNat (s.data.toList.take size)))) ∧ EyeAt w' eb (s.extract size s.size) bad ∧ w.grownBy w' (some eb) := by
  obtain ⟨c0, c1, f0, f1⟩ := h.cell
  have hL : (s.data.toList.take size).length = size := take_len s size hs
  go_enter Tryz.func112, Tryz.ntmps112
  go_wp2_with fail
  go_loop [7, 8] (fun n i => ∃ j : Nat, j ≤ size ∧ i = .int .i64 ((j : Int) - 1) ∧ n = .int .u64 (leNat ((s.data.toList.take size).drop j))) (fun _ i => (intOf i + 1).toNat)
  case atStart => exact ⟨size, by omega, rfl, by rw [List.drop_of_length_le (by omega)]; rfl⟩
  case round =>
    obtain ⟨j, hj, rfl, rfl⟩ := hrel
    by_cases hj0 : j = 0
    · subst hj0
      go_wp2
      go_ret
      refine ⟨rfl, ?_, grown_set _ _ _ _⟩
      unfold EyeAt at h ⊢
      rw [set_block h]; rfl
    · obtain ⟨i, rfl⟩ : ∃ i, j = i + 1 := ⟨j - 1, by omega⟩
      have hi : i < s.size := by omega
      have HD := hide (leNat_drop (s.data.toList.take size) i (by omega))
      have HE : Hid ((s.data.toList.take size)[i]'(by omega) = s[i]) := hide (by rw [List.getElem_take]; rfl)
      have HB := hide (leNat_drop_lt (s.data.toList.take size) i (by omega))
      have HK : Hid (IntKind.u64.wrap (IntKind.u64.wrap (256 * ((leNat ((s.data.toList.take size).drop (i + 1)) : Nat) : Int)) + IntKind.u64.wrap (s[i].toNat : Int)) = ((leNat ((s.data.toList.take size).drop i) : Nat) : Int)) := hide (by
        have := HD.out
        have hb := HB.out
        rw [HE.out] at this
        rw [u64_back _ _ (by omega), this])
      go_wp2
      exact ⟨⟨i, by omega, rfl, by rw [HK.out]⟩, by simp [intOf]⟩
set_option maxHeartbeats 1600000 in
theorem number_short (eb size : Nat) (s : ByteArray) (bad : Bool) (w : World) (h : EyeAt w eb s bad) (hs : s.size < size) (_h8 : size ≤ 8) :
    Calls Tryz.prog 112 #[.pointer (some ⟨eb, 0, none⟩), .bool true, .int .i64 size] w fun e w' => e = .returned (.int .i64 0) ∧ EyeAt w' eb s true ∧ w.grownBy w' (some eb) := by
  obtain ⟨c0, c1, f0, f1⟩ := h.cell
  go_enter Tryz.func112, Tryz.ntmps112
  go_wp2
  go_ret
  refine ⟨rfl, ?_, grown_set _ _ _ _⟩
  unfold EyeAt at h ⊢
  rw [set_block h]; rfl
set_option maxHeartbeats 1600000 in
theorem number_none (p : Value) (size : Int) (w : World) :
    Calls Tryz.prog 112 #[p, .bool false, .int .i64 size] w fun e w' => e = .returned (.int .i64 0) ∧ w = w' := by
  go_enter Tryz.func112, Tryz.ntmps112
  go_wp2
  go_ret
  exact ⟨rfl, rfl⟩
theorem number_any (eb size : Nat) (nd : Bool) (s : ByteArray) (bad : Bool) (w : World) (h : EyeAt w eb s bad) (h1 : nd = true → 1 ≤ size) (h8 : size ≤ 8) :
    Calls Tryz.prog 112 #[.pointer (some ⟨eb, 0, none⟩), .bool nd, .int .i64 size] w fun e w' => e = .returned (.int .i64 (eyeN s.data.toList nd size)) ∧ (∃ s', s'.data.toList = eyeRest s.data.toList nd size ∧ EyeAt w' eb s' (eyeBad s.data.toList bad nd size)) ∧ w.grownBy w' (some eb) := by
  have hlen : s.data.toList.length = s.size := by rw [Array.length_toList]; rfl
  cases nd
  · refine (number_none _ _ w).mono ?_
    rintro e w' ⟨rfl, rfl⟩
    refine ⟨ret_int (by simp [eyeN]), ⟨s, by simp [eyeRest], by simpa [eyeBad] using h⟩, ⟨rfl, rfl, rfl, Nat.le_refl _, fun _ _ _ => rfl⟩⟩
  · by_cases hs : size ≤ s.size
    · refine (number_yes eb size s bad w h (h1 rfl) h8 hs).mono ?_
      rintro e w' ⟨rfl, he, hg⟩
      refine ⟨ret_int (by unfold eyeN; rw [if_pos ⟨rfl, by omega⟩]), ⟨s.extract size s.size, ?_, ?_⟩, hg⟩
      · rw [Lib.extract_to_end]; unfold eyeRest; rw [if_pos ⟨rfl, by omega⟩]
      · have : eyeBad s.data.toList bad true size = bad := by unfold eyeBad; rw [if_neg (fun hh => hh.2 (by omega))]
        rw [this]; exact he
    · refine (number_short eb size s bad w h (by omega) h8).mono ?_
      rintro e w' ⟨rfl, he, hg⟩
      refine ⟨ret_int (by unfold eyeN; rw [if_neg (fun hh => by have := hh.2; omega)]), ⟨s, ?_, ?_⟩, hg⟩
      · unfold eyeRest; rw [if_neg (fun hh => by have := hh.2; omega)]
      · have : eyeBad s.data.toList bad true size = true := by unfold eyeBad; rw [if_pos ⟨rfl, by omega⟩]
        rw [this]; exact he
end Go.Proofs.YtamiichlbmllcaaGreatDoor
/-
  The statements' own helpers: contracts of num, mark, sameProgram, lent, back (package suretylaw).
-/
namespace Go.Proofs.YtamiichlbmllcaaGreatDoor
open Go.RowKit
def mrkI (n : Nat) : Int := -1000 - ((n / 4 : Nat) : Int)
set_option maxHeartbeats 1600000 in
theorem mark_any (n : Nat) (w : World) (h : n < 1000000000000000) :
    Calls Tryz.prog 57 #[.int .i64 n] w fun e w' => e = .returned (.int .i64 (mrkI n)) ∧ w = w' := by
  go_enter Tryz.func57, Tryz.ntmps57
  go_wp2
  go_ret
  exact ⟨rfl, rfl⟩
theorem Slc.pos {w : World} {v : Value} {l : List I5} (h : Slc w v l) (hl : 0 < l.length) : ∃ b off cap, v = .slice (some ⟨b, off, none⟩) l.length cap ∧ b < w.heap.size ∧ ∀ i (h : i < l.length), InsAt w b (off + i * 5) l[i] := by
  rcases h with ⟨_, rfl⟩ | h
  · simp at hl
  · exact h
set_option maxHeartbeats 1600000 in
theorem sameProgram_nil (a1 a2 : Option Addr) (c1 c2 : Nat) (w : World) :
    Calls Tryz.prog 82 #[.slice a1 0 c1, .slice a2 0 c2] w fun e w' => e = .returned (.bool true) ∧ Below w.heap.size w w' := by
  go_enter Tryz.func82, Tryz.ntmps82
  go_wp2_with fail
  refine wp_loop_rounds 1 ?_
  rw [rounds_succ]
  go_wp2
  go_ret
  exact ⟨rfl, Below.refl _ _⟩
set_option maxHeartbeats 1600000 in
theorem sameProgram_eq (l : List I5) (va vb : Value) (w : World) (ha : Slc w va l) (hb : Slc w vb l) (hl : l.length < 9223372036854775808) :
    Calls Tryz.prog 82 #[va, vb] w fun e w' => e = .returned (.bool true) ∧ Below w.heap.size w w' := by
  by_cases h0 : l.length = 0
  · obtain ⟨a1, c1, rfl⟩ := ha.len
    obtain ⟨a2, c2, rfl⟩ := hb.len
    rw [h0]
    exact sameProgram_nil a1 a2 c1 c2 w
  · obtain ⟨b1, o1, c1, rfl, hb1, hi1⟩ := ha.pos (by omega)
    obtain ⟨b2, o2, c2, rfl, hb2, hi2⟩ := hb.pos (by omega)
    have d1 : ((l.length : Int) != l.length) = false := by simp
    go_enter Tryz.func82, Tryz.ntmps82
    go_wp2_with fail
    go_loopw [5] (fun j wr => ∃ n : Nat, n ≤ l.length ∧ j = .int .i64 n ∧ Below w.heap.size w wr) (fun j _ => l.length - (intOf j).toNat)
    case atStart => exact ⟨0, by omega, rfl, Below.refl _ _⟩
    case round =>
      obtain ⟨n, hn, rfl, hbl⟩ := hrel
      by_cases hlt : n < l.length
      · obtain ⟨a0, a1, a2, a3, a4⟩ := (hi1 n hlt).below hbl hb1
        obtain ⟨e0, e1, e2, e3, e4⟩ := (hi2 n hlt).below hbl hb2
        go_wp2_with fail
        go_quiet (fail)
        go_wp2
        exact ⟨⟨n + 1, by omega, by go_num, below_drewN hbl _⟩, by simp [intOf]; omega⟩
      · go_wp2
        go_ret
        exact ⟨rfl, hbl⟩
end Go.Proofs.YtamiichlbmllcaaGreatDoor
/-
  The drawer: what it holds, and the contract of (*suretylaw.drawer).program.
-/
namespace Go.Proofs.YtamiichlbmllcaaGreatDoor
open Go.RowKit
/-- a list of lists that came out: each reads as its owner left it -/
def DList (w : World) (B st et size : Nat) (X : Nat → List Value) (v : Value) (xs : List Value) : Prop :=
  w.ownsRow B st 1 v xs.length xs ∧ xs.length % 4 = 0 ∧ ∀ k (h : k < xs.length), ∃ m, m ≤ 1000 ∧ w.ownsRow B et size xs[k] m (List.replicate m (X k)).flatten
theorem own_base {w : World} {B B' e size n : Nat} {v : Value} {xs : List Value} (h : w.ownsRow B e size v n xs) (hB : B' ≤ B) : w.ownsRow B' e size v n xs := by
  refine ⟨h.1, ?_⟩
  rcases h.2 with h2 | ⟨g, cap, cur, h3, h4, h5⟩
  · exact Or.inl h2
  · exact Or.inr ⟨g, cap, cur, h3, by omega, h5⟩
/-- a row stays as it is where its block does -/
theorem own_block {w w' : World} {B e size n : Nat} {v : Value} {xs : List Value} (h : w.ownsRow B e size v n xs) (hb : ∀ k, v.ownBlock = some k → (∃ A, w.heap[k]? = some (.cells A e (0, 0))) → w'.heap[k]? = w.heap[k]?) : w'.ownsRow B e size v n xs := by
  refine ⟨h.1, ?_⟩
  rcases h.2 with h2 | ⟨g, cap, cur, rfl, h4, hh, h5⟩
  · exact Or.inl h2
  · exact Or.inr ⟨g, cap, cur, rfl, h4, by rw [hb g rfl ⟨cur, hh⟩]; exact hh, h5⟩
/-- what is left of the world below 'base': all but one block and one row -/
structure Fr (w w' : World) (base wb : Nat) (row : Option Nat) : Prop where
  os : w'.os = w.os
  tape : w'.tape = w.tape
  output : w'.output = w.output
  size : w.heap.size ≤ w'.heap.size
  block : ∀ k, k < base → k ≠ wb → some k ≠ row → w'.heap[k]? = w.heap[k]?
def markC (k : Nat) : List Value := [.int .i64 (mrkI k), .int .i64 0, .int .i64 0, .int .i64 0, .int .i64 0]
def xI (m : Int) : I5 := ⟨m, 0, 0, 0, 0⟩
theorem rep_flat (m : Int) (n : Nat) : (List.replicate n (xI m)).flatMap I5.cells = (List.replicate n [Value.int .i64 m, .int .i64 0, .int .i64 0, .int .i64 0, .int .i64 0]).flatten := by
  rw [List.flatMap_def, List.map_replicate]; rfl
theorem mrkI_same (n k : Nat) (h : n % 4 = 0) (h1 : n ≤ k) (h2 : k < n + 4) : mrkI k = mrkI n := by unfold mrkI; omega
theorem set_flat (L : List I5) (i : Nat) (x : I5) (hi : i < L.length) :
    (((((L.flatMap I5.cells).set (i * 5) (.int .i64 x.o)).set (i * 5 + 1) (.int .i64 x.a)).set (i * 5 + 2) (.int .i64 x.b)).set (i * 5 + 3) (.int .i64 x.c)).set (i * 5 + 4) (.int .i64 x.k) = (L.set i x).flatMap I5.cells := by
  apply List.ext_getElem?
  intro j
  by_cases hj : j < L.length * 5
  · have hd : j / 5 < L.length := by omega
    have hm : j % 5 < 5 := Nat.mod_lt _ (by omega)
    have hje : j = j / 5 * 5 + j % 5 := by omega
    have r : ((L.set i x).flatMap I5.cells)[j]? = ((L.set i x)[j / 5]'(by simpa using hd)).cells[j % 5]? := by
      have := flat_cells (L.set i x) (j / 5) (j % 5) (by simpa using hd) hm
      rw [← hje] at this; exact this
    have o : (L.flatMap I5.cells)[j]? = L[j / 5].cells[j % 5]? := by
      have := flat_cells L (j / 5) (j % 5) hd hm
      rw [← hje] at this; exact this
    have hfl := flat_len5 L
    rw [r]
    simp only [List.getElem?_set, List.length_set]
    by_cases e : j / 5 = i
    · have : j % 5 = 0 ∨ j % 5 = 1 ∨ j % 5 = 2 ∨ j % 5 = 3 ∨ j % 5 = 4 := by omega
      rw [List.getElem_set, if_pos e.symm]
      rcases this with h | h | h | h | h <;> rw [h] <;> simp only [I5.cells] <;> repeat (first | rw [if_pos (by omega)] | rw [if_neg (by omega)])
      all_goals rfl
    · rw [List.getElem_set, if_neg (Ne.symm e)]
      repeat rw [if_neg (by omega)]
      exact o
  · rw [List.getElem?_eq_none (by simp only [List.length_set]; rw [flat_len5]; omega), List.getElem?_eq_none (by rw [flat_len5]; simp; omega)]
/-- an instruction stored into a list of the call's own -/
theorem own_set5 {w : World} {base g n cap : Nat} {L : List I5} (h : OwnI w base (.slice (some ⟨g, 0, none⟩) n cap) L) (hn : n = L.length) (i : Nat) (x : I5) (hi : i < L.length) :
    OwnI (((((w.setCell ⟨g, i * 5, none⟩ (.int .i64 x.o)).setCell ⟨g, i * 5 + 1, none⟩ (.int .i64 x.a)).setCell ⟨g, i * 5 + 2, none⟩ (.int .i64 x.b)).setCell ⟨g, i * 5 + 3, none⟩ (.int .i64 x.c)).setCell ⟨g, i * 5 + 4, none⟩ (.int .i64 x.k)) base (.slice (some ⟨g, 0, none⟩) n cap) (L.set i x) := by
  unfold OwnI at *
  rw [← set_flat L i x hi, List.length_set]
  subst hn
  exact ((((h.stored _ _).1.stored _ _).1.stored _ _).1.stored _ _).1.stored _ _ |>.1
theorem Tryz.infoSl : (Tryz.prog.info? 26).map (fun i => (i.zero, i.size, i.bytes)) = some (some (.slice none 0 0), 1, 24) := by kernel_rfl
def XC (M : Int) : List Value := [.int .i64 M, .int .i64 0, .int .i64 0, .int .i64 0, .int .i64 0]
def rep (M : Int) (n : Nat) : List Value := (List.replicate n (XC M)).flatten
theorem rep_len (M : Int) (n : Nat) : (rep M n).length = n * 5 := by simp [rep, XC]
theorem rep_add (M : Int) (n m : Nat) : rep M n ++ rep M m = rep M (n + m) := by unfold rep; rw [← List.flatten_append, List.replicate_append_replicate]
theorem rep_one (M : Int) (n : Nat) : ∀ u ∈ rep M n, u.oneCell' = true := by
  intro u hu
  simp only [rep, List.mem_flatten, List.mem_replicate] at hu
  obtain ⟨l, ⟨_, rfl⟩, hu⟩ := hu
  simp [XC] at hu
  rcases hu with rfl | rfl <;> rfl
theorem row_new (w : World) (A : Array Value) (t : TypeId) (g : Nat) (news : List Value) (hg : g = w.heap.size) (hA : A.toList = news) : ∀ j u, news[j]? = some u → (w.alloc (.cells A t)).cell? ((⟨g, 0, none⟩ : Addr).add j) = some u := by
  subst hg; subst hA
  intro j u hj
  rw [addr_add, Nat.zero_add, cell_of_row _ _ _ _ _ _ (heap_alloc_new w _)]
  simpa using hj
theorem own_len {w : World} {B e size n : Nat} {v : Value} {xs : List Value} (h : w.ownsRow B e size v n xs) : ∃ a c, v = .slice a n c := by
  rcases h.2 with ⟨h1, h2⟩ | ⟨g, cap, cur, h1, _⟩
  · exact ⟨none, 0, by rw [h1, h2]⟩
  · exact ⟨_, _, h1⟩
/-- while the four lists are made -/
structure PSt (w wr : World) (base xb : Nat) (M : Int) (vl : Value) (N : Nat) : Prop where
  own : wr.ownsRow base 62 5 vl N (rep M N)
  box : wr.heap[xb]? = some (.cells #[.int .i64 M, .int .i64 0, .int .i64 0, .int .i64 0, .int .i64 0] 62 (0, 0))
  bel : Below base w wr
  hbx : base ≤ xb
  hne : ∀ k, vl.ownBlock = some k → k < xb
  hbs : base ≤ wr.heap.size
theorem PSt.step {w wr w' : World} {base xb : Nat} {M : Int} {vl v' : Value} {N m : Nat} {o : Obj} (h : PSt w wr base xb M vl N) (hown : w'.ownsRow base 62 5 v' (N + m) (rep M N ++ rep M m)) (hg : (wr.alloc o).grownBy w' vl.ownBlock)
    (hS : AppRoom (wr.alloc o) w' vl v' N m) :
    PSt w w' base xb M vl N ∧ w'.ownsRow base 62 5 v' (N + m) (rep M (N + m)) ∧ ∀ (u : Value) (k : Nat), wr.ownsRow base 62 5 u k (rep M k) → (u.ownBlock = vl.ownBlock → k ≤ N + m) → w'.ownsRow base 62 5 u k (rep M k) := by
  rw [rep_add] at hown
  have hk : ∀ (u : Value) (k : Nat), wr.ownsRow base 62 5 u k (rep M k) → (u.ownBlock = vl.ownBlock → k ≤ N + m) → w'.ownsRow base 62 5 u k (rep M k) :=
    fun u k hu hle => keep_same (X := XC M) rfl (World.ownsRow.alloc h.own o) hown hg hS (World.ownsRow.alloc hu o) hle
  have hbx := lt_of_block h.box
  refine ⟨⟨hk vl N h.own (fun _ => by omega), ?_, (h.bel.alloc h.hbs o).grown hg (by have := h.hbs; simp; omega) (fun k hk => (World.ownsRow.lt h.own k hk).1), h.hbx, h.hne, ?_⟩, hown, hk⟩
  · rw [hg.block xb (by simp; omega) (fun e => by have := h.hne xb e.symm; omega), Below.heap_alloc _ _ _ hbx]; exact h.box
  · have h1 := hg.size; have h2 := h.hbs; simp at h1; omega
theorem PSt.cells {w wr : World} {base xb : Nat} {M : Int} {vl : Value} {N : Nat} (h : PSt w wr base xb M vl N) : wr.cell? ⟨xb, 0, none⟩ = some (.int .i64 M) ∧ wr.cell? ⟨xb, 1, none⟩ = some (.int .i64 0) ∧ wr.cell? ⟨xb, 2, none⟩ = some (.int .i64 0) ∧ wr.cell? ⟨xb, 3, none⟩ = some (.int .i64 0) ∧ wr.cell? ⟨xb, 4, none⟩ = some (.int .i64 0) := by
  refine ⟨?_, ?_, ?_, ?_, ?_⟩ <;> rw [cell_of_row _ _ _ _ _ _ h.box] <;> rfl
theorem PSt.len {w wr : World} {base xb : Nat} {M : Int} {vl : Value} {N : Nat} (h : PSt w wr base xb M vl N) : ∃ a c, vl = .slice a N c := by
  rcases h.own.2 with ⟨h1, h2⟩ | ⟨g, cap, cur, h1, _⟩
  · exact ⟨none, 0, by rw [h1, h2]⟩
  · exact ⟨_, _, h1⟩
set_option maxHeartbeats 16000000 in
set_option maxRecDepth 100000 in
theorem prog_any (wb B base : Nat) (lv vd vv vc vl : Value) (xs : List Value) (L : List I5) (w : World) (hw : w.heap[wb]? = some (.cells #[lv, vd, vv, vc] 39 (0, 0)))
    (hd : DList w B 26 62 5 markC vd xs) (hn : xs.length < 5000000000000) (hl : OwnI w base vl L) (hB : B ≤ base) (hbs : base ≤ w.heap.size) (hwb : wb < base) (hvd : ∀ k, vd.ownBlock = some k → k < base) (hold : ∀ k (h : k < xs.length) b, xs[k].ownBlock = some b → b < base) (hL : L.length ≤ 900) :
    Calls Tryz.prog 83 #[.pointer (some ⟨wb, 1, none⟩), vl] w fun e w' => e = .returned (.tuple #[]) ∧ ∃ vd' xs', xs'.length = xs.length + 4 ∧ w'.heap[wb]? = some (.cells #[lv, vd', vv, vc] 39 (0, 0)) ∧ DList w' B 26 62 5 markC vd' xs' ∧ Fr w w' base wb vd.ownBlock := by
  obtain ⟨i0, ihi, ih0, ihs, ih2⟩ := info_parts Tryz.infoIns
  obtain ⟨j0, jhi, jh0, jhs, jh2⟩ := info_parts Tryz.infoSl
  have q1 : w.cell? ⟨wb, 1, none⟩ = some vd := by rw [cell_of_row _ _ _ _ _ _ hw]; rfl
  obtain ⟨hd1, hd2, hd3⟩ := hd
  obtain ⟨ad, cd, hvde⟩ : ∃ a c, vd = .slice a xs.length c := by
    rcases hd1.2 with ⟨h, h2⟩ | ⟨g, cap, cur, h, _⟩
    · exact ⟨none, 0, by rw [h, h2]⟩
    · exact ⟨_, _, h⟩
  obtain ⟨al, cl, hvl⟩ := hl.slc.len
  have HVD := hide hvde
  rw [hvde] at q1
  clear hvde
  subst hvl
  go_enter Tryz.func83, Tryz.ntmps83
  go_wp2_with fail
  refine (mark_any _ _ (by omega)).mono ?_
  rintro e w' ⟨rfl, rfl⟩
  obtain ⟨M, hM⟩ : ∃ M, M = mrkI xs.length := ⟨_, rfl⟩
  rw [← hM]
  have HM := hide hM
  clear hM
  go_wp2_with fail
  generalize hW : w.alloc (.cells #[.int .i64 M, .int .i64 0, .int .i64 0, .int .i64 0, .int .i64 0] 62) = w1
  have hX1 : w1.heap[w.heap.size]? = some (.cells #[.int .i64 M, .int .i64 0, .int .i64 0, .int .i64 0, .int .i64 0] 62 (0, 0)) := by rw [← hW]; exact heap_alloc_new _ _
  have hb1 : Below base w w1 := by rw [← hW]; exact (Below.refl _ _).alloc hbs _
  have hl1 : OwnI w1 base (.slice al L.length cl) L := by rw [← hW]; exact World.ownsRow.alloc hl _
  have hs1 : w.heap.size + 1 ≤ w1.heap.size := by rw [← hW]; simp
  have hlt1 : ∀ k, (Value.slice al L.length cl).ownBlock = some k → k < w.heap.size := fun k hk => (World.ownsRow.lt hl k hk).2
  have HLT := hide hlt1
  clear hW hlt1 hl q1
  go_loopw [5] (fun j wr => ∃ n : Nat, n ≤ L.length ∧ j = .int .i64 n ∧ OwnI wr base (.slice al L.length cl) (List.replicate n (xI M) ++ L.drop n) ∧ wr.heap[w.heap.size]? = some (.cells #[.int .i64 M, .int .i64 0, .int .i64 0, .int .i64 0, .int .i64 0] 62 (0, 0)) ∧ Below base w wr ∧ w.heap.size + 1 ≤ wr.heap.size) (fun j _ => L.length - (intOf j).toNat)
  case atStart => exact ⟨0, by omega, rfl, by simpa using hl1, hX1, hb1, hs1⟩
  case round =>
    clear hl1 hX1 hb1 hs1
    obtain ⟨n, hnl, rfl, hown, hX, hbl, hsz⟩ := hrel
    by_cases hlt : n < L.length
    · have hg : ∃ g, al = some ⟨g, 0, none⟩ ∧ base ≤ g ∧ g < wr.heap.size ∧ ∀ j, wr.frozen? ⟨g, j, none⟩ = false := by
        rcases hown.2 with ⟨h, h2⟩ | ⟨g, cap, cur, h, hb, hh, _⟩
        · simp at h2; omega
        · simp only [Value.slice.injEq] at h
          exact ⟨g, h.1, hb, lt_of_block hh, fun j => by simp [World.frozen?, hh]⟩
      obtain ⟨g, rfl, hbg, hgl, hfz⟩ := hg
      have hgx : g < w.heap.size := HLT.out g rfl
      have x0 : wr.cell? ⟨w.heap.size, 0, none⟩ = some (.int .i64 M) := by rw [cell_of_row _ _ _ _ _ _ hX]; rfl
      have x1 : wr.cell? ⟨w.heap.size, 1, none⟩ = some (.int .i64 0) := by rw [cell_of_row _ _ _ _ _ _ hX]; rfl
      have x2 : wr.cell? ⟨w.heap.size, 2, none⟩ = some (.int .i64 0) := by rw [cell_of_row _ _ _ _ _ _ hX]; rfl
      have x3 : wr.cell? ⟨w.heap.size, 3, none⟩ = some (.int .i64 0) := by rw [cell_of_row _ _ _ _ _ _ hX]; rfl
      have x4 : wr.cell? ⟨w.heap.size, 4, none⟩ = some (.int .i64 0) := by rw [cell_of_row _ _ _ _ _ _ hX]; rfl
      have hlen : (List.replicate n (xI M) ++ L.drop n).length = L.length := by simp; omega
      obtain ⟨y, c0, c1, c2, c3, c4⟩ : ∃ y : I5, InsAt wr g (n * 5) y := by
        refine ⟨(List.replicate n (xI M) ++ L.drop n)[n]'(by omega), ?_⟩
        rcases hown.slc with ⟨_, h⟩ | ⟨b', off', cap', h, _, hii⟩
        · rw [h] at hlen; simp at hlen; omega
        · simp only [Value.slice.injEq, Option.some.injEq, Addr.mk.injEq, and_true] at h
          obtain ⟨⟨rfl, rfl⟩, _⟩ := h
          have := hii n (by omega)
          rw [Nat.zero_add] at this
          exact this
      have f0 := hfz (n * 5)
      have f1 := hfz (n * 5 + 1)
      have f2 := hfz (n * 5 + 2)
      have f3 := hfz (n * 5 + 3)
      have f4 := hfz (n * 5 + 4)
      have HO := hide (own_set5 hown hlen.symm n (xI M) (by omega))
      have hset : (List.replicate n (xI M) ++ L.drop n).set n (xI M) = List.replicate (n + 1) (xI M) ++ L.drop (n + 1) := by
        rw [List.set_append_right _ _ (by simp), List.length_replicate, Nat.sub_self, List.drop_eq_getElem_cons hlt, List.set_cons_zero, List.replicate_succ', List.append_assoc]; rfl
      rw [hset] at HO
      have HB := hide (below_set5 hbl hbg (n * 5) (n * 5 + 1) (n * 5 + 2) (n * 5 + 3) (n * 5 + 4) (.int .i64 M) (.int .i64 0) (.int .i64 0) (.int .i64 0) (.int .i64 0))
      clear hfz hlen hset hown
      go_wp2
      go_roundw
      case rel =>
        refine ⟨n + 1, by omega, by go_num, HO.out, ?_, HB.out, by simpa using hsz⟩
        rw [Below.heap_setCell _ _ _ _ (by simp; omega), Below.heap_setCell _ _ _ _ (by simp; omega), Below.heap_setCell _ _ _ _ (by simp; omega), Below.heap_setCell _ _ _ _ (by simp; omega), Below.heap_setCell _ _ _ _ (by simp; omega)]; exact hX
      case measure => simp [intOf]; omega
    · have P0 : PSt w wr base w.heap.size M (.slice al L.length cl) L.length := by
        refine ⟨?_, hX, hbl, hbs, HLT.out, by omega⟩
        have en : n = L.length := by omega
        subst en
        have := hown
        unfold OwnI at this
        rw [List.drop_length, List.append_nil, rep_flat, List.length_replicate] at this
        exact this
      clear hown hX hbl
      obtain ⟨x0, x1, x2, x3, x4⟩ := P0.cells
      have hbs0 := P0.hbs
      go_wp2_with (at_builtin; go_must (refine wpList_append_strong _ rfl (.tmp 26) (.tmp 28) 26 rfl base 62 i0 _ 5 40 Tryz.underlying26 ihi ih0 ihs ih2 rfl (by decide) (.slice al L.length cl) L.length (rep M L.length) rfl ?o1 ⟨wr.heap.size, 0, none⟩ 1 1 (rep M 1) rfl rfl ?n1 (rep_one M 1) (by omega) ?m1 ?b1 ?s1 ?_))
      case o1 => exact World.ownsRow.alloc P0.own _
      case n1 => exact row_new _ _ _ _ _ rfl rfl
      case m1 => unfold maxLen; omega
      case b1 => omega
      case s1 => simp; omega
      intro va wa hva hga hSa
      obtain ⟨P1, oa, _⟩ := P0.step hva hga hSa
      obtain ⟨aa, ca, rfl⟩ := own_len oa
      clear hva hga hSa P0 x0 x1 x2 x3 x4 hbs0
      obtain ⟨x0, x1, x2, x3, x4⟩ := P1.cells
      have hbs1 := P1.hbs
      go_wp2_with (at_builtin; go_must (refine wpList_append_strong _ rfl (.tmp 30) (.tmp 33) 26 rfl base 62 i0 _ 5 40 Tryz.underlying26 ihi ih0 ihs ih2 rfl (by decide) (.slice al L.length cl) L.length (rep M L.length) rfl ?o2 ⟨wa.heap.size, 0, none⟩ 2 2 (rep M 2) rfl rfl ?n2 (rep_one M 2) (by omega) ?m2 ?b2 ?s2 ?_))
      case o2 => exact World.ownsRow.alloc P1.own _
      case n2 => exact row_new _ _ _ _ _ rfl rfl
      case m2 => unfold maxLen; omega
      case b2 => omega
      case s2 => simp; omega
      intro vb wb2 hvb hgb hSb
      obtain ⟨P2, ob, kb⟩ := P1.step hvb hgb hSb
      obtain ⟨ab, cb, rfl⟩ := own_len ob
      have oa := kb _ (L.length + 1) oa (fun _ => by omega)
      clear hvb hgb hSb P1 x0 x1 x2 x3 x4 hbs1 kb
      obtain ⟨x0, x1, x2, x3, x4⟩ := P2.cells
      have hbs2 := P2.hbs
      go_wp2_with (at_builtin; go_must (refine wpList_append_strong _ rfl (.tmp 35) (.tmp 39) 26 rfl base 62 i0 _ 5 40 Tryz.underlying26 ihi ih0 ihs ih2 rfl (by decide) (.slice al L.length cl) L.length (rep M L.length) rfl ?o3 ⟨wb2.heap.size, 0, none⟩ 3 3 (rep M 3) rfl rfl ?n3 (rep_one M 3) (by omega) ?m3 ?b3 ?s3 ?_))
      case o3 => exact World.ownsRow.alloc P2.own _
      case n3 => exact row_new _ _ _ _ _ rfl rfl
      case m3 => unfold maxLen; omega
      case b3 => omega
      case s3 => simp; omega
      intro vc3 wc hvc hgc hSc
      obtain ⟨P3, oc, kc⟩ := P2.step hvc hgc hSc
      obtain ⟨ac, cc, rfl⟩ := own_len oc
      have oa := kc _ (L.length + 1) oa (fun _ => by omega)
      have ob := kc _ (L.length + 2) ob (fun _ => by omega)
      clear hvc hgc hSc P2 x0 x1 x2 x3 x4 hbs2 kc
      have hbs3 := P3.hbs
      have hwc : wc.heap[wb]? = some (.cells #[lv, vd, vv, vc] 39 (0, 0)) := by rw [P3.bel.block wb hwb]; exact hw
      have hwlt := lt_of_block hwc
      have q1 : wc.cell? ⟨wb, 1, none⟩ = some (.slice ad xs.length cd) := by rw [cell_of_row _ _ _ _ _ _ hwc, ← HVD.out]; rfl
      have fz : wc.frozen? ⟨wb, 1, none⟩ = false := by simp [World.frozen?, hwc]
      have hdc : wc.ownsRow B 26 1 (.slice ad xs.length cd) xs.length xs := by
        rw [← HVD.out]; exact own_block hd1 (fun k hk _ => P3.bel.block k (hvd k hk))
      go_wp2_with (at_builtin; go_must (refine wpList_append_own _ rfl (.tmp 45) (.tmp 50) 33 rfl B 26 j0 _ 1 24 Tryz.underlying33 jhi jh0 jhs jh2 rfl (by decide) (.slice ad xs.length cd) xs.length xs rfl ?o4 ⟨wc.heap.size, 0, none⟩ 4 4 [.slice al L.length cl, .slice aa (L.length + 1) ca, .slice ab (L.length + 2) cb, .slice ac (L.length + 3) cc] rfl rfl ?n4 ?u4 ?m4 ?b4 ?s4 ?_))
      case o4 => exact World.ownsRow.alloc hdc _
      case n4 => exact row_new _ _ _ _ _ rfl rfl
      case u4 => intro u hu; simp at hu; rcases hu with rfl | rfl | rfl | rfl <;> rfl
      case m4 => unfold maxLen; omega
      case b4 => omega
      case s4 => simp; omega
      intro vd' wd hvd' hgd' _
      obtain ⟨ad', cd', rfl⟩ := own_len hvd'
      have hneb : ∀ (k : Nat) (A : Array Value), wc.heap[k]? = some (Obj.cells A 62 (0, 0)) → wd.heap[k]? = wc.heap[k]? := by
        intro k A hk
        have hlt := lt_of_block hk
        rw [hgd'.block k (by simp; omega) ?_, Below.heap_alloc _ _ _ hlt]
        intro hx
        rcases hdc.2 with ⟨h, _⟩ | ⟨g, cap, cur, h, _, hh, _⟩
        · rw [h] at hx; cases hx
        · rw [h] at hx
          simp [Value.ownBlock] at hx
          subst hx
          rw [hk] at hh; simp at hh
      have hwd : wd.heap[wb]? = some (.cells #[lv, vd, vv, vc] 39 (0, 0)) := by
        rw [hgd'.block wb (by simp; omega) ?_, Below.heap_alloc _ _ _ hwlt]
        · exact hwc
        · intro hx
          rcases hdc.2 with ⟨h, _⟩ | ⟨g, cap, cur, h, _, hh, _⟩
          · rw [h] at hx; cases hx
          · rw [h] at hx
            simp [Value.ownBlock] at hx
            subst hx
            rw [hwc] at hh; simp at hh
      have q2 : wd.cell? ⟨wb, 1, none⟩ = some vd := by rw [cell_of_row _ _ _ _ _ _ hwd]; rfl
      have fz2 : wd.frozen? ⟨wb, 1, none⟩ = false := by simp [World.frozen?, hwd]
      have hsd := hgd'.size
      simp at hsd
      clear q1 fz
      have HN := hide hneb
      have HP3 := hide P3
      clear hneb P3
      go_wp2
      go_end0
      have P3 := HP3.out
      have keep : ∀ (k : Nat) (A : Array Value), wc.heap[k]? = some (Obj.cells A 62 (0, 0)) → (wd.setCell ⟨wb, 1, none⟩ (.slice ad' (xs.length + 4) cd')).heap[k]? = wc.heap[k]? := by
        intro k A hk
        rw [Below.heap_setCell _ _ _ _ (fun e => by simp at e; subst e; rw [hwc] at hk; simp at hk)]
        exact HN.out k A hk
      have kl : ∀ (u : Value) (m : Nat), wc.ownsRow base 62 5 u m (rep M m) → (wd.setCell ⟨wb, 1, none⟩ (.slice ad' (xs.length + 4) cd')).ownsRow B 62 5 u m (rep M m) := fun u m hu =>
        own_base (own_block hu (fun k _ ⟨A, hA⟩ => keep k A hA)) hB
      refine ⟨rfl, .slice ad' (xs.length + 4) cd', xs ++ [.slice al L.length cl, .slice aa (L.length + 1) ca, .slice ab (L.length + 2) cb, .slice ac (L.length + 3) cc], by simp, ?_, ⟨?_, ?_, ?_⟩, ?_⟩
      · rw [set_block hwd]; rfl
      · rw [List.length_append]
        refine own_block hvd' (fun k hk ⟨A, hA⟩ => Below.heap_setCell _ _ _ _ (fun e => ?_))
        simp at e
        subst e
        rw [hwd] at hA; simp at hA
      · simp; omega
      · intro k hk
        by_cases hk2 : k < xs.length
        · obtain ⟨m, hm, ho⟩ := hd3 k hk2
          refine ⟨m, hm, ?_⟩
          rw [List.getElem_append_left hk2]
          exact own_block ho (fun b hb ⟨A, hA⟩ => (keep b A (by rw [P3.bel.block b (hold k hk2 b hb)]; exact hA)).trans (P3.bel.block b (hold k hk2 b hb)))
        · have hmk : markC k = XC M := by
            have := mrkI_same xs.length k hd2 (by omega) (by simp at hk; omega)
            unfold markC XC; rw [this, HM.out]
          rw [hmk]
          simp at hk
          have : k = xs.length ∨ k = xs.length + 1 ∨ k = xs.length + 2 ∨ k = xs.length + 3 := by omega
          rcases this with rfl | rfl | rfl | rfl
          · refine ⟨L.length, by omega, ?_⟩
            rw [List.getElem_append_right (by omega)]
            simpa [rep] using kl _ _ P3.own
          · refine ⟨L.length + 1, by omega, ?_⟩
            rw [List.getElem_append_right (by omega)]
            simpa [rep] using kl _ _ oa
          · refine ⟨L.length + 2, by omega, ?_⟩
            rw [List.getElem_append_right (by omega)]
            simpa [rep] using kl _ _ ob
          · refine ⟨L.length + 3, by omega, ?_⟩
            rw [List.getElem_append_right (by omega)]
            simpa [rep] using kl _ _ oc
      · refine ⟨hgd'.os.trans P3.bel.os, hgd'.tape.trans P3.bel.tape, hgd'.output.trans P3.bel.output, ?_, fun k hk1 hk2 hk3 => ?_⟩
        · have := P3.bel.size; simp [World.setCell]; omega
        · rw [Below.heap_setCell _ _ _ _ (by exact hk2), hgd'.block k (by simp; omega) (by rw [← HVD.out]; exact hk3), Below.heap_alloc _ _ _ (by omega)]
          exact P3.bel.block k hk1
end Go.Proofs.YtamiichlbmllcaaGreatDoor
