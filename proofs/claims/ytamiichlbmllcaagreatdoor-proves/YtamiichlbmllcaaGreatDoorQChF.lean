import Derived.Test.YtamiichlbmllcaaGreatDoorQRfA
import Derived.Test.YtamiichlbmllcaaGreatDoorQRegL
import Derived.Test.YtamiichlbmllcaaGreatDoorQRfI
/-
  suretyref.less.
-/
namespace Go.Proofs.YtamiichlbmllcaaGreatDoor
open Go.RowKit
theorem Kn.pick01 {M : List Nat} {w0 w : World} {r0 r1 r2 r3 r4 r5 r6 : Nat × Array Value × TypeId} (h : Kn M w0 w [r0, r1, r2, r3, r4, r5, r6]) : Kn M w0 w [r0, r1] := h.sub (.cons_cons _ (.cons_cons _ (.cons _ (.cons _ (.cons _ (.cons _ (.cons _ .slnil)))))))
theorem wp_reg01 {P : Program} {id : Nat} {l : List Oper} {Q : Exit → Act → World → Prop} {a : Act} {w : World} {M : List Nat} {w0 : World} {r0 r1 r2 r3 r4 r5 r6 : Nat × Array Value × TypeId} (hk : Kn M w0 w [r0, r1, r2, r3, r4, r5, r6]) (t : OT) (F : Nat → Bool) (hm : P.follows .mixedOrders = true) (hn : t.size ≤ l.length) (hsel : Region.noSelect l.toArray = true)
    (hv : okT l.toArray F t (Array.replicate l.length false) = true) (h : ∀ w1, Kn M w0 w1 [r0, r1, r2, r3, r4, r5, r6] → wpT P l Q F (fun wx => Kn M w0 wx [r0, r1]) t a w1) : (Code.region id l.toArray true).wp P Q a w := wp_regS hk _ t F hm hn hsel hv h
set_option maxHeartbeats 4000000 in
set_option maxRecDepth 100000 in
theorem rf_less2 (a b : Nat) (ha : a < 8) (hb : b < 8) (s : Nat → R2)  (m n : Int) (E : Bool) (HM : Hid (max (s a).lo (s b).lo = m)) (HN : Hid (min (s b).hi (s a).hi = n)) (HE : Hid ((!isStR (updS (updS s a ⟨m, (s a).hi⟩) b ⟨(updS s a ⟨m, (s a).hi⟩ b).lo, n⟩)) = E)) (h1 : ¬ -9223372036854775808 < (s b).hi) (w : World) : Calls Tryz.prog 116 #[.agg (stC s), .int .i64 a, .int .i64 b] w fun e w' => e = .returned (.tuple #[.agg (plC false s), .agg (plC (!E) (updS (updS s a ⟨m, (s a).hi⟩) b ⟨(updS s a ⟨m, (s a).hi⟩ b).lo, n⟩))]) ∧ Below w.heap.size w w' := by
  have hk := Kn.nil [] w
  go_enter Tryz.func116, Tryz.ntmps116
  go_wp2_with (first | (go_at_call 125; refine (rf_most _ _ _).mono ?_; rintro e w1 ⟨rfl, hb⟩; replace hk := hk.call hb; clear hb); (first | rw [HM.out]) | (go_at_call 124; refine (rf_least _ _ _).mono ?_; rintro e w1 ⟨rfl, hb⟩; replace hk := hk.call hb; clear hb); (first | rw [HN.out]) | (go_at_call 91; refine (rf_empty _ _).mono ?_; rintro e w1 ⟨rfl, hb⟩; replace hk := hk.call hb; clear hb); (first | rw [HE.out]) | ((with_reducible show wpList _ _ _ _ _ _); (first | (refine wS hk ?_; simp only [Act.put, pw]) | (refine wN hk ?_; clear hk; intro w1 hk; simp only [Act.put, pw]) | (refine wT hk ?_; clear hk; intro w1 hk; simp only [Act.put]))))
  refine wp_reg01 hk (.op 0 (.op 1 (.op 2 (.op 3 .nil)))) (fun i => decide (i < 3)) mixT (by decide) (by kernel_rfl) (by kernel_rfl) ?_; clear hk; intro w1 hk
  (repeat (refine sV hk.pick01 ?_; simp only [Act.put, pw]))
  refine sStore hk ?_; clear hk; intro w1 hk; refine ⟨fun _ => hk.pick01, ?_⟩; simp only [Act.put]
  (refine sStore hk ?_; clear hk; intro w1 hk; refine ⟨fun h => absurd h (by decide), ?_⟩; simp only [Act.put])
  refine tNil ?_
  go_wp2_with (first | ((with_reducible show wpList _ _ _ _ _ _); (first | (refine wS hk ?_; simp only [Act.put, pw]) | (refine wN hk ?_; clear hk; intro w1 hk; simp only [Act.put, pw]) | (refine wT hk ?_; clear hk; intro w1 hk; simp only [Act.put]))))
  exact post_2 rfl (by rfl) (hk.at (by with_reducible repeat (first | exact List.mem_cons_self | apply List.mem_cons_of_mem))) (rowT_of (by rfl)) (by rfl) (by rfl) (hk.at (by with_reducible repeat (first | exact List.mem_cons_self | apply List.mem_cons_of_mem))) (rowT_of (by rfl)) (by rfl) rfl ⟨rfl, hk.mod.below⟩
set_option maxHeartbeats 4000000 in
set_option maxRecDepth 100000 in
theorem rf_less3 (a b : Nat) (ha : a < 8) (hb : b < 8) (s : Nat → R2)  (m n : Int) (E : Bool) (HM : Hid (max (s a).lo (s b).lo = m)) (HN : Hid (min (s b).hi (s a).hi = n)) (HE : Hid ((!isStR (updS (updS s a ⟨m, (s a).hi⟩) b ⟨(updS s a ⟨m, (s a).hi⟩ b).lo, n⟩)) = E)) (h1 : -9223372036854775808 < (s b).hi) (h2 : ¬ (s a).lo < 9223372036854775807) (w : World) : Calls Tryz.prog 116 #[.agg (stC s), .int .i64 a, .int .i64 b] w fun e w' => e = .returned (.tuple #[.agg (plC false s), .agg (plC (!E) (updS (updS s a ⟨m, (s a).hi⟩) b ⟨(updS s a ⟨m, (s a).hi⟩ b).lo, n⟩))]) ∧ Below w.heap.size w w' := by
  have hk := Kn.nil [] w
  go_enter Tryz.func116, Tryz.ntmps116
  go_wp2_with (first | (go_at_call 125; refine (rf_most _ _ _).mono ?_; rintro e w1 ⟨rfl, hb⟩; replace hk := hk.call hb; clear hb); (first | rw [HM.out]) | (go_at_call 124; refine (rf_least _ _ _).mono ?_; rintro e w1 ⟨rfl, hb⟩; replace hk := hk.call hb; clear hb); (first | rw [HN.out]) | (go_at_call 91; refine (rf_empty _ _).mono ?_; rintro e w1 ⟨rfl, hb⟩; replace hk := hk.call hb; clear hb); (first | rw [HE.out]) | ((with_reducible show wpList _ _ _ _ _ _); (first | (refine wS hk ?_; simp only [Act.put, pw]) | (refine wN hk ?_; clear hk; intro w1 hk; simp only [Act.put, pw]) | (refine wT hk ?_; clear hk; intro w1 hk; simp only [Act.put]))))
  refine wp_reg01 hk (.op 0 (.op 1 (.op 2 (.op 3 .nil)))) (fun i => decide (i < 3)) mixT (by decide) (by kernel_rfl) (by kernel_rfl) ?_; clear hk; intro w1 hk
  (repeat (refine sV hk.pick01 ?_; simp only [Act.put, pw]))
  refine sStore hk ?_; clear hk; intro w1 hk; refine ⟨fun _ => hk.pick01, ?_⟩; simp only [Act.put]
  (refine sStore hk ?_; clear hk; intro w1 hk; refine ⟨fun h => absurd h (by decide), ?_⟩; simp only [Act.put])
  refine tNil ?_
  go_wp2_with (first | ((with_reducible show wpList _ _ _ _ _ _); (first | (refine wS hk ?_; simp only [Act.put, pw]) | (refine wN hk ?_; clear hk; intro w1 hk; simp only [Act.put, pw]) | (refine wT hk ?_; clear hk; intro w1 hk; simp only [Act.put]))))
  exact post_2 rfl (by rfl) (hk.at (by with_reducible repeat (first | exact List.mem_cons_self | apply List.mem_cons_of_mem))) (rowT_of (by rfl)) (by rfl) (by rfl) (hk.at (by with_reducible repeat (first | exact List.mem_cons_self | apply List.mem_cons_of_mem))) (rowT_of (by rfl)) (by rfl) rfl ⟨rfl, hk.mod.below⟩
set_option maxHeartbeats 4000000 in
set_option maxRecDepth 100000 in
theorem rf_less1 (a b : Nat) (ha : a < 8) (hb : b < 8) (s : Nat → R2) (p q : Int) (D : Bool) (HP : Hid (min (s a).hi ((s b).hi - 1) = p)) (HQ : Hid (max (s b).lo ((s a).lo + 1) = q)) (HD : Hid ((!isStR (updS (updS s a ⟨(s a).lo, p⟩) b ⟨q, (updS s a ⟨(s a).lo, p⟩ b).hi⟩)) = D)) (m n : Int) (E : Bool) (HM : Hid (max (s a).lo (s b).lo = m)) (HN : Hid (min (s b).hi (s a).hi = n)) (HE : Hid ((!isStR (updS (updS s a ⟨m, (s a).hi⟩) b ⟨(updS s a ⟨m, (s a).hi⟩ b).lo, n⟩)) = E)) (h1 : -9223372036854775808 < (s b).hi) (h2 : (s a).lo < 9223372036854775807) (h3 : (s b).hi ≤ 9223372036854775807) (h4 : -9223372036854775808 ≤ (s a).lo) (w : World) : Calls Tryz.prog 116 #[.agg (stC s), .int .i64 a, .int .i64 b] w fun e w' => e = .returned (.tuple #[.agg (plC (!D) (updS (updS s a ⟨(s a).lo, p⟩) b ⟨q, (updS s a ⟨(s a).lo, p⟩ b).hi⟩)), .agg (plC (!E) (updS (updS s a ⟨m, (s a).hi⟩) b ⟨(updS s a ⟨m, (s a).hi⟩ b).lo, n⟩))]) ∧ Below w.heap.size w w' := by
  have hk := Kn.nil [] w
  go_enter Tryz.func116, Tryz.ntmps116
  go_wp2_with (first | (go_at_call 125; refine (rf_most _ _ _).mono ?_; rintro e w1 ⟨rfl, hb⟩; replace hk := hk.call hb; clear hb); (first | rw [HM.out] | rw [HQ.out]) | (go_at_call 124; refine (rf_least _ _ _).mono ?_; rintro e w1 ⟨rfl, hb⟩; replace hk := hk.call hb; clear hb); (first | rw [HN.out] | rw [HP.out]) | (go_at_call 91; refine (rf_empty _ _).mono ?_; rintro e w1 ⟨rfl, hb⟩; replace hk := hk.call hb; clear hb); (first | rw [HE.out] | rw [HD.out]) | ((with_reducible show wpList _ _ _ _ _ _); (first | (refine wS hk ?_; simp only [Act.put, pw]) | (refine wN hk ?_; clear hk; intro w1 hk; simp only [Act.put, pw]) | (refine wT hk ?_; clear hk; intro w1 hk; simp only [Act.put]))))
  refine wp_reg01 hk (.op 0 (.op 1 (.op 2 (.op 3 .nil)))) (fun i => decide (i < 3)) mixT (by decide) (by kernel_rfl) (by kernel_rfl) ?_; clear hk; intro w1 hk
  (repeat (refine sV hk.pick01 ?_; simp only [Act.put, pw]))
  refine sStore hk ?_; clear hk; intro w1 hk; refine ⟨fun _ => hk.pick01, ?_⟩; simp only [Act.put]
  (refine sStore hk ?_; clear hk; intro w1 hk; refine ⟨fun h => absurd h (by decide), ?_⟩; simp only [Act.put])
  refine tNil ?_
  go_wp2_with (first | ((with_reducible show wpList _ _ _ _ _ _); (first | (refine wS hk ?_; simp only [Act.put, pw]) | (refine wN hk ?_; clear hk; intro w1 hk; simp only [Act.put, pw]) | (refine wT hk ?_; clear hk; intro w1 hk; simp only [Act.put]))))
  exact post_2 rfl (by rfl) (hk.at (by with_reducible repeat (first | exact List.mem_cons_self | apply List.mem_cons_of_mem))) (rowT_of (by rfl)) (by rfl) (by rfl) (hk.at (by with_reducible repeat (first | exact List.mem_cons_self | apply List.mem_cons_of_mem))) (rowT_of (by rfl)) (by rfl) rfl ⟨rfl, hk.mod.below⟩
end Go.Proofs.YtamiichlbmllcaaGreatDoor
/-
  Claims: the contracts of proof.firstWrong and proof.layOut.
-/
namespace Go.Proofs.YtamiichlbmllcaaGreatDoor
open Go.RowKit
/-- a claim: of which instruction, and the state -/
structure C2 where
  pl : Int
  st : St
def clAt (cl : List C2) (i : Nat) : C2 := (cl[i]?).getD ⟨0, zeroS⟩
theorem clAt_get {cl : List C2} {i : Nat} (h : i < cl.length) : clAt cl i = cl[i] := by unfold clAt; rw [List.getElem?_eq_getElem h]; rfl
/-- a list of claims, wherever it lies -/
def SlcC (w : World) (v : Value) (cl : List C2) : Prop :=
  ((∃ a cap, v = .slice a 0 cap) ∧ cl = []) ∨ ∃ b off cap, v = .slice (some ⟨b, off, none⟩) cl.length cap ∧ b < w.heap.size ∧ ∀ i, i < cl.length → w.rangeAt b (off + i * 17) (clC (clAt cl i).pl (clAt cl i).st).toList
theorem SlcC.below {w w' : World} {v : Value} {cl : List C2} {B : Nat} (h : SlcC w v cl) (hb : Below B w w') (hB : w.heap.size ≤ B) : SlcC w' v cl := by
  rcases h with h | ⟨b, off, cap, h1, h2, h3⟩
  · exact Or.inl h
  · refine Or.inr ⟨b, off, cap, h1, Nat.lt_of_lt_of_le h2 hb.size, fun i hi j u hu => ?_⟩
    rw [hb.cell (p := ⟨b, _, none⟩) (Nat.lt_of_lt_of_le h2 hB)]; exact h3 i hi j u hu
/-- is a claim wrong behind one of instruction last? -/
def badC (mk : Nat → Bool) (n : Nat) (last : Int) (c : C2) : Bool := decide (c.pl ≤ last) || decide ((n : Int) ≤ c.pl) || !mk c.pl.toNat || !isStR c.st
def fwR (mk : Nat → Bool) (n : Nat) : List C2 → Int → Nat → Nat
  | [], _, i => i
  | c :: r, last, i => if badC mk n last c then i else fwR mk n r c.pl (i + 1)
theorem fwR_bad {mk : Nat → Bool} {n : Nat} {cl : List C2} {i : Nat} {last : Int} (h : i < cl.length) (hb : badC mk n last (clAt cl i) = true) : fwR mk n (cl.drop i) last i = i := by
  rw [List.drop_eq_getElem_cons h, fwR, ← clAt_get h, if_pos hb]
theorem fwR_ok {mk : Nat → Bool} {n : Nat} {cl : List C2} {i : Nat} {last : Int} (h : i < cl.length) (hb : badC mk n last (clAt cl i) = false) : fwR mk n (cl.drop i) last i = fwR mk n (cl.drop (i + 1)) (clAt cl i).pl (i + 1) := by
  rw [List.drop_eq_getElem_cons h, fwR, ← clAt_get h, if_neg (by simp [hb])]
theorem ret_nat {a b : Nat} (h : a = b) : Ending.returned (.int .i64 (a : Int)) = .returned (.int .i64 (b : Int)) := by rw [h]
set_option maxHeartbeats 1000000 in
set_option maxRecDepth 100000 in
theorem firstWrong_some (mk : Nat → Bool) (n : Nat) (mb mc : Nat) (cl : List C2) (hcl : cl.length < 4000000000000) (b off cap : Nat) (w : World) (hm : At w mb (bosA n mk) 4) (hb : b < w.heap.size) (hc : ∀ i, i < cl.length → w.rangeAt b (off + i * 17) (clC (clAt cl i).pl (clAt cl i).st).toList) :
    Calls Tryz.prog 64 #[.slice (some ⟨mb, 0, none⟩) n mc, .slice (some ⟨b, off, none⟩) cl.length cap] w fun e w' => e = .returned (.int .i64 (fwR mk n cl (-1) 0 : Nat)) ∧ Below w.heap.size w w' := by
  have hk := Kn.nil [] w
  have HC := hide hc
  clear hc
  obtain ⟨FW, hFW⟩ : ∃ FW, FW = fwR mk n cl (-1) 0 := ⟨_, rfl⟩
  rw [← hFW]
  have HF := hide hFW
  clear hFW
  go_enter Tryz.func64, Tryz.ntmps64
  go_wp2_with (first | ((with_reducible show wpList _ _ _ _ _ _); (first | (refine wS hk ?_; simp only [Act.put, pw]) | (refine wN hk ?_; clear hk; intro w1 hk; simp only [Act.put, pw]) | (refine wT hk ?_; clear hk; intro w1 hk; simp only [Act.put]))))
  go_loopw [5, 10] (fun la j wr => ∃ (i : Nat) (last : Int), i ≤ cl.length ∧ la = .int .i64 last ∧ j = .int .i64 i ∧ -1 ≤ last ∧ fwR mk n (cl.drop i) last i = FW ∧ Kn [] w wr []) (fun _ j _ => cl.length - (intOf j).toNat)
  case atStart => exact ⟨0, -1, by omega, rfl, rfl, by omega, HF.out.symm, hk⟩
  case round =>
    clear hk HF
    obtain ⟨i, last, hi, rfl, rfl, hla, hR, hk⟩ := hrel
    by_cases hlt : i < cl.length
    · have hci := HC.out i hlt
      have HR := hide hR
      clear hR
      obtain ⟨c, hcd⟩ : ∃ c, c = clAt cl i := ⟨_, rfl⟩
      rw [← hcd] at hci
      have HCD := hide hcd
      clear hcd
      have hba : ∀ B, badC mk n last c = B → badC mk n last (clAt cl i) = B := fun B h => by rw [← HCD.out]; exact h
      by_cases h1 : c.pl ≤ last
      · have RB : Hid (i = FW) := hide (by rw [← HR.out, fwR_bad hlt (hba true (by unfold badC; simp [h1]))])
        have h4 : True := trivial
        clear hba
        go_wp2_with (first | ((with_reducible show wpList _ _ _ _ _ _); (first | (refine wS hk ?_; simp only [Act.put, pw]) | (refine wN hk ?_; clear hk; intro w1 hk; simp only [Act.put, pw]) | (refine wT hk ?_; clear hk; intro w1 hk; simp only [Act.put]))))
        go_ret
        exact ⟨ret_nat RB.out, hk.mod.below⟩
      · have d1 : decide (c.pl ≤ last) = false := by simpa using h1
        obtain ⟨k, hkk⟩ : ∃ k : Nat, c.pl = k := ⟨c.pl.toNat, by omega⟩
        by_cases h2 : (n : Int) ≤ c.pl
        · have RB : Hid (i = FW) := hide (by rw [← HR.out, fwR_bad hlt (hba true (by unfold badC; simp [h2]))])
          clear hba hkk
          go_wp2_with (first | ((with_reducible show wpList _ _ _ _ _ _); (first | (refine wS hk ?_; simp only [Act.put, pw]) | (refine wN hk ?_; clear hk; intro w1 hk; simp only [Act.put, pw]) | (refine wT hk ?_; clear hk; intro w1 hk; simp only [Act.put]))))
          go_ret
          exact ⟨ret_nat RB.out, hk.mod.below⟩
        · have d2 : decide ((n : Int) ≤ c.pl) = false := by simpa using h2
          have hkn : k < n := by omega
          obtain ⟨pl, st⟩ := c
          simp only at hkk h1 h2 d1 d2 hci
          subst hkk
          cases h3 : mk k with
          | false =>
            have RB : Hid (i = FW) := hide (by rw [← HR.out, fwR_bad hlt (hba true (by unfold badC; simp [h3]))])
            clear hba
            go_wp2_with (first | ((with_reducible show wpList _ _ _ _ _ _); (first | (refine wS hk ?_; simp only [Act.put, pw]) | (refine wN hk ?_; clear hk; intro w1 hk; simp only [Act.put, pw]) | (refine wT hk ?_; clear hk; intro w1 hk; simp only [Act.put]))))
            go_ret
            exact ⟨ret_nat RB.out, hk.mod.below⟩
          | true =>
            cases h4 : isStR st with
            | false =>
              have RB : Hid (i = FW) := hide (by rw [← HR.out, fwR_bad hlt (hba true (by unfold badC; simp [h4]))])
              clear hba
              go_wp2_with (first | (go_at_call 62; refine (isState_any _ _).mono ?_; rintro e w1 ⟨rfl, hb⟩; replace hk := hk.call hb; clear hb; rw [h4]) | ((with_reducible show wpList _ _ _ _ _ _); (first | (refine wS hk ?_; simp only [Act.put, pw]) | (refine wN hk ?_; clear hk; intro w1 hk; simp only [Act.put, pw]) | (refine wT hk ?_; clear hk; intro w1 hk; simp only [Act.put]))))
              go_ret
              exact ⟨ret_nat RB.out, hk.mod.below⟩
            | true =>
              have RB : Hid (fwR mk n (cl.drop (i + 1)) k (i + 1) = FW) := hide (by rw [← HR.out, fwR_ok hlt (hba false (by unfold badC; simp only [d1, d2, Int.toNat_natCast, h3, h4]; rfl)), ← HCD.out])
              clear hba
              go_wp2_with (first | (go_at_call 62; refine (isState_any _ _).mono ?_; rintro e w1 ⟨rfl, hb⟩; replace hk := hk.call hb; clear hb; rw [h4]) | ((with_reducible show wpList _ _ _ _ _ _); (first | (refine wS hk ?_; simp only [Act.put, pw]) | (refine wN hk ?_; clear hk; intro w1 hk; simp only [Act.put, pw]) | (refine wT hk ?_; clear hk; intro w1 hk; simp only [Act.put]))))
              go_roundw
              case rel => exact ⟨i + 1, k, by omega, rfl, by go_num, by omega, RB.out, hk.drop⟩
              case measure => simp [intOf]; omega
    · have e : i = cl.length := by omega
      subst e
      rw [List.drop_length, fwR] at hR
      have HR := hide hR
      clear hR
      go_wp2_with (first | ((with_reducible show wpList _ _ _ _ _ _); (first | (refine wS hk ?_; simp only [Act.put, pw]) | (refine wN hk ?_; clear hk; intro w1 hk; simp only [Act.put, pw]) | (refine wT hk ?_; clear hk; intro w1 hk; simp only [Act.put]))))
      go_ret
      exact ⟨ret_nat HR.out, hk.mod.below⟩
end Go.Proofs.YtamiichlbmllcaaGreatDoor
/-
  suretyref.claim.
-/
namespace Go.Proofs.YtamiichlbmllcaaGreatDoor
open Go.RowKit
/-- the state of the first claim of an instruction -/
def findC (cl : List C2) (n : Int) : Option St := (cl.find? fun c => c.pl == n).map (·.st)
theorem findC_yes {cl : List C2} {n : Int} {i : Nat} (h : i < cl.length) (hb : ∀ j, j < i → (clAt cl j).pl ≠ n) (he : (clAt cl i).pl = n) : findC cl n = some (clAt cl i).st := by
  unfold findC
  rw [clAt_get h] at he ⊢
  rw [List.find?_eq_some_iff_getElem.2 ⟨by simpa using he, i, h, rfl, fun j hj => by have := hb j hj; rw [clAt_get (by omega)] at this; simpa using this⟩]
  rfl
theorem findC_no {cl : List C2} {n : Int} (hb : ∀ j, j < cl.length → (clAt cl j).pl ≠ n) : findC cl n = none := by
  unfold findC
  rw [List.find?_eq_none.2 fun c hc => by obtain ⟨j, hj, rfl⟩ := List.mem_iff_getElem.1 hc; have := hb j hj; rw [clAt_get hj] at this; simpa using this]
  rfl
theorem cell0 {w w' : World} {b o : Nat} {p : Int} {st : St} (h : w.rangeAt b o (clC p st).toList) (hb : b < w.heap.size) (hm : Mod [] w w') : w'.cell? ⟨b, o, none⟩ = some (.int .i64 p) := by
  rw [World.cell?_of_block (w := w) (a := ⟨b, o, none⟩) (hm.block b hb (by simp))]
  exact h 0 _ rfl
theorem range1 {w : World} {b o : Nat} {p : Int} {st : St} (h : w.rangeAt b o (clC p st).toList) : w.rangeAt b (o + 1) (stC st).toList := fun j v hj => by
  have := h (j + 1) v hj
  rwa [show o + (j + 1) = o + 1 + j by omega] at this
set_option maxHeartbeats 1000000 in
set_option maxRecDepth 100000 in
theorem rf_claim_some (cl : List C2) (hcl : cl.length < 4000000000000) (b off cap : Nat) (n : Int) (w : World) (hb : b < w.heap.size) (hc : ∀ i, i < cl.length → w.rangeAt b (off + i * 17) (clC (clAt cl i).pl (clAt cl i).st).toList) :
    Calls Tryz.prog 95 #[.slice (some ⟨b, off, none⟩) cl.length cap, .int .i64 n] w fun e w' => e = .returned (.agg (plC (findC cl n).isSome (stO (findC cl n)))) ∧ Below w.heap.size w w' := by
  have hk := Kn.nil [] w
  have HC := hide hc
  clear hc
  go_enter Tryz.func95, Tryz.ntmps95
  go_wp2_with (first | ((with_reducible show wpList _ _ _ _ _ _); (first | (refine wS hk ?_; simp only [Act.put, pw]) | (refine wN hk ?_; clear hk; intro w1 hk; simp only [Act.put, pw]) | (refine wT hk ?_; clear hk; intro w1 hk; simp only [Act.put]))))
  go_loopw [5] (fun j wr => ∃ i : Nat, i ≤ cl.length ∧ j = .int .i64 i ∧ (∀ j, j < i → (clAt cl j).pl ≠ n) ∧ Kn [] w wr [(w.heap.size, plC false zeroS, 110)]) (fun j _ => cl.length - (intOf j).toNat)
  case atStart => exact ⟨0, by omega, rfl, fun j hj => by omega, hk⟩
  case round =>
    clear hk
    obtain ⟨i, hi, rfl, hall, hk⟩ := hrel
    have HA := hide hall
    clear hall
    by_cases hlt : i < cl.length
    · have hci := HC.out i hlt
      by_cases he : (clAt cl i).pl = n
      · have R : Hid (findC cl n = some (clAt cl i).st) := hide (findC_yes hlt HA.out he)
        rw [he] at hci
        obtain ⟨st, hst⟩ : ∃ st, st = (clAt cl i).st := ⟨_, rfl⟩
        rw [← hst] at hci R
        clear hst he
        have hc0 := cell0 hci hb hk.mod
        have hc1 := range1 hci
        go_wp2_with (first | ((with_reducible show wpList _ _ _ _ _ _); (first | (refine wS hk ?_; simp only [Act.put, pw]) | (refine wN hk ?_; clear hk; intro w1 hk; simp only [Act.put, pw]) | (refine wT hk ?_; clear hk; intro w1 hk; simp only [Act.put]))))
        exact post_1 rfl (by rfl) (hk.at (A := plC true st) (by with_reducible repeat (first | exact List.mem_cons_self | apply List.mem_cons_of_mem))) (rowT_of (by rfl)) (by rfl) rfl ⟨by rw [R.out]; rfl, hk.mod.below⟩
      · have hne : ((clAt cl i).pl == n) = false := by rw [beq_eq_false_iff_ne]; exact he
        have HE := hide he
        clear he
        obtain ⟨st, hst⟩ : ∃ st, st = (clAt cl i).st := ⟨_, rfl⟩
        obtain ⟨p, hp⟩ : ∃ p, p = (clAt cl i).pl := ⟨_, rfl⟩
        rw [← hst, ← hp] at hci
        rw [← hp] at HE hne
        have HP := hide hp
        clear hst hp
        have hc0 := cell0 hci hb hk.mod
        go_wp2_with (first | ((with_reducible show wpList _ _ _ _ _ _); (first | (refine wS hk ?_; simp only [Act.put, pw]) | (refine wN hk ?_; clear hk; intro w1 hk; simp only [Act.put, pw]) | (refine wT hk ?_; clear hk; intro w1 hk; simp only [Act.put]))))
        go_roundw
        case rel => exact ⟨i + 1, by omega, by go_num, fun j hj => by rcases Nat.lt_succ_iff_lt_or_eq.1 hj with h | h; exact HA.out j h; subst h; rw [← HP.out]; exact HE.out, hk⟩
        case measure => simp [intOf]; omega
    · have e : i = cl.length := by omega
      subst e
      have R : Hid (findC cl n = none) := hide (findC_no HA.out)
      go_wp2_with (first | ((with_reducible show wpList _ _ _ _ _ _); (first | (refine wS hk ?_; simp only [Act.put, pw]) | (refine wN hk ?_; clear hk; intro w1 hk; simp only [Act.put, pw]) | (refine wT hk ?_; clear hk; intro w1 hk; simp only [Act.put]))))
      exact post_1 rfl (by rfl) (hk.at (A := plC false zeroS) (by with_reducible repeat (first | exact List.mem_cons_self | apply List.mem_cons_of_mem))) (rowT_of (by rfl)) (by rfl) rfl ⟨by rw [R.out]; rfl, hk.mod.below⟩
set_option maxHeartbeats 1000000 in
set_option maxRecDepth 100000 in
theorem rf_claim_nil (a : Option Addr) (cap : Nat) (n : Int) (w : World) : Calls Tryz.prog 95 #[.slice a 0 cap, .int .i64 n] w fun e w' => e = .returned (.agg (plC false zeroS)) ∧ Below w.heap.size w w' := by
  have hk := Kn.nil [] w
  go_enter Tryz.func95, Tryz.ntmps95
  go_wp2_with (first | ((with_reducible show wpList _ _ _ _ _ _); (first | (refine wS hk ?_; simp only [Act.put, pw]) | (refine wN hk ?_; clear hk; intro w1 hk; simp only [Act.put, pw]) | (refine wT hk ?_; clear hk; intro w1 hk; simp only [Act.put]))))
  go_loopw [5] (fun j wr => j = .int .i64 0 ∧ Kn [] w wr [(w.heap.size, plC false zeroS, 110)]) (fun _ _ => 0)
  case atStart => exact ⟨rfl, hk⟩
  case round =>
    clear hk
    obtain ⟨rfl, hk⟩ := hrel
    go_wp2_with (first | ((with_reducible show wpList _ _ _ _ _ _); (first | (refine wS hk ?_; simp only [Act.put, pw]) | (refine wN hk ?_; clear hk; intro w1 hk; simp only [Act.put, pw]) | (refine wT hk ?_; clear hk; intro w1 hk; simp only [Act.put]))))
    exact post_1 rfl (by rfl) (hk.at (by with_reducible repeat (first | exact List.mem_cons_self | apply List.mem_cons_of_mem))) (rowT_of (by rfl)) (by rfl) rfl ⟨rfl, hk.mod.below⟩
theorem rf_claim (cl : List C2) (hcl : cl.length < 4000000000000) (v : Value) (n : Int) (w : World) (h : SlcC w v cl) : Calls Tryz.prog 95 #[v, .int .i64 n] w fun e w' => e = .returned (.agg (plC (findC cl n).isSome (stO (findC cl n)))) ∧ Below w.heap.size w w' := by
  rcases h with ⟨⟨a, cap, rfl⟩, rfl⟩ | ⟨b, off, cap, rfl, hb, hc⟩
  · exact rf_claim_nil a cap n w
  · exact rf_claim_some cl hcl b off cap n w hb hc
end Go.Proofs.YtamiichlbmllcaaGreatDoor
/-
  Claims laid out: the contract of proof.layOut; the contract of proof.firstWrong for every list.
-/
namespace Go.Proofs.YtamiichlbmllcaaGreatDoor
open Go.RowKit
/-- what the first i claims say of each instruction -/
def layU (cl : List C2) : Nat → Nat → Option St
  | 0 => fun _ => none
  | i + 1 => updW (layU cl i) (clAt cl i).pl.toNat (some (clAt cl i).st)
def layR (cl : List C2) : Nat → Option St := layU cl cl.length
set_option maxHeartbeats 1000000 in
set_option maxRecDepth 100000 in
theorem firstWrong_nil (n mb mc : Nat) (a : Option Addr) (cap : Nat) (w : World) : Calls Tryz.prog 64 #[.slice (some ⟨mb, 0, none⟩) n mc, .slice a 0 cap] w fun e w' => e = .returned (.int .i64 (0 : Nat)) ∧ Below w.heap.size w w' := by
  have hk := Kn.nil [] w
  go_enter Tryz.func64, Tryz.ntmps64
  go_wp2_with (first | ((with_reducible show wpList _ _ _ _ _ _); (first | (refine wS hk ?_; simp only [Act.put, pw]) | (refine wN hk ?_; clear hk; intro w1 hk; simp only [Act.put, pw]) | (refine wT hk ?_; clear hk; intro w1 hk; simp only [Act.put]))))
  go_loopw [5, 10] (fun _ j wr => j = .int .i64 0 ∧ Kn [] w wr []) (fun _ _ _ => 0)
  case atStart => exact ⟨rfl, hk⟩
  case round =>
    clear hk
    obtain ⟨rfl, hk⟩ := hrel
    go_wp2_with (first | ((with_reducible show wpList _ _ _ _ _ _); (first | (refine wS hk ?_; simp only [Act.put, pw]) | (refine wN hk ?_; clear hk; intro w1 hk; simp only [Act.put, pw]) | (refine wT hk ?_; clear hk; intro w1 hk; simp only [Act.put]))))
    go_ret
    exact ⟨rfl, hk.mod.below⟩
theorem firstWrong_any (mk : Nat → Bool) (n : Nat) (mb mc : Nat) (cl : List C2) (hcl : cl.length < 4000000000000) (v : Value) (w : World) (hm : At w mb (bosA n mk) 4) (hs : SlcC w v cl) :
    Calls Tryz.prog 64 #[.slice (some ⟨mb, 0, none⟩) n mc, v] w fun e w' => e = .returned (.int .i64 (fwR mk n cl (-1) 0 : Nat)) ∧ Below w.heap.size w w' := by
  rcases hs with ⟨⟨a, cap, rfl⟩, rfl⟩ | ⟨b, off, cap, rfl, hb, hc⟩
  · exact firstWrong_nil n mb mc a cap w
  · exact firstWrong_some mk n mb mc cl hcl b off cap w hm hb hc
set_option maxHeartbeats 1000000 in
set_option maxRecDepth 100000 in
theorem layOut_some (n : Nat) (hn : n ≤ 64) (cl : List C2) (hcl : cl.length < 4000000000000) (hg : ∀ i, i < cl.length → ∃ k : Nat, (clAt cl i).pl = k ∧ k < n) (b off cap : Nat) (w : World) (hb : b < w.heap.size) (hc : ∀ i, i < cl.length → w.rangeAt b (off + i * 17) (clC (clAt cl i).pl (clAt cl i).st).toList) :
    Calls Tryz.prog 65 #[.int .i64 n, .slice (some ⟨b, off, none⟩) cl.length cap] w fun e w' => ∃ sb, e = .returned (.slice (some ⟨sb, 0, none⟩) n n) ∧ At w' sb (plsA n (layR cl)) 174 ∧ w.heap.size ≤ sb ∧ Below w.heap.size w w' := by
  have hk := Kn.nil [] w
  have HC := hide hc
  have HG := hide hg
  clear hc hg
  go_enter Tryz.func65, Tryz.ntmps65
  go_wp2_with (first | ((with_reducible show wpList _ _ _ _ _ _); (first | (refine wS hk ?_; simp only [Act.put, pw]) | (refine wN hk ?_; clear hk; intro w1 hk; simp only [Act.put, pw]) | (refine wT hk ?_; clear hk; intro w1 hk; simp only [Act.put]))))
  replace hk : Kn [] w w1 [(w.heap.size, plsA n (layU cl 0), 174)] := hk
  go_loopw [12] (fun j wr => ∃ i : Nat, i ≤ cl.length ∧ j = .int .i64 i ∧ Kn [] w wr [(w.heap.size, plsA n (layU cl i), 174)]) (fun j _ => cl.length - (intOf j).toNat)
  case atStart => exact ⟨0, by omega, rfl, hk⟩
  case round =>
    clear hk
    obtain ⟨i, hi, rfl, hk⟩ := hrel
    by_cases hlt : i < cl.length
    · have hci := HC.out i hlt
      obtain ⟨k, hk1, hk2⟩ := HG.out i hlt
      have R : Hid (layU cl (i + 1) = updW (layU cl i) k (some (clAt cl i).st)) := hide (by rw [layU, hk1, Int.toNat_natCast])
      obtain ⟨st, hst⟩ : ∃ st, st = (clAt cl i).st := ⟨_, rfl⟩
      rw [hk1, ← hst] at hci
      rw [← hst] at R
      clear hst hk1
      go_wp2_with (first | ((with_reducible show wpList _ _ _ _ _ _); (first | (refine wS hk ?_; simp only [Act.put, pw]) | (refine wN hk ?_; clear hk; intro w1 hk; simp only [Act.put, pw]) | (refine wT hk ?_; clear hk; intro w1 hk; simp only [Act.put]))))
      (refine wp_regK hk (.op 0 (.op 1 (.op 2 (.op 3 (.op 4 (.op 5 (.op 6 (.op 7 .nil)))))))) (fun i => decide (i < 6)) mixT (by decide) (by kernel_rfl) (by kernel_rfl) ?_; clear hk; intro w1 hk)
      (repeat (refine sS hk ?_; simp only [Act.put, pw]))
      (refine sCall ?_; intro K hK; go_step; go_at_call 102; refine (with_any _ _).mono ?_; rintro e w1 ⟨rfl, hb⟩; replace hk := hk.call hb; clear hb; refine hK _ _ (fun _ => by first | exact hk | exact hk.drop | exact hk.drop.drop | exact hk.mid | exact hk.pick13 | exact hk.pick4) ?_; clear hK K)
      (repeat (refine sS hk ?_; simp only [Act.put, pw]))
      (refine sStore hk ?_; clear hk; intro w1 hk; refine ⟨fun h => absurd h (by decide), ?_⟩; simp only [Act.put])
      refine tNil ?_
      go_wp2_with (first | ((with_reducible show wpList _ _ _ _ _ _); (first | (refine wS hk ?_; simp only [Act.put, pw]) | (refine wN hk ?_; clear hk; intro w1 hk; simp only [Act.put, pw]) | (refine wT hk ?_; clear hk; intro w1 hk; simp only [Act.put]))))
      go_roundw
      case rel => exact ⟨i + 1, by omega, by go_num, by rw [R.out]; exact hk.drop⟩
      case measure => simp [intOf]; omega
    · have e : i = cl.length := by omega
      subst e
      go_wp2_with (first | ((with_reducible show wpList _ _ _ _ _ _); (first | (refine wS hk ?_; simp only [Act.put, pw]) | (refine wN hk ?_; clear hk; intro w1 hk; simp only [Act.put, pw]) | (refine wT hk ?_; clear hk; intro w1 hk; simp only [Act.put]))))
      go_ret
      have hat := hk.at (A := plsA n (layU cl cl.length)) (by with_reducible repeat (first | exact List.mem_cons_self | apply List.mem_cons_of_mem))
      exact ⟨_, rfl, hat, Nat.le_refl _, hk.mod.below⟩
set_option maxHeartbeats 1000000 in
set_option maxRecDepth 100000 in
theorem layOut_nil (n : Nat) (hn : n ≤ 64) (a : Option Addr) (cap : Nat) (w : World) :
    Calls Tryz.prog 65 #[.int .i64 n, .slice a 0 cap] w fun e w' => ∃ sb, e = .returned (.slice (some ⟨sb, 0, none⟩) n n) ∧ At w' sb (plsA n (layR [])) 174 ∧ w.heap.size ≤ sb ∧ Below w.heap.size w w' := by
  have hk := Kn.nil [] w
  go_enter Tryz.func65, Tryz.ntmps65
  go_wp2_with (first | ((with_reducible show wpList _ _ _ _ _ _); (first | (refine wS hk ?_; simp only [Act.put, pw]) | (refine wN hk ?_; clear hk; intro w1 hk; simp only [Act.put, pw]) | (refine wT hk ?_; clear hk; intro w1 hk; simp only [Act.put]))))
  replace hk : Kn [] w w1 [(w.heap.size, plsA n (layR []), 174)] := hk
  go_loopw [12] (fun j wr => j = .int .i64 0 ∧ Kn [] w wr [(w.heap.size, plsA n (layR []), 174)]) (fun _ _ => 0)
  case atStart => exact ⟨rfl, hk⟩
  case round =>
    clear hk
    obtain ⟨rfl, hk⟩ := hrel
    go_wp2_with (first | ((with_reducible show wpList _ _ _ _ _ _); (first | (refine wS hk ?_; simp only [Act.put, pw]) | (refine wN hk ?_; clear hk; intro w1 hk; simp only [Act.put, pw]) | (refine wT hk ?_; clear hk; intro w1 hk; simp only [Act.put]))))
    go_ret
    exact ⟨_, rfl, hk.at (by with_reducible repeat (first | exact List.mem_cons_self | apply List.mem_cons_of_mem)), Nat.le_refl _, hk.mod.below⟩
theorem layOut_any (n : Nat) (hn : n ≤ 64) (cl : List C2) (hcl : cl.length < 4000000000000) (hg : ∀ i, i < cl.length → ∃ k : Nat, (clAt cl i).pl = k ∧ k < n) (v : Value) (w : World) (hs : SlcC w v cl) :
    Calls Tryz.prog 65 #[.int .i64 n, v] w fun e w' => ∃ sb, e = .returned (.slice (some ⟨sb, 0, none⟩) n n) ∧ At w' sb (plsA n (layR cl)) 174 ∧ w.heap.size ≤ sb ∧ Below w.heap.size w w' := by
  rcases hs with ⟨⟨a, cap, rfl⟩, rfl⟩ | ⟨b, off, cap, rfl, hb, hc⟩
  · exact layOut_nil n hn a cap w
  · exact layOut_some n hn cl hcl hg b off cap w hb hc
end Go.Proofs.YtamiichlbmllcaaGreatDoor
/-
  One step of a pass that checks: the contracts of (proof.checker).takes, danger and (proof.route).step.
-/
namespace Go.Proofs.YtamiichlbmllcaaGreatDoor
open Go.RowKit
def liesP (b : Bool) (s : St) (y : Option St) : Bool := if b then liesO (some s) y else true
theorem liesP_eq (x y : Option St) : liesP x.isSome (stO x) y = liesO x y := by cases x <;> rfl
theorem liesPl_any (b : Bool) (s : St) (y : Option St) (w : World) : Calls Tryz.prog 149 #[.agg (plC b s), .agg (plC y.isSome (stO y))] w fun e w' => e = .returned (.bool (liesP b s y)) ∧ Below w.heap.size w w' := by
  cases b with
  | false => exact lies_un _ _ _ w
  | true => exact lies_any (some s) y w
theorem flow_c (i : I5) (N : Nat) (hfit : i.fits N = true) (pb cap n at_ : Nat) (hat : at_ < n) (s : St) (hok : s.ok) (h64 : s.in64) (w : World) (hi : w.cell? ⟨pb, at_ * 1, none⟩ = some (iVal i)) : Calls Tryz.prog 119 #[.slice (some ⟨pb, 0, none⟩) n cap, .int .i64 at_, .agg (stC s)] w fun e w' => e = .returned (.tuple #[.agg (plC (flowOn i s).isSome (stO (flowOn i s))), .agg (plC (flowFar i s).isSome (stO (flowFar i s)))]) ∧ Below w.heap.size w w' := flow_any i N hfit pb cap n at_ hat s hok h64 w hi
abbrev rtC (pb pc mb sb n : Nat) : Array Value := #[.slice (some ⟨pb, 0, none⟩) n pc, .slice (some ⟨mb, 0, none⟩) n n, .slice (some ⟨sb, 0, none⟩) n n]
set_option maxHeartbeats 1000000 in
set_option maxRecDepth 100000 in
theorem takes_ck (n pb pc mb sb : Nat) (cl : Nat → Option St) (m : Nat) (hm : m < n) (b : Bool) (s : St) (w : World) (hS : At w sb (plsA n cl) 174) : Calls Tryz.prog 147 #[.agg #[.slice (some ⟨pb, 0, none⟩) n pc, .slice (some ⟨mb, 0, none⟩) n n, .slice (some ⟨sb, 0, none⟩) n n], .int .i64 m, .agg (plC b s)] w fun e w' => e = .returned (.bool (liesP b s (cl m))) ∧ Below w.heap.size w w' := by
  have hk := Kn.nil [] w
  go_enter Tryz.func147, Tryz.ntmps147
  go_wp2_with (first | ((with_reducible show wpList _ _ _ _ _ _); (first | (refine wS hk ?_; simp only [Act.put, pw]) | (refine wN hk ?_; clear hk; intro w1 hk; simp only [Act.put, pw]) | (refine wT hk ?_; clear hk; intro w1 hk; simp only [Act.put]))))
  (refine wp_regK hk (.op 0 (.op 1 (.op 2 (.op 3 (.op 4 (.op 5 (.op 6 (.op 7 (.op 8 .nil))))))))) (fun i => decide (i < 9)) mixT (by decide) (by kernel_rfl) (by kernel_rfl) ?_; clear hk; intro w1 hk)
  (repeat (refine sS hk ?_; simp only [Act.put, pw]))
  (refine sCall ?_; intro K hK; go_step; go_at_call 149; refine (liesPl_any _ _ _ _).mono ?_; rintro e w1 ⟨rfl, hb⟩; replace hk := hk.call hb; clear hb; refine hK _ _ (fun _ => by first | exact hk | exact hk.drop | exact hk.drop.drop | exact hk.mid | exact hk.pick13 | exact hk.pick4) ?_; clear hK K)
  (repeat (refine sS hk ?_; simp only [Act.put, pw]))
  refine tNil ?_
  go_wp2_with (first | ((with_reducible show wpList _ _ _ _ _ _); (first | (refine wS hk ?_; simp only [Act.put, pw]) | (refine wN hk ?_; clear hk; intro w1 hk; simp only [Act.put, pw]) | (refine wT hk ?_; clear hk; intro w1 hk; simp only [Act.put]))))
  go_ret
  exact ⟨rfl, hk.mod.below⟩
set_option maxHeartbeats 1000000 in
set_option maxRecDepth 100000 in
theorem danger_ck (l : List I5) (hl : AllFit l) (pb pc mb sb : Nat) (m : Nat) (hm : m < l.length) (s : St) (w : World) (hi : w.cell? ⟨pb, m * 1, none⟩ = some (iVal (insAt l m))) : Calls Tryz.prog 146 #[.agg #[.slice (some ⟨pb, 0, none⟩) l.length pc, .slice (some ⟨mb, 0, none⟩) l.length l.length, .slice (some ⟨sb, 0, none⟩) l.length l.length], .int .i64 m, .agg (stC s)] w fun e w' => e = .returned (.int .i64 (dangR (insAt l m) s)) ∧ Below w.heap.size w w' := by
  have hk := Kn.nil [] w
  have HI : Hid (∀ wx, Below w.heap.size w wx → wx.cell? ⟨pb, m * 1, none⟩ = some (iVal (insAt l m))) := hide (fun wx hb => by rw [hb.cell (p := ⟨pb, m * 1, none⟩) (World.block_lt_of_cell? w _ hi)]; exact hi)
  go_enter Tryz.func146, Tryz.ntmps146
  go_wp2_with (first | (go_at_call 148; refine (danger_any _ _ (hl.fit hm) _ _ _ _ hm _ _ (HI.out _ hk.mod.below)).mono ?_; rintro e w1 ⟨rfl, hb⟩; replace hk := hk.call hb; clear hb) | ((with_reducible show wpList _ _ _ _ _ _); (first | (refine wS hk ?_; simp only [Act.put, pw]) | (refine wN hk ?_; clear hk; intro w1 hk; simp only [Act.put, pw]) | (refine wT hk ?_; clear hk; intro w1 hk; simp only [Act.put]))))
  go_ret
  exact ⟨rfl, hk.mod.below⟩
theorem mTakes (x y z : Value) (w : World) : (method 367 121 (.agg #[x, y, z]) "surety/proof.takes").run Tryz.prog w = .ok (147, .agg #[x, y, z]) w := by kernel_rfl
theorem mDanger (x y z : Value) (w : World) : (method 367 121 (.agg #[x, y, z]) "surety/proof.danger").run Tryz.prog w = .ok (146, .agg #[x, y, z]) w := by kernel_rfl
theorem cTakes (args : Array Value) (w : World) : (callFunc 147 args).run Tryz.prog w = .ok (.enter 147 args) w := by kernel_rfl
theorem cDanger (args : Array Value) (w : World) : (callFunc 146 args).run Tryz.prog w = .ok (.enter 146 args) w := by kernel_rfl
end Go.Proofs.YtamiichlbmllcaaGreatDoor
