import Derived.Test.YtamiichlbmllcaaGreatDoorTPrB
import Derived.Test.YtamiichlbmllcaaGreatDoorTPrE
import Derived.Test.YtamiichlbmllcaaGreatDoorTChF
import Derived.Great.BuildSlice
/-
  slices.Contains of marks, and (*proof.prover).count.
-/
namespace Go.Proofs.YtamiichlbmllcaaGreatDoor
open Go.RowKit
set_option maxHeartbeats 4000000 in
set_option maxRecDepth 100000 in
theorem index_any (n : Nat) (hn : n ≤ 64) (f : Nat → Bool) (hb : Nat) (w : World) (hH : At w hb (bosA n f) 4) : Calls Tryz.prog 120 #[.slice (some ⟨hb, 0, none⟩) n n, .bool true] w fun e w' => (∃ z : Int, e = .returned (.int .i64 z) ∧ decide (0 ≤ z) = (List.range n).any f) ∧ Below w.heap.size w w' := by
  have hk := Kn.nil [] w
  go_enter Tryz.func120, Tryz.ntmps120
  go_wp2_with (first | ((with_reducible show wpList _ _ _ _ _ _); (first | (refine wS hk ?_; simp only [Act.put, pw]) | (refine wN hk ?_; clear hk; intro w1 hk; simp only [Act.put, pw]) | (refine wT hk ?_; clear hk; intro w1 hk; simp only [Act.put]))))
  go_loopw [8] (fun j wr => ∃ i : Nat, i ≤ n ∧ j = .int .i64 i ∧ (∀ k, k < i → f k = false) ∧ Kn [] w wr []) (fun j _ => n - (intOf j).toNat)
  case atStart => exact ⟨0, by omega, rfl, fun k hk => by omega, hk⟩
  case round =>
    clear hk
    obtain ⟨i, hi, rfl, hall, hk⟩ := hrel
    have HA := hide hall
    clear hall
    by_cases hlt : i < n
    · cases hf : f i with
      | true =>
        have R : Hid ((List.range n).any f = true) := hide (List.any_eq_true.2 ⟨i, List.mem_range.2 hlt, hf⟩)
        go_wp2_with (first | ((with_reducible show wpList _ _ _ _ _ _); (first | (refine wS hk ?_; simp only [Act.put, pw]; (try rw [hf])) | (refine wN hk ?_; clear hk; intro w1 hk; simp only [Act.put, pw]) | (refine wT hk ?_; clear hk; intro w1 hk; simp only [Act.put]))))
        go_ret
        exact ⟨⟨_, rfl, by rw [R.out, decide_eq_true_eq]; omega⟩, hk.mod.below⟩
      | false =>
        go_wp2_with (first | ((with_reducible show wpList _ _ _ _ _ _); (first | (refine wS hk ?_; simp only [Act.put, pw]; (try rw [hf])) | (refine wN hk ?_; clear hk; intro w1 hk; simp only [Act.put, pw]) | (refine wT hk ?_; clear hk; intro w1 hk; simp only [Act.put]))))
        go_roundw
        case rel => exact ⟨i + 1, by omega, by go_num, fun k hk => by rcases Nat.lt_succ_iff_lt_or_eq.1 hk with h | h; exact HA.out k h; subst h; exact hf, hk⟩
        case measure => simp [intOf]; omega
    · have R : Hid ((List.range n).any f = false) := hide (by rw [List.any_eq_false]; intro k hk; rw [HA.out k (by have := List.mem_range.1 hk; omega)]; simp)
      go_wp2_with (first | ((with_reducible show wpList _ _ _ _ _ _); (first | (refine wS hk ?_; simp only [Act.put, pw]) | (refine wN hk ?_; clear hk; intro w1 hk; simp only [Act.put, pw]) | (refine wT hk ?_; clear hk; intro w1 hk; simp only [Act.put]))))
      go_ret
      exact ⟨⟨_, rfl, by rw [R.out]; rfl⟩, hk.mod.below⟩
set_option maxHeartbeats 4000000 in
set_option maxRecDepth 100000 in
theorem contains_any (n : Nat) (hn : n ≤ 64) (f : Nat → Bool) (hb : Nat) (w : World) (hH : At w hb (bosA n f) 4) : Calls Tryz.prog 106 #[.slice (some ⟨hb, 0, none⟩) n n, .bool true] w fun e w' => e = .returned (.bool ((List.range n).any f)) ∧ Below w.heap.size w w' := by
  have hk := Kn.nil [] w
  obtain ⟨B, hB⟩ : ∃ B, (List.range n).any f = B := ⟨_, rfl⟩
  rw [hB]
  have HB := hide hB
  have HH := hide hH
  clear hB hH
  go_enter Tryz.func106, Tryz.ntmps106
  go_wp2_with (first | (go_at_call 120; refine (index_any n hn f hb _ (HH.out.of (hk.mod.block _ HH.out.lt List.not_mem_nil))).mono ?_; rintro e w1 ⟨⟨z, rfl, hz⟩, hb1⟩; replace hk := hk.call hb1; clear hb1; rw [HB.out] at hz) | ((with_reducible show wpList _ _ _ _ _ _); (first | (refine wS hk ?_; simp only [Act.put, pw]) | (refine wN hk ?_; clear hk; intro w1 hk; simp only [Act.put, pw]) | (refine wT hk ?_; clear hk; intro w1 hk; simp only [Act.put]))))
  go_ret
  exact ⟨by rw [← hz]; rfl, hk.mod.below⟩
def updN (f : Nat → Nat) (i x : Nat) : Nat → Nat := fun j => if j = i then x else f j
theorem set_int (n : Nat) (f : Nat → Nat) (i x : Nat) : (intA n f).setIfInBounds (i * 1) (.int .i64 (wrap64 (x : Int))) = intA n (updN f i x) := by
  have h := rows_put (n := n) (k := 1) (g := fun i => #[.int .i64 (wrap64 (f i : Int))]) (i := i) (c := #[.int .i64 (wrap64 (x : Int))]) rfl
  have e : putA (rowsA n 1 fun i => #[.int .i64 (wrap64 (f i : Int))]) (i * 1) [.int .i64 (wrap64 (x : Int))] = (intA n f).setIfInBounds (i * 1) (.int .i64 (wrap64 (x : Int))) := rfl
  rw [← e]
  refine Eq.trans h ?_
  unfold intA
  refine rows_congr fun j _ => ?_
  unfold updN
  split <;> rfl
theorem addI_run (ρ : Operand → Value) (d : Option Tmp) (x y : Operand) (tt t' : TypeId) (pos : String) (aft : Array Edge) (g : Option (Nat × Bool)) (p q : Int) (w : World) (hx : ρ x = .int .i64 p) (hy : ρ y = .int .i64 q) : (execOp ρ ⟨d, .binOp .add 3 x y t', tt, pos, aft, g⟩).run Tryz.prog w = .ok (.value (.int .i64 (wrap64 (p + q)))) w := by
  unfold execOp; simp only [hx, hy]; simp [go_sem]; exact IntWalk.i64_left _
section
variable {l : List Oper} {Q : Exit → Act → World → Prop} {F : Nat → Bool} {S : World → Prop} {i : Nat} {r : OT} {a : Act} {w w0 : World} {M : List Nat} {L L' : RowL} {d : Option Tmp} {x y : Operand} {t tt ty : TypeId} {pos : String} {aft : Array Edge} {g : Option (Nat × Bool)} {b j n : Nat} {A A' : Array Value}
set_option maxRecDepth 100000 in
theorem sStore1I {zi : Int} (hk : Kn M w0 w L) (h : ∀ w1, Kn M w0 w1 L' → (F i = true → S w1) ∧ wpT Tryz.prog l Q F S r (a.put d undef) w1) (ho : nthO i l = some ⟨d, .store ty x y, tt, pos, aft, g⟩ := by rfl) (hw : Region.wanted ⟨d, .store ty x y, tt, pos, aft, g⟩ (yielded l.toArray a.tmps) = true := by rfl) (hx : a.eval x = .pointer (some ⟨b, j, none⟩) := by rfl) (hy : a.eval y = .int .i64 zi := by rfl) (hm : (b, A, t) ∈ L := by with_reducible repeat (first | exact List.mem_cons_self | apply List.mem_cons_of_mem)) (hT : oneTab ty = some n := by rfl) (hj : j + 1 ≤ A.size) (hA : A.setIfInBounds j (.int .i64 zi) = A') (hs : setB b A' L L' := by with_reducible repeat (first | exact setB_here _ _ _ _ _ | apply setB_next)) : wpT Tryz.prog l Q F S (.op i r) a w :=
  tActK ho rfl hw fun _ hK => oStore1 hx hy hk hm (oneT_of hT) rfl hj rfl hA hs fun w1 hk1 => hK _ _ (h w1 hk1).1 (h w1 hk1).2
set_option maxRecDepth 100000 in
theorem sAddI {p q m : Int} (hk : S w) (h : wpT Tryz.prog l Q F S r (a.put d (.int .i64 m)) w) (ho : nthO i l = some ⟨d, .binOp .add 3 x y t, tt, pos, aft, g⟩ := by rfl) (hw : Region.wanted ⟨d, .binOp .add 3 x y t, tt, pos, aft, g⟩ (yielded l.toArray a.tmps) = true := by rfl) (hx : a.eval x = .int .i64 p := by rfl) (hy : a.eval y = .int .i64 q := by rfl) (hm : wrap64 (p + q) = m := by assumption) : wpT Tryz.prog l Q F S (.op i r) a w :=
  tRun ho rfl hw hk (fun wx => (addI_run _ _ _ _ _ _ _ _ _ p q wx hx hy).trans (by rw [hm])) h
end
def cntU (v : PS) (k : Nat) : Nat → Nat := fun m => if m < k then (countP v).cnt m else v.cnt m
def chgU (v : PS) (k : Nat) : Nat → Bool := fun m => if m < k then false else v.chg m
theorem cntU_yes {v : PS} {k : Nat} (h : v.chg k = true) : updN (cntU v k) k (cntU v k k + 1) = cntU v (k + 1) := by
  funext m
  unfold updN cntU countP
  by_cases e : m = k
  · subst e; rw [if_pos rfl, if_neg (by omega), if_pos (by omega)]; simp only; rw [if_pos h]
  · rw [if_neg e]
    by_cases h2 : m < k
    · rw [if_pos h2, if_pos (by omega)]
    · rw [if_neg h2, if_neg (by omega)]
theorem cntU_no {v : PS} {k : Nat} (h : v.chg k = false) : cntU v k = cntU v (k + 1) := by
  funext m
  unfold cntU countP
  by_cases e : m = k
  · subst e; rw [if_neg (by omega), if_pos (by omega)]; simp only; rw [h]; rfl
  · by_cases h2 : m < k
    · rw [if_pos h2, if_pos (by omega)]
    · rw [if_neg h2, if_neg (by omega)]
theorem chgU_step (v : PS) (k : Nat) : updB (chgU v k) k false = chgU v (k + 1) := by
  funext m
  unfold updB chgU
  by_cases e : m = k
  · subst e; rw [if_pos rfl, if_pos (by omega)]
  · rw [if_neg e]
    by_cases h2 : m < k
    · rw [if_pos h2, if_pos (by omega)]
    · rw [if_neg h2, if_neg (by omega)]
theorem bos_congr {n : Nat} {f g : Nat → Bool} (h : ∀ i, i < n → f i = g i) : bosA n f = bosA n g := rows_congr fun i hi => by rw [h i hi]
theorem int_congr {n : Nat} {f g : Nat → Nat} (h : ∀ i, i < n → f i = g i) : intA n f = intA n g := rows_congr fun i hi => by rw [h i hi]
set_option maxHeartbeats 8000000 in
set_option maxRecDepth 100000 in
theorem count_pv (n : Nat) (hn : n ≤ 64) (V pb pc mb sb kb cb hb : Nat) (v : PS) (hne : cb ≠ hb) (hVM : V ∉ [cb, hb]) (w : World) (hV : At w V (prC pb pc mb sb kb cb hb n) 137) (hC : At w cb (intA n v.cnt) 3) (hH : At w hb (bosA n v.chg) 4) :
    Calls Tryz.prog 107 #[.pointer (some ⟨V, 0, none⟩)] w fun e w' => e = .returned (.tuple #[]) ∧ Mod [cb, hb] w w' ∧ At w' cb (intA n (countP v).cnt) 3 ∧ At w' hb (bosA n (countP v).chg) 4 := by
  have hk := Kn.two hC hH hne
  go_enter Tryz.func107, Tryz.ntmps107
  go_wp2_with (first | ((with_reducible show wpList _ _ _ _ _ _); (first | (refine wS hk ?_; simp only [Act.put, pw]) | (refine wN hk ?_; clear hk; intro w1 hk; simp only [Act.put, pw]) | (refine wT hk ?_; clear hk; intro w1 hk; simp only [Act.put]))))
  replace hk : Kn [cb, hb] w w [(cb, intA n (cntU v 0), 3), (hb, bosA n (chgU v 0), 4)] := hk
  go_loopw [9] (fun j wr => ∃ i : Nat, i ≤ n ∧ j = .int .i64 i ∧ Kn [cb, hb] w wr [(cb, intA n (cntU v i), 3), (hb, bosA n (chgU v i), 4)]) (fun j _ => n - (intOf j).toNat)
  case atStart => exact ⟨0, by omega, rfl, hk⟩
  case round =>
    clear hk
    obtain ⟨i, hi, rfl, hk⟩ := hrel
    by_cases hlt : i < n
    · have hcu : chgU v i i = v.chg i := by unfold chgU; rw [if_neg (by omega)]
      have R2 := hide (chgU_step v i)
      cases hcg : v.chg i with
      | false =>
        rw [hcg] at hcu
        have R1 := hide (cntU_no hcg)
        clear hcg
        go_wp2_with (first | ((with_reducible show wpList _ _ _ _ _ _); (first | (refine wS hk ?_; simp only [Act.put, pw]; (try rw [hcu])) | (refine wN hk ?_; clear hk; intro w1 hk; simp only [Act.put, pw]) | (refine wT hk ?_; clear hk; intro w1 hk; simp only [Act.put]))))
        go_roundw
        case rel => exact ⟨i + 1, by omega, by go_num, by rw [← R1.out, ← R2.out]; exact hk⟩
        case measure => simp [intOf]; omega
      | true =>
        rw [hcg] at hcu
        have R1 := hide (cntU_yes hcg)
        have hadd : wrap64 (wrap64 (cntU v i i : Int) + 1) = wrap64 ((cntU v i i + 1 : Nat) : Int) := by unfold wrap64; omega
        clear hcg
        go_upto_region 4 with (first | ((with_reducible show wpList _ _ _ _ _ _); (first | (refine wS hk ?_; simp only [Act.put, pw]; (try rw [hcu])) | (refine wN hk ?_; clear hk; intro w1 hk; simp only [Act.put, pw]) | (refine wT hk ?_; clear hk; intro w1 hk; simp only [Act.put]))))
        (refine wp_regLK hk (.op 0 (.op 1 (.op 2 (.op 3 (.op 4 (.op 5 (.op 6 (.op 7 (.op 8 (.op 9 .nil)))))))))) (by rfl) ?_)
        (repeat (refine sV hk ?_; simp only [Act.put, pw]))
        refine sNil hk ?_; simp only [Act.put, pw]
        (repeat (refine sV hk ?_; simp only [Act.put, pw]))
        refine sLoad1 hk ?_ (hv := get_int _ _ _ hlt); simp only [Act.put, pw]
        refine sAddI hk ?_; simp only [Act.put, pw]
        (repeat (refine sV hk ?_; simp only [Act.put, pw]))
        refine sStore1I hk ?_ (hj := by rw [intA_size]; omega) (hA := set_int _ _ _ _); clear hk; intro w1 hk; refine ⟨fun h => absurd h (by decide), ?_⟩; simp only [Act.put]
        refine tNil ?_
        go_wp2_with (first | ((with_reducible show wpList _ _ _ _ _ _); (first | (refine wS hk ?_; simp only [Act.put, pw]) | (refine wN hk ?_; clear hk; intro w1 hk; simp only [Act.put, pw]) | (refine wT hk ?_; clear hk; intro w1 hk; simp only [Act.put]))))
        go_roundw
        case rel => exact ⟨i + 1, by omega, by go_num, by rw [← R1.out, ← R2.out]; exact hk⟩
        case measure => simp [intOf]; omega
    · have e1 : i = n := by omega
      subst e1
      have hc1 := hk.at (A := intA i (cntU v i)) (by with_reducible repeat (first | exact List.mem_cons_self | apply List.mem_cons_of_mem))
      have hc2 := hk.at (A := bosA i (chgU v i)) (by with_reducible repeat (first | exact List.mem_cons_self | apply List.mem_cons_of_mem))
      rw [int_congr (g := (countP v).cnt) fun j hj => by unfold cntU; rw [if_pos hj]] at hc1
      rw [bos_congr (g := (countP v).chg) fun j hj => by unfold chgU countP; rw [if_pos hj]] at hc2
      have HC1 := hide hc1
      have HC2 := hide hc2
      have HM := hide hk.mod
      clear hc1 hc2
      go_wp2_with (first | ((with_reducible show wpList _ _ _ _ _ _); (first | (refine wS hk ?_; simp only [Act.put, pw]) | (refine wN hk ?_; clear hk; intro w1 hk; simp only [Act.put, pw]) | (refine wT hk ?_; clear hk; intro w1 hk; simp only [Act.put]))))
      go_end0
      exact ⟨rfl, HM.out, HC1.out, HC2.out⟩
end Go.Proofs.YtamiichlbmllcaaGreatDoor
/-
  (*proof.prover).settle: passes till one changes nothing.
-/
namespace Go.Proofs.YtamiichlbmllcaaGreatDoor
open Go.RowKit
/-- three blocks of a prover that are written -/
theorem Kn.three {w : World} {a b c : Nat} {A B C : Array Value} {s t u : TypeId} (h : At w a A s) (k : At w b B t) (j : At w c C u) (hab : a ≠ b) (hac : a ≠ c) (hbc : b ≠ c) : Kn [a, b, c] w w [(a, A, s), (b, B, t), (c, C, u)] := ⟨Mod.refl _ _, fun x hx => (by simp at hx; rcases hx with rfl | rfl | rfl; exact ⟨h, Or.inr (by simp)⟩; exact ⟨k, Or.inr (by simp)⟩; exact ⟨j, Or.inr (by simp)⟩), by simp [hab, hac, hbc]⟩
theorem Kn.callX {M N : List Nat} {w0 w w' : World} {L L' : RowL} (h : Kn M w0 w L) (hm : Mod N w w') (hN : ∀ b, b ∈ N → b ∈ M) (hkeys : L.map (·.1) = L'.map (·.1)) (hrow : ∀ x, x ∈ L' → At w' x.1 x.2.1 x.2.2) : Kn M w0 w' L' := by
  refine ⟨h.mod.step hm fun b hb => Or.inr (hN b hb), fun x hx => ⟨hrow x hx, ?_⟩, pw_keys hkeys h.dis⟩
  have : x.1 ∈ L'.map (·.1) := List.mem_map_of_mem hx
  rw [← hkeys] at this
  obtain ⟨y, hy, e⟩ := List.mem_map.1 this
  rw [← e]
  exact (h.has y hy).2
theorem Kn.four {M N : List Nat} {w0 w w' : World} {a b c d : Nat} {A B C D A' B' C' D' : Array Value} {s t u v : TypeId} (h : Kn M w0 w [(a, A, s), (b, B, t), (c, C, u), (d, D, v)]) (hm : Mod N w w') (hN : ∀ b, b ∈ N → b ∈ M) (h1 : At w' a A' s) (h2 : At w' b B' t) (h3 : At w' c C' u) (h4 : At w' d D' v) : Kn M w0 w' [(a, A', s), (b, B', t), (c, C', u), (d, D', v)] :=
  h.callX hm hN rfl fun x hx => by
    simp only [List.mem_cons, List.not_mem_nil, or_false] at hx
    rcases hx with rfl | rfl | rfl | rfl
    · exact h1
    · exact h2
    · exact h3
    · exact h4
/-- a prover: its blocks, apart from one another, and what they hold -/
structure PrvB (l : List I5) (V pb pc mb sb kb cb hb : Nat) (w : World) : Prop where
  prog : ProgC w pb iVal l
  marks : At w mb (bosA l.length (markB l)) 4
  self : At w V (prC pb pc mb sb kb cb hb l.length) 137
  backs : At w kb (bosA l.length (backB l)) 4
  nsc : sb ≠ cb
  nsh : sb ≠ hb
  nch : cb ≠ hb
  nP : pb ∉ [sb, cb, hb]
  nM : mb ∉ [sb, cb, hb]
  nV : V ∉ [sb, cb, hb]
  nK : kb ∉ [sb, cb, hb]
theorem PrvB.mod {l : List I5} {V pb pc mb sb kb cb hb : Nat} {w w' : World} (h : PrvB l V pb pc mb sb kb cb hb w) (hm : Mod [sb, cb, hb] w w') : PrvB l V pb pc mb sb kb cb hb w' :=
  ⟨h.prog.mod hm h.nP, h.marks.mod hm h.nM, h.self.mod hm h.nV, h.backs.mod hm h.nK, h.nsc, h.nsh, h.nch, h.nP, h.nM, h.nV, h.nK⟩
theorem PrvB.prov {l : List I5} {V pb pc mb sb kb cb hb : Nat} {w : World} {cnt : Nat → Nat} (h : PrvB l V pb pc mb sb kb cb hb w) (hc : At w cb (intA l.length cnt) 3) : ProvB l V pb pc mb sb kb cb hb cnt w := by
  have h1 := h.nP; have h2 := h.nM; have h3 := h.nV; have h4 := h.nK; have h5 := h.nsc; have h6 := h.nch
  simp only [List.mem_cons, List.not_mem_nil, or_false, not_or] at h1 h2 h3 h4
  refine ⟨h.prog, h.marks, h.self, h.backs, hc, h.nsh, ?_, ?_, ?_, ?_, ?_⟩ <;> simp only [List.mem_cons, List.not_mem_nil, or_false, not_or]
  · exact ⟨h1.1, h1.2.2⟩
  · exact ⟨h2.1, h2.2.2⟩
  · exact ⟨h3.1, h3.2.2⟩
  · exact ⟨h4.1, h4.2.2⟩
  · exact ⟨fun e => h5 e.symm, h6⟩
theorem Kn.first {M : List Nat} {w0 w : World} {r0 : Nat × Array Value × TypeId} {L : RowL} (h : Kn M w0 w (r0 :: L)) : Kn M w0 w [r0] := h.sub (.cons_cons _ (List.nil_sublist _))
theorem wp_reg1 {P : Program} {id : Nat} {l : List Oper} {Q : Exit → Act → World → Prop} {a : Act} {w : World} {M : List Nat} {w0 : World} {r0 : Nat × Array Value × TypeId} {L : RowL} (hk : Kn M w0 w (r0 :: L)) (t : OT) (F : Nat → Bool) (hm : P.follows .mixedOrders = true) (hn : t.size ≤ l.length) (hsel : Region.noSelect l.toArray = true)
    (hv : okT l.toArray F t (Array.replicate l.length false) = true) (h : ∀ w1, Kn M w0 w1 (r0 :: L) → wpT P l Q F (fun wx => Kn M w0 wx [r0]) t a w1) : (Code.region id l.toArray true).wp P Q a w := wp_regS hk _ t F hm hn hsel hv h
theorem ex_pr (pb pc mb sb kb cb hb n : Nat) : (prC pb pc mb sb kb cb hb n).extract 0 (0 + 3) = rtC pb pc mb sb n := by kernel_rfl
theorem iface_run (ρ : Operand → Value) (d : Option Tmp) (x : Operand) (tt : TypeId) (pos : String) (aft : Array Edge) (g : Option (Nat × Bool)) (a : Option Addr) (w : World) (hx : ρ x = .pointer a) : (execOp ρ ⟨d, .makeInterface 132 x, tt, pos, aft, g⟩).run Tryz.prog w = .ok (.value (.iface 132 (.pointer a))) w := by
  unfold execOp; simp only [hx]; simp [go_sem]
section
variable {l : List Oper} {Q : Exit → Act → World → Prop} {F : Nat → Bool} {S : World → Prop} {i : Nat} {r : OT} {a : Act} {w : World} {d : Option Tmp} {x : Operand} {tt : TypeId} {pos : String} {aft : Array Edge} {g : Option (Nat × Bool)}
set_option maxRecDepth 100000 in
theorem sIfaceP {p : Option Addr} (hk : S w) (h : wpT Tryz.prog l Q F S r (a.put d (.iface 132 (.pointer p))) w) (ho : nthO i l = some ⟨d, .makeInterface 132 x, tt, pos, aft, g⟩ := by rfl) (hw : Region.wanted ⟨d, .makeInterface 132 x, tt, pos, aft, g⟩ (yielded l.toArray a.tmps) = true := by rfl) (hx : a.eval x = .pointer p := by rfl) : wpT Tryz.prog l Q F S (.op i r) a w :=
  tRun ho rfl hw hk (fun wx => iface_run _ _ _ _ _ _ _ p wx hx) h
end
theorem AllFit.fitP {l : List I5} (hl : AllFit l) (h64 : ∀ i, i < l.length → I64 (insAt l i).k) : Fit l := by
  refine ⟨fun n hn => ⟨hl.regs hn, ?_, ?_, h64 n hn⟩, fun n hn h9 => hl.k hn h9⟩
  · have := hl.fit hn
    unfold I5.fits fitsB at this
    simp only [Bool.and_eq_true, decide_eq_true_eq] at this
    omega
  · have := hl.fit hn
    unfold I5.fits fitsB at this
    simp only [Bool.and_eq_true, decide_eq_true_eq] at this
    omega
set_option maxHeartbeats 8000000 in
set_option maxRecDepth 100000 in
theorem settle_pv (l : List I5) (hl : AllFit l) (h64 : ∀ i, i < l.length → I64 (insAt l i).k) (V pb pc mb sb kb cb hb : Nat) (v0 : PS) (e : St) (he : e.ok ∧ e.in64) (hI : PInv l v0) (hcb : CB (backB l) v0) (hch : ∀ j, j < l.length → v0.chg j = false) (w : World) (hB : PrvB l V pb pc mb sb kb cb hb w) (hS : At w sb (plsA l.length v0.W) 174) (hC : At w cb (intA l.length v0.cnt) 3) (hH : At w hb (bosA l.length v0.chg) 4) :
    Calls Tryz.prog 72 #[.pointer (some ⟨V, 0, none⟩), .agg (stC e)] w fun x w' => x = .returned (.tuple #[]) ∧ ∃ vf, Settles l e v0 vf ∧ Mod [sb, cb, hb] w w' ∧ At w' sb (plsA l.length vf.W) 174 := by
  have hk := Kn.three hS hC hH hB.nsc hB.nsh hB.nch
  have hL : l.length ≤ 64 := hl.2.1
  have HL := hide hl
  have H64 := hide h64
  have HE := hide he
  have HF := hide (hl.fitP h64)
  have HB := hide hB
  have hVs := hB.self
  have hVn := hB.nV
  have HI0 := hide hI
  have HC0 := hide hcb
  have HH0 := hide hch
  clear hl h64 he hB hI hcb hch hS hC hH
  go_enter Tryz.func72, Tryz.ntmps72
  go_wp2_with (first | ((with_reducible show wpList _ _ _ _ _ _); (first | (refine wS hk ?_; simp only [Act.put, pw]) | (refine wN hk ?_; clear hk; intro w1 hk; simp only [Act.put, pw]) | (refine wT hk ?_; clear hk; intro w1 hk; simp only [Act.put]))))
  go_loopg [] (muP l.length v0 + 1) (fun g wx => ∃ v : PS, g = muP l.length v + 1 ∧ PInv l v ∧ CB (backB l) v ∧ (∀ j, j < l.length → v.chg j = false) ∧ (∀ vf, Settles l e v vf → Settles l e v0 vf) ∧ Kn [sb, cb, hb] w wx [(w.heap.size, stC e, 30), (sb, plsA l.length v.W, 174), (cb, intA l.length v.cnt, 3), (hb, bosA l.length v.chg, 4)])
  case atStart => exact ⟨v0, rfl, HI0.out, HC0.out, HH0.out, fun _ h => h, hk⟩
  case round =>
    clear hk
    obtain ⟨v, hg, hI, hcb, hch, hset, hk⟩ := hrel
    have HI := hide hI
    have HCB := hide hcb
    have HCH := hide hch
    have HSET := hide hset
    have HG := hide hg
    obtain ⟨v1, hv1⟩ : ∃ v1, passP l l.length 0 (some e) v = v1 := ⟨_, rfl⟩
    have ho : OkO (some e) := fun s hs => by simp only [Option.some.injEq] at hs; rw [← hs]; exact HE.out
    have HP := hide (passP_cb HL.out H64.out l.length 0 (some e) v (by omega) ho hI.ok hcb)
    have HI1 := hide (passP_inv HF.out l.length 0 (some e) v (by omega) hI ho)
    have HMU : Hid (anyChg l v1 = true → muP l.length (countP v1) < muP l.length v) := hide (by rw [← hv1]; exact pass_mu HF.out HE.out hI hch)
    have HCL : Hid (∀ k, backB l k = true → v.cnt k ≤ 20) := hide fun k hk => hcb.le hk
    have HD : Hid (w.heap.size ∉ [sb, hb] ∧ w.heap.size ∉ [cb, hb]) := hide (by
      have := hk.dis
      simp only [List.pairwise_cons, List.mem_cons, List.not_mem_nil, or_false, forall_eq_or_imp, forall_eq] at this
      simp only [List.mem_cons, List.not_mem_nil, or_false, not_or]
      exact ⟨⟨this.1.1, this.1.2.2⟩, this.1.2.1, this.1.2.2⟩)
    have HV1 := hide hv1
    have HCN1 : Hid (v1.cnt = v.cnt) := hide (by rw [← hv1]; exact HP.out.2.2)
    clear hI hcb hch hset hg hv1 ho
    go_wp2_with (first | ((with_reducible show wpList _ _ _ _ _ _); (first | (refine wS hk ?_; simp only [Act.put, pw]) | (refine wN hk ?_; clear hk; intro w1 hk; simp only [Act.put, pw]) | (refine wT hk ?_; clear hk; intro w1 hk; simp only [Act.put]))))
    refine wp_reg1 hk (.op 0 (.op 1 (.op 2 (.op 3 (.op 4 (.op 5 (.op 6 (.op 7 .nil)))))))) (fun i => decide (i < 8)) mixT (by decide) (by kernel_rfl) (by kernel_rfl) ?_; clear hk; intro w1 hk
    refine sMove hk.first ?_; simp only [Act.put, pw]
    refine sNil hk.first ?_; simp only [Act.put, pw]
    (repeat (refine sV hk.first ?_; simp only [Act.put, pw]))
    refine sOldR hk.first ?_ (hc := ex_pr _ _ _ _ _ _ _ _); simp only [Act.put, pw]
    (repeat (refine sV hk.first ?_; simp only [Act.put, pw]))
    refine sIfaceP hk.first ?_; simp only [Act.put, pw]
    refine sCall ?_; intro K hK; go_step; go_at_call 66
    refine (pass_pv l HL.out H64.out V pb pc mb sb kb cb hb v e HE.out HI.out.ok HCL.out _ ((HB.out.mod hk.mod).prov (hk.at (by with_reducible repeat (first | exact List.mem_cons_self | apply List.mem_cons_of_mem)))) (hk.at (by with_reducible repeat (first | exact List.mem_cons_self | apply List.mem_cons_of_mem))) (hk.at (by with_reducible repeat (first | exact List.mem_cons_self | apply List.mem_cons_of_mem)))).mono ?_
    rintro x w2 ⟨⟨za, zb, rfl⟩, hT1, hT2, hT3⟩
    rw [HV1.out] at hT2 hT3
    have hcn : cb ∉ [sb, hb] := by have h1 := HB.out.nsc; have h2 := HB.out.nch; simp only [List.mem_cons, List.not_mem_nil, or_false, not_or]; exact ⟨fun e => h1 e.symm, h2⟩
    replace hk := hk.four hT1 (fun b hb => by simp only [List.mem_cons, List.not_mem_nil, or_false] at hb ⊢; rcases hb with h | h <;> simp [h]) ((hk.at (A := stC e) (by with_reducible repeat (first | exact List.mem_cons_self | apply List.mem_cons_of_mem))).mod hT1 HD.out.1) hT2 ((hk.at (A := intA l.length v.cnt) (by with_reducible repeat (first | exact List.mem_cons_self | apply List.mem_cons_of_mem))).mod hT1 hcn) hT3
    refine hK _ _ (fun _ => hk.first) ?_
    clear hK K hT1 hT2 hT3
    refine tNil ?_
    cases hA : anyChg l v1 with
    | false =>
      have HA := hide hA
      have HST : Hid (Settles l e v0 v1) := hide (HSET.out v1 (by have := Settles.done (p := l) (e := e) v (by rw [HV1.out]; exact hA); rw [HV1.out] at this; exact this))
      clear hA
      go_wp2_with (first | (go_at_call 106; refine (contains_any l.length hL v1.chg hb _ (hk.at (by with_reducible repeat (first | exact List.mem_cons_self | apply List.mem_cons_of_mem)))).mono ?_; rintro x w3 ⟨rfl, hb3⟩; replace hk := hk.call hb3; clear hb3; rw [show (List.range l.length).any v1.chg = false from HA.out]) | ((with_reducible show wpList _ _ _ _ _ _); (first | (refine wS hk ?_; simp only [Act.put, pw]) | (refine wN hk ?_; clear hk; intro w1 hk; simp only [Act.put, pw]) | (refine wT hk ?_; clear hk; intro w1 hk; simp only [Act.put]))))
      exact bodyPost_ret (results_none rfl _ _ _) rfl ⟨rfl, v1, HST.out, hk.mod, hk.at (by with_reducible repeat (first | exact List.mem_cons_self | apply List.mem_cons_of_mem))⟩
    | true =>
      have HA := hide hA
      have HST : Hid (∀ vf, Settles l e (countP v1) vf → Settles l e v0 vf) := hide fun vf h => HSET.out vf (Settles.more v vf (by rw [HV1.out]; exact HA.out) (by rw [HV1.out]; exact h))
      clear hA
      go_wp2_with (first | (go_at_call 106; refine (contains_any l.length hL v1.chg hb _ (hk.at (by with_reducible repeat (first | exact List.mem_cons_self | apply List.mem_cons_of_mem)))).mono ?_; rintro x w3 ⟨rfl, hb3⟩; replace hk := hk.call hb3; clear hb3; rw [show (List.range l.length).any v1.chg = true from HA.out]) | ((with_reducible show wpList _ _ _ _ _ _); (first | (refine wS hk ?_; simp only [Act.put, pw]) | (refine wN hk ?_; clear hk; intro w1 hk; simp only [Act.put, pw]) | (refine wT hk ?_; clear hk; intro w1 hk; simp only [Act.put]))))
      go_at_call 107
      have hA1 := hk.at (A := intA l.length v.cnt) (by with_reducible repeat (first | exact List.mem_cons_self | apply List.mem_cons_of_mem))
      rw [← HCN1.out] at hA1
      have hA2 := hk.at (A := bosA l.length v1.chg) (by with_reducible repeat (first | exact List.mem_cons_self | apply List.mem_cons_of_mem))
      have hnv : V ∉ [cb, hb] := by have := HB.out.nV; simp only [List.mem_cons, List.not_mem_nil, or_false, not_or] at this ⊢; exact this.2
      refine (count_pv l.length hL V pb pc mb sb kb cb hb v1 HB.out.nch hnv _ (HB.out.mod hk.mod).self hA1 hA2).mono ?_
      rintro x w4 ⟨rfl, hT1, hT2, hT3⟩
      have hsn : sb ∉ [cb, hb] := by have h1 := HB.out.nsc; have h2 := HB.out.nsh; simp only [List.mem_cons, List.not_mem_nil, or_false, not_or]; exact ⟨h1, h2⟩
      replace hk := hk.four hT1 (fun b hb => by simp only [List.mem_cons, List.not_mem_nil, or_false] at hb ⊢; rcases hb with h | h <;> simp [h]) ((hk.at (A := stC e) (by with_reducible repeat (first | exact List.mem_cons_self | apply List.mem_cons_of_mem))).mod hT1 HD.out.2) ((hk.at (A := plsA l.length v1.W) (by with_reducible repeat (first | exact List.mem_cons_self | apply List.mem_cons_of_mem))).mod hT1 hsn) hT2 hT3
      clear hT1 hT2 hT3 hA1 hA2
      obtain ⟨v2, hv2⟩ : ∃ v2, countP v1 = v2 := ⟨_, rfl⟩
      have HVW : Hid (v2.W = v1.W) := hide (by rw [← hv2]; rfl)
      rw [hv2] at hk
      have HV2 := hide hv2
      clear hv2
      go_wp2_with (first | ((with_reducible show wpList _ _ _ _ _ _); (first | (refine wS hk ?_; simp only [Act.put, pw]) | (refine wN hk ?_; clear hk; intro w1 hk; simp only [Act.put, pw]) | (refine wT hk ?_; clear hk; intro w1 hk; simp only [Act.put]))))
      go_roundg (muP l.length v2 + 1)
      case measure => have := HMU.out HA.out; have := HG.out; rw [HV2.out] at *; omega
      case rel => exact ⟨v2, rfl, by rw [← HV2.out, ← HV1.out]; exact count_inv HI1.out, by rw [← HV2.out, ← HV1.out]; exact count_cb HP.out.1, fun _ _ => by rw [← HV2.out]; rfl, by rw [← HV2.out]; exact HST.out, by rw [HVW.out]; exact hk⟩
end Go.Proofs.YtamiichlbmllcaaGreatDoor
/-
  proof.backsOf and proof.claimsOf.
-/
namespace Go.Proofs.YtamiichlbmllcaaGreatDoor
open Go.RowKit
def bkB (l : List I5) (n m : Nat) : Bool := decide (9 ≤ (insAt l n).o) && decide ((insAt l n).k = m) && decide (m ≤ n)
def bkU (l : List I5) (i : Nat) : Nat → Bool := fun m => (List.range i).any fun n => bkB l n m
theorem bkU_all (l : List I5) : bkU l l.length = backB l := rfl
theorem bkU_succ (l : List I5) (i m : Nat) : bkU l (i + 1) m = (bkU l i m || bkB l i m) := by
  unfold bkU; rw [List.range_succ, List.any_append]; simp
theorem bkU_no {l : List I5} {i : Nat} (h : ∀ m, bkB l i m = false) : bkU l (i + 1) = bkU l i := by
  funext m; rw [bkU_succ, h m, Bool.or_false]
theorem bkU_yes {l : List I5} {i k : Nat} (hj : jumpsB (insAt l i) = true) (hk : targI (insAt l i) = k) (hle : k ≤ i) : bkU l (i + 1) = updB (bkU l i) k true := by
  funext m
  rw [bkU_succ]
  unfold updB bkB
  unfold jumpsB at hj
  unfold targI at hk
  simp only [decide_eq_true_eq] at hj
  rw [if_pos hj] at hk
  by_cases e : m = k
  · subst e; simp [hj, hk, hle]
  · have : ¬ ((insAt l i).k = (m : Int)) := by rw [hk]; omega
    simp [this, e]
set_option maxHeartbeats 4000000 in
set_option maxRecDepth 100000 in
theorem backsOf_any (l : List I5) (hl : AllFit l) (pb cap : Nat) (w : World) (hp : ProgC w pb iVal l) : Calls Tryz.prog 105 #[.slice (some ⟨pb, 0, none⟩) l.length cap] w fun e w' => ∃ mb, e = .returned (.slice (some ⟨mb, 0, none⟩) l.length l.length) ∧ At w' mb (bosA l.length (backB l)) 4 ∧ w.heap.size ≤ mb ∧ Below w.heap.size w w' := by
  have hk := Kn.nil [] w
  have hL : l.length ≤ 64 := hl.2.1
  have HP := hide hp
  clear hp
  go_enter Tryz.func105, Tryz.ntmps105
  go_wp2_with (first | ((with_reducible show wpList _ _ _ _ _ _); (first | (refine wS hk ?_; simp only [Act.put, pw]) | (refine wN hk ?_; clear hk; intro w1 hk; simp only [Act.put, pw]) | (refine wT hk ?_; clear hk; intro w1 hk; simp only [Act.put]))))
  replace hk : Kn [] w w1 [(w.heap.size, bosA l.length (bkU l 0), 4)] := hk
  go_loopw [12] (fun j wr => ∃ i : Nat, i ≤ l.length ∧ j = .int .i64 i ∧ Kn [] w wr [(w.heap.size, bosA l.length (bkU l i), 4)]) (fun j _ => l.length - (intOf j).toNat)
  case atStart => exact ⟨0, by omega, rfl, hk⟩
  case round =>
    clear hk
    obtain ⟨i, hi, rfl, hk⟩ := hrel
    by_cases hlt : i < l.length
    · have hc := HP.out.mod hk.mod List.not_mem_nil i hlt
      cases hj : jumpsB (insAt l i) with
      | false =>
        have R := hide (bkU_no (l := l) (i := i) fun m => by unfold bkB; unfold jumpsB at hj; rw [hj]; rfl)
        go_wp2_with (first | (go_at_call 101; refine (target_any (insAt l i) _ (hl.fit hlt) _ _ _ _ hlt _ hc).mono ?_; rintro e w1 ⟨rfl, hb⟩; replace hk := hk.call hb; clear hb; rw [hj]) | ((with_reducible show wpList _ _ _ _ _ _); (first | (refine wS hk ?_; simp only [Act.put, pw]) | (refine wN hk ?_; clear hk; intro w1 hk; simp only [Act.put, pw]) | (refine wT hk ?_; clear hk; intro w1 hk; simp only [Act.put]))))
        go_roundw
        case rel => exact ⟨i + 1, by omega, by go_num, by rw [R.out]; exact hk⟩
        case measure => simp [intOf]; omega
      | true =>
        obtain ⟨k, hk1, hk2⟩ := hl.targ hlt hj
        by_cases hle : k ≤ i
        · have R := hide (bkU_yes hj hk1 hle)
          have hd : decide ((k : Int) ≤ (i : Int)) = true := by rw [decide_eq_true_eq]; omega
          go_wp2_with (first | (go_at_call 101; refine (target_any (insAt l i) _ (hl.fit hlt) _ _ _ _ hlt _ hc).mono ?_; rintro e w1 ⟨rfl, hb⟩; replace hk := hk.call hb; clear hb; rw [hj, hk1]) | ((with_reducible show wpList _ _ _ _ _ _); (first | (refine wS hk ?_; simp only [Act.put, pw]) | (refine wN hk ?_; clear hk; intro w1 hk; simp only [Act.put, pw]) | (refine wT hk ?_; clear hk; intro w1 hk; simp only [Act.put]))))
          go_roundw
          case rel => exact ⟨i + 1, by omega, by go_num, by rw [R.out]; exact hk⟩
          case measure => simp [intOf]; omega
        · have R := hide (bkU_no (l := l) (i := i) fun m => by
            unfold bkB
            unfold jumpsB at hj
            unfold targI at hk1
            simp only [decide_eq_true_eq] at hj
            rw [if_pos hj] at hk1
            by_cases e : m = k
            · subst e; simp [hle]
            · have : ¬ ((insAt l i).k = (m : Int)) := by rw [hk1]; omega
              simp [this])
          have hd : decide ((k : Int) ≤ (i : Int)) = false := by rw [decide_eq_false_iff_not]; omega
          go_wp2_with (first | (go_at_call 101; refine (target_any (insAt l i) _ (hl.fit hlt) _ _ _ _ hlt _ hc).mono ?_; rintro e w1 ⟨rfl, hb⟩; replace hk := hk.call hb; clear hb; rw [hj, hk1]) | ((with_reducible show wpList _ _ _ _ _ _); (first | (refine wS hk ?_; simp only [Act.put, pw]) | (refine wN hk ?_; clear hk; intro w1 hk; simp only [Act.put, pw]) | (refine wT hk ?_; clear hk; intro w1 hk; simp only [Act.put]))))
          go_roundw
          case rel => exact ⟨i + 1, by omega, by go_num, by rw [R.out]; exact hk⟩
          case measure => simp [intOf]; omega
    · have e : i = l.length := by omega
      subst e
      rw [bkU_all] at hk
      go_wp2_with (first | ((with_reducible show wpList _ _ _ _ _ _); (first | (refine wS hk ?_; simp only [Act.put, pw]) | (refine wN hk ?_; clear hk; intro w1 hk; simp only [Act.put, pw]) | (refine wT hk ?_; clear hk; intro w1 hk; simp only [Act.put]))))
      go_ret
      exact ⟨_, rfl, hk.at (by with_reducible repeat (first | exact List.mem_cons_self | apply List.mem_cons_of_mem)), Nat.le_refl _, hk.mod.below⟩
end Go.Proofs.YtamiichlbmllcaaGreatDoor
/-
  proof.claimsOf: a claim for each place that has a state.
-/
namespace Go.Proofs.YtamiichlbmllcaaGreatDoor
open Go.RowKit
def clsW (n : Nat) (W : Nat → Option St) : List C2 := (List.range n).filterMap fun i => (W i).map fun s => ⟨(i : Int), s⟩
theorem clsW_none {n : Nat} {W : Nat → Option St} (h : W n = none) : clsW (n + 1) W = clsW n W := by
  unfold clsW; rw [List.range_succ, List.filterMap_append]; simp [h]
theorem clsW_some {n : Nat} {W : Nat → Option St} {s : St} (h : W n = some s) : clsW (n + 1) W = clsW n W ++ [⟨(n : Int), s⟩] := by
  unfold clsW; rw [List.range_succ, List.filterMap_append]; simp [h]
theorem clsW_len (n : Nat) (W : Nat → Option St) : (clsW n W).length ≤ n := by
  unfold clsW
  exact Nat.le_trans (List.length_filterMap_le _ _) (by simp)
theorem Mod.grown {w w' : World} (h : Mod [] w w') : w.grownBy w' none := ⟨h.os, h.tape, h.output, h.size, fun k hk _ => h.block k hk (by simp)⟩
def ownM (v : Value) : List Nat := v.ownBlock.toList
theorem grown_mod {w w' : World} {v : Value} (h : w.grownBy w' v.ownBlock) : Mod (ownM v) w w' := ⟨h.os, h.tape, h.output, h.size, fun k hk hn => h.block k hk (by
  intro e; apply hn; unfold ownM; rw [← e]; simp)⟩
theorem Kn.weak {M : List Nat} {w0 w : World} {L : RowL} (h : Kn [] w0 w L) : Kn M w0 w L := ⟨⟨h.mod.os, h.mod.tape, h.mod.output, h.mod.size, fun k hk _ => h.mod.block k hk (by simp)⟩, fun x hx => ⟨(h.has x hx).1, by rcases (h.has x hx).2 with h | h; exact Or.inl h; cases h⟩, h.dis⟩
/-- behind a write to blocks of M alone -/
theorem Kn.grow {M : List Nat} {w0 w w' : World} {L : RowL} (h : Kn M w0 w L) (hm : Mod M w w') (hL : ∀ x, x ∈ L → x.1 ∉ M) : Kn M w0 w' L :=
  ⟨h.mod.trans hm, fun x hx => ⟨(h.has x hx).1.mod hm (hL x hx), (h.has x hx).2⟩, h.dis⟩
section
variable {l : List Oper} {Q : Exit → Act → World → Prop} {F : Nat → Bool} {S : World → Prop} {i : Nat} {r : OT} {a : Act} {w w0 : World} {M : List Nat} {L L' : RowL} {d : Option Tmp} {x y : Operand} {t tt ty : TypeId} {pos : String} {aft : Array Edge} {g : Option (Nat × Bool)}
set_option maxRecDepth 100000 in
theorem sBuildCl {p : Int} {s : St} (hk : Kn M w0 w L) (h : ∀ w1, w1 = w.alloc (.cells (clC p s) 78) → Kn M w0 w1 ((w.heap.size, clC p s, 78) :: L) → (F i = true → S w1) ∧ wpT Tryz.prog l Q F S r (a.put d (.slice (some ⟨w.heap.size, 0, none⟩) 1 1)) w1) (ho : nthO i l = some ⟨d, .buildSlice 41 1 #[(0, x)], tt, pos, aft, g⟩ := by rfl) (hw : Region.wanted ⟨d, .buildSlice 41 1 #[(0, x)], tt, pos, aft, g⟩ (yielded l.toArray a.tmps) = true := by rfl) (hx : a.eval x = .agg (clC p s) := by rfl) : wpT Tryz.prog l Q F S (.op i r) a w := by
  obtain ⟨ie, hie, hz⟩ : ∃ ie, Tryz.prog.info? 78 = some ie ∧ (ie.size = 17 ∧ ie.zero = some (.agg (clC 0 zeroS))) := by
    obtain ⟨ie, hi, h2⟩ := Option.map_eq_some_iff.1 (show (Tryz.prog.info? 78).map (fun i => (i.size, i.zero)) = some (17, some (.agg (clC 0 zeroS))) by kernel_rfl)
    simp only [Prod.mk.injEq] at h2
    exact ⟨ie, hi, h2⟩
  refine tActK ho rfl hw fun K hK => wp_buildSlice 41 78 1 _ rfl (clC p s) ie _ Tryz.underlying41 hie hz.2 (by rw [hz.1]; omega) (by rw [hz.1]; omega) ?_ ?_
  · rw [hz.1]
    have e : (#[(0, x)].map fun (i, x) => (i, a.eval x)).toList = [(0, Value.agg (clC p s))] := by simp [hx]
    rw [e]
    have e2 : Instr.fill (fun i => some (i * 17, 17)) ((Array.range (1 * 17)).map ((Value.agg (clC 0 zeroS)).cells[· % (Value.agg (clC 0 zeroS)).cells.size]!)) [(0, Value.agg (clC p s))] = some (clC p s) := by kernel_rfl
    exact e2
  · have := h _ rfl (hk.alloc (clC p s) 78)
    exact hK _ _ this.1 this.2
end
theorem own_mod {w w' : World} {base e size n : Nat} {v : Value} {xs : List Value} (h : w.ownsRow base e size v n xs) (hm : Mod [] w w') : w'.ownsRow base e size v n xs := h.kept hm.grown (by cases v.ownBlock <;> simp)
theorem Tryz.infoClaim : (Tryz.prog.info? 78).map (fun i => (i.zero, i.size, i.bytes)) = some (some (.agg (clC 0 zeroS)), 17, 136) := by kernel_rfl
set_option maxHeartbeats 8000000 in
set_option maxRecDepth 100000 in
theorem claimsOf_any (n : Nat) (hn : n ≤ 64) (W : Nat → Option St) (sb cap : Nat) (w : World) (hS : At w sb (plsA n W) 174) : Calls Tryz.prog 73 #[.slice (some ⟨sb, 0, none⟩) n cap] w fun e w' => ∃ v, e = .returned v ∧ w'.ownsRow w.heap.size 78 17 v (clsW n W).length ((clsW n W).flatMap clCells) ∧ Below w.heap.size w w' := by
  obtain ⟨i0, ihi, ih0, ihs, ih2⟩ := info_parts Tryz.infoClaim
  have HS := hide hS
  have hsb := hS.lt
  clear hS
  go_enter Tryz.func73, Tryz.ntmps73
  go_wp2_with fail
  go_loopw [3, 8] (fun u3 j wr => ∃ i : Nat, i ≤ n ∧ j = .int .i64 i ∧ wr.ownsRow w.heap.size 78 17 u3 (clsW i W).length ((clsW i W).flatMap clCells) ∧ Below w.heap.size w wr) (fun _ j _ => n - (intOf j).toNat)
  case atStart => exact ⟨0, by omega, rfl, World.ownsRow_nil _ _ _ _, Below.refl _ _⟩
  case round =>
    obtain ⟨i, hi, rfl, hown, hbl⟩ := hrel
    have hSr : At wr sb (plsA n W) 174 := HS.out.of (hbl.block sb hsb)
    have hk := Kn.nil [] wr
    have HO := hide hown
    have HBL := hide hbl
    have hcl := clsW_len i W
    clear hown hbl
    by_cases hlt : i < n
    · cases hWi : W i with
      | none =>
        have R := hide (clsW_none hWi)
        go_wp2_with (first | ((with_reducible show wpList _ _ _ _ _ _); (first | (refine wS hk ?_; simp only [Act.put, pw]; (try rw [hWi])) | (refine wN hk ?_; clear hk; intro w1 hk; simp only [Act.put, pw]) | (refine wT hk ?_; clear hk; intro w1 hk; simp only [Act.put]))))
        go_roundw
        case rel => exact ⟨i + 1, by omega, by go_num, by rw [R.out]; exact own_mod HO.out hk.mod, HBL.out.trans (hk.mod.below.mono HBL.out.size)⟩
        case measure => simp [intOf]; omega
      | some s =>
        have R := hide (clsW_some hWi)
        go_upto_region 6 with (first | ((with_reducible show wpList _ _ _ _ _ _); (first | (refine wS hk ?_; simp only [Act.put, pw]; (try rw [hWi])) | (refine wN hk ?_; clear hk; intro w1 hk; simp only [Act.put, pw]) | (refine wT hk ?_; clear hk; intro w1 hk; simp only [Act.put]))))
        have HM := hide hk.mod
        have hown1 := own_mod HO.out hk.mod
        replace hk := hk.weak (M := ownM u3)
        (refine wp_regLK hk (.op 0 (.op 1 (.op 2 (.op 3 (.op 4 (.op 5 (.op 6 (.op 7 .nil)))))))) (by rfl) ?_)
        refine sMove hk ?_; simp only [Act.put, pw]
        iterate 3 (first | (refine vMoveI hk ?_; simp only [Act.put, pw]) | (refine sField0 hk ?_; simp only [Act.put, pw]) | (refine sLoadR hk ?_; simp only [Act.put, pw]))
        refine sBuild hk ?_ (hb := fun wx => build_cl _ _ wx); simp only [Act.put, pw]
        refine sBuildCl hk ?_; intro w2 hw2 hk3; refine ⟨fun h => absurd h (by decide), ?_⟩; simp only [Act.put, pw]
        have hown2 : w2.ownsRow w.heap.size 78 17 u3 (clsW i W).length ((clsW i W).flatMap clCells) := by rw [hw2]; exact own_mod hown1 (Mod.alloc _ _ _)
        have hat2 : At w2 w1.heap.size (clC (i : Int) s) 78 := hk3.at List.mem_cons_self
        have hz2 : w.heap.size ≤ w2.heap.size := by have h1 := HBL.out.size; have h2 := hk3.mod.size; omega
        have hgw : ∀ k, u3.ownBlock = some k → w.heap.size ≤ k ∧ k < wr.heap.size := HO.out.lt
        have hb2 : Below w.heap.size w w2 := by
          have h1 : Mod [] wr w2 := by rw [hw2]; exact HM.out.trans (Mod.alloc _ _ _)
          exact HBL.out.trans (h1.below.mono HBL.out.size)
        clear hw2 hown1
        refine tActK (by rfl) (by rfl) (by rfl) (fun K hK => wp_append_own w2 (.tmp 15) (.tmp 20) 41 rfl w.heap.size 78 i0 _ 17 136 Tryz.underlying41 ihi ih0 ihs ih2 rfl (by decide) u3 (clsW i W).length _ (by rfl) hown2 ⟨w1.heap.size, 0, none⟩ 1 1 (clCells ⟨(i : Int), s⟩) (by rfl) rfl (fun j u hj => ?_) (fun u hu => List.all_eq_true.1 (clC_one (i : Int) s) u hu) (by unfold maxLen; omega) (by omega) hz2 (fun v' w' hown' hg _ => hK _ _ (fun h => absurd h (by decide)) ?_))
        · rw [addr_add, cell_of_row _ _ _ _ _ _ hat2, Nat.zero_add, ← Array.getElem?_toList]; exact hj
        · have hk4 := hk3.drop.grow (grown_mod hg) (fun x hx => by
            simp only [List.mem_cons, List.not_mem_nil, or_false] at hx
            subst hx
            intro hm
            unfold ownM at hm
            have := hgw _ (by simpa using hm)
            exact absurd this.2 (Nat.lt_irrefl _))
          have hb4 : Below w.heap.size w w' := hb2.grown hg hz2 (fun k hk => (hgw k hk).1)
          have HOW : Hid (w'.ownsRow w.heap.size 78 17 v' (clsW (i + 1) W).length ((clsW (i + 1) W).flatMap clCells)) := hide (by
            rw [R.out, List.flatMap_append, List.length_append]
            simpa using hown')
          simp only [Act.put, pw]
          refine sAssign hk4 ?_; simp only [Act.put, pw]
          refine tNil ?_
          clear hk hk3 hk4 hown' hg
          go_wp2_with fail
          go_roundw
          case rel => exact ⟨i + 1, by omega, by go_num, HOW.out, hb4⟩
          case measure => simp [intOf]; omega
    · have e : i = n := by omega
      subst e
      go_wp2_with fail
      go_ret
      exact ⟨_, rfl, HO.out, HBL.out⟩
end Go.Proofs.YtamiichlbmllcaaGreatDoor
