import Derived.Test.YtamiichlbmllcabGreatDoorQChF
import Derived.Test.YtamiichlbmllcabGreatDoorQMthC
import Derived.DeepKeys
import Derived.Deep.CutRange
import Derived.Deep.DeepCutAuto
set_option maxRecDepth 100000
set_option maxHeartbeats 32000000
namespace Go.Proofs.YtamiichlbmllcabGreatDoor
open Go.RowKit
def okQ (ops : Array Oper) (F : Nat -> Bool) : OT -> Array Bool -> Array Bool -> Bool
 | .nil, listed, listed' => listed == listed'
 | .op i r, listed, listed' => (match ops[i]? with
    | some o => stillOp o && Region.free .any ops listed i && (Region.ready .any ops listed).contains i && ((List.range ops.size).all fun j => j == i || listed.getD j true || F j || match ops[j]? with
       | some oj => oj.after.any (fun e => Region.binds .any e && e.on == i)
       | none => true)
    | none => false) && okQ ops F r (listed.setIfInBounds i true) listed'
 | .either .., _, _ => false
theorem wpQ_sound {P : Program} {l : List Oper} {Q : Exit -> Act -> World -> Prop} {F : Nat -> Bool} {S : World -> Prop} (hsel : Region.noSelect l.toArray = true) (m : Nat) (listed' : Array Bool) : ∀ (t : OT) (listed : Array Bool) (a : Act) (w : World), okQ l.toArray F t listed listed' = true ->
 wpT P l (fun _ a w => wpAnyJ P l.toArray (NoPanic Q) F S m listed' a w) F S t a w -> wpAnyJ P l.toArray (NoPanic Q) F S (m + t.size) listed a w := by
 intro t
 induction t with
 | nil =>
   intro listed a w hv h
   have : listed = listed' := by simpa [okQ] using hv
   subst this
   exact h
 | op i r ih =>
   intro listed a w hv h
   simp only [okQ, Bool.and_eq_true] at hv
   obtain ⟨hv1, hv2⟩ := hv
   have hl : l.toArray[i]? = nthO i l := by rw [nthO_eq]; simp
   rw [hl] at hv1
   obtain ⟨o, ho, h⟩ := h
   rw [ho] at hv1 hl
   simp only [Bool.and_eq_true] at hv1
   obtain ⟨⟨⟨hst, hfree⟩, hrd⟩, hall⟩ := hv1
   simp only [hst, if_true] at h
   obtain ⟨hS, v, hy, h⟩ := h
   refine wpAnyJ_first hl (Region.noSelect_spec hsel) (fun _ _ _ h => h.elim) (m + r.size) listed a w ?_ (by simpa using hrd) hy hS (ih _ _ w hv2 h)
   intro j oj hj hne hun hno
   refine ⟨Region.free_spec hl hfree j oj hj hne hun hno, ?_⟩
   rw [List.all_eq_true] at hall
   have := hall j (List.mem_range.2 (Array.getElem?_eq_some_iff.1 hj).1)
   simp only [hj, Bool.or_eq_true, beq_iff_eq, hne, false_or, hun, Bool.false_eq_true] at this
   rcases this with h1 | h1
   · exact h1
   · obtain ⟨e, he, hb⟩ := Array.any_eq_true'.1 h1
     simp only [Bool.and_eq_true, beq_iff_eq] at hb
     exact absurd hb.2 (hno e he hb.1)
 | either i j r s _ _ =>
   intro listed a w hv
   simp [okQ] at hv
theorem wpT_opS {P : Program} {l : List Oper} {Q : Exit -> Act -> World -> Prop} {F : Nat -> Bool} {S : World -> Prop} {i : Nat} {r : OT} {a : Act} {w : World} {K : Act -> World -> Prop} (h : wpT P l Q F S (.op i r) a w) (hK : ∀ a' w', (F i = true -> S w') -> wpT P l Q F S r a' w' -> K a' w') : wpOp P l.toArray (NoPanic Q) i K a w := by
 obtain ⟨o, ho, h⟩ := h
 have hl : l.toArray[i]? = some o := by rw [<- ho, nthO_eq]; simp
 by_cases hst : stillOp o = true
 · simp only [hst, if_true] at h
   obtain ⟨hS, v, hy, h⟩ := h
   exact hy.wpOp hl hS (hK _ _ (fun _ => hS) h)
 · simp only [hst, Bool.false_eq_true, if_false] at h
   unfold wpOp
   simp only [hl]
   by_cases hw : Region.wanted o (yielded l.toArray a.tmps) = true
   · simp only [hw, if_true] at h ⊢
     exact Or.inl (Oper.wp_mono (fun a' w' h1 => hK a' w' h1.1 h1.2) h)
   · simp only [hw, Bool.false_eq_true, if_false] at h ⊢
     exact hK _ _ h.1 h.2
def Br3 (P : Program) (l : List Oper) (Q : Exit -> Act -> World -> Prop) (F : Nat -> Bool) (S : World -> Prop) (i j k : Nat) (ti tj tk : OT) (a : Act) (w : World) : Prop :=
 wpT P l Q F S (.op i ti) a w /\ wpT P l Q F S (.op j tj) a w /\ wpT P l Q F S (.op k tk) a w
theorem wp_reg3 {P : Program} {id : Nat} {l : List Oper} {Q : Exit -> Act -> World -> Prop} {a : Act} {w : World} {M : List Nat} {w0 : World} {L : RowL} (hk : Kn M w0 w L) (t : OT) (F : Nat -> Bool) (m : Nat) (i j k : Nat) (ti tj tk : OT) (listed' : Array Bool) (hm : P.follows .mixedOrders = true) (hn : m + 1 + t.size = l.length) (hsel : Region.noSelect l.toArray = true)
 (hv : okQ l.toArray F t (Array.replicate l.length false) listed' = true) (hr : Region.ready .any l.toArray listed' = [i, j, k])
 (hi : okT l.toArray F ti (listed'.setIfInBounds i true) = true) (hj : okT l.toArray F tj (listed'.setIfInBounds j true) = true) (hk' : okT l.toArray F tk (listed'.setIfInBounds k true) = true) (hs : ti.size <= m /\ tj.size <= m /\ tk.size <= m)
 (h : ∀ w1, Kn M w0 w1 L -> wpT P l (fun _ a w => Br3 P l Q F (fun wx => Kn M w0 wx L) i j k ti tj tk a w) F (fun wx => Kn M w0 wx L) t a w1) : (Code.region id l.toArray true).wp P Q a w := by
 refine wp_region_noPanic (wp_region_any hm (wpAny_ofJ (F := F) (S := fun wx => Kn M w0 wx L) _ _ _ _ ?_))
 have key : ∀ (a : Act) (w : World), Br3 P l Q F (fun wx => Kn M w0 wx L) i j k ti tj tk a w -> wpAnyJ P l.toArray (NoPanic Q) F (fun wx => Kn M w0 wx L) (m + 1) listed' a w := by
  intro a w ⟨h1, h2, h3⟩
  refine ⟨fun h0 => (by rw [hr] at h0; cases h0), fun x hx => ?_⟩
  rw [hr] at hx
  simp only [List.mem_cons, List.not_mem_nil, or_false] at hx
  rcases hx with rfl | rfl | rfl
  · exact wpT_opS h1 fun a' w' hF hT => ⟨hF, wpT_sound hsel ti m _ a' w' hs.1 hi hT⟩
  · exact wpT_opS h2 fun a' w' hF hT => ⟨hF, wpT_sound hsel tj m _ a' w' hs.2.1 hj hT⟩
  · exact wpT_opS h3 fun a' w' hF hT => ⟨hF, wpT_sound hsel tk m _ a' w' hs.2.2 hk' hT⟩
 have mono : ∀ (t : OT) (a : Act) (w : World), okQ l.toArray F t (Array.replicate l.length false) listed' = true -> wpT P l (fun _ a w => Br3 P l Q F (fun wx => Kn M w0 wx L) i j k ti tj tk a w) F (fun wx => Kn M w0 wx L) t a w -> wpAnyJ P l.toArray (NoPanic Q) F (fun wx => Kn M w0 wx L) (m + 1 + t.size) (Array.replicate l.length false) a w := by
  intro t a w hq h
  refine wpQ_sound hsel (m + 1) listed' t _ a w hq ?_
  clear hv hn
  generalize Array.replicate l.length false = listed at hq
  induction t generalizing a w listed with
  | nil => exact key a w h
  | op x r ih =>
    simp only [okQ, Bool.and_eq_true] at hq
    have hl : l.toArray[x]? = nthO x l := by rw [nthO_eq]; simp
    obtain ⟨o, ho, h⟩ := h
    have h1 := hq.1
    rw [hl, ho] at h1
    simp only [Bool.and_eq_true] at h1
    have hst := h1.1.1.1
    simp only [hst, if_true] at h
    refine ⟨o, ho, ?_⟩
    simp only [hst, if_true]
    exact ⟨h.1, h.2.choose, h.2.choose_spec.1, ih _ _ h.2.choose_spec.2 _ hq.2⟩
  | either _ _ _ _ _ _ => simp [okQ] at hq
 have := mono t a w.drew hv (h _ hk.drew)
 rw [hn] at this
 simpa using this
theorem tSplit {P : Program} {l : List Oper} {Q : Exit -> Act -> World -> Prop} {F : Nat -> Bool} {S : World -> Prop} {i j : Nat} {r s : OT} {a : Act} {w : World} {o o' : Oper} (hi : nthO i l = some o) (hj : nthO j l = some o') (hsi : stillOp o = false) (hsj : stillOp o' = false) (hwi : Region.wanted o (yielded l.toArray a.tmps) = true) (hwj : Region.wanted o' (yielded l.toArray a.tmps) = true)
 (h1 : wpT P l Q F S (.op i r) a w) (h2 : wpT P l Q F S (.op j s) a w) : wpT P l Q F S (.either i j r s) a w := by
 obtain ⟨x, hx, h1⟩ := h1
 obtain ⟨y, hy, h2⟩ := h2
 rw [hi] at hx; cases hx
 rw [hj] at hy; cases hy
 simp only [hsi, hsj, Bool.false_eq_true, if_false, hwi, hwj, if_true] at h1 h2
 exact ⟨⟨o, hi, hwi, h1⟩, o', hj, hwj, h2⟩
theorem rj_join (r o : R2) (w : World) : Calls Tryz.prog 186 #[.agg (rgC r), .agg (rgC o)] w fun e w' => e = .returned (.agg (rgC (joinR r o))) /\ Below w.heap.size w w' := by
 have hk := Kn.nil [] w
 have hmx := run_max2
 have hmn := run_min2
 go_enter Tryz.func186, Tryz.ntmps186
 go_wp2_with ((with_reducible apply gL); (first | refine wS hk ?_ | (refine wN hk ?_; clear hk; intro w1 hk)); simp only [pw])
 exact post_1 rfl (by rfl) (hk.at (A := rgC ⟨min r.lo o.lo, max r.hi o.hi⟩) mm) (rowT_of (by rfl)) (by rfl) rfl ⟨rfl, hk.mod.below⟩
theorem rj_str (r o : R2) (p q : Int) (HJ : Hid (joinR r o = ⟨p, q⟩)) (A B : Bool) (hA : (p != r.lo) = A) (hB : (q != r.hi) = B) (w : World) : Calls Tryz.prog 187 #[.agg (rgC r), .agg (rgC o)] w fun e w' => e = .returned (.agg (rgC ⟨if A then -9223372036854775808 else p, if B then 9223372036854775807 else q⟩)) /\ Below w.heap.size w w' := by
 have hk := Kn.nil [] w
 cases A <;> cases B
 case false.false =>
  go_enter Tryz.func187, Tryz.ntmps187
  go_wp2_with (first | (go_at_call 186; refine (rj_join _ _ _).mono ?_; rintro e w1 ⟨rfl, hb⟩; replace hk := hk.call hb; clear hb); rw [HJ.out] | ((with_reducible apply gL); (first | refine wS hk ?_ | (refine wN hk ?_; clear hk; intro w1 hk)); simp only [pw]))
  exact post_1 rfl (by rfl) (hk.at (A := rgC ⟨p, q⟩) mm) (rowT_of (by rfl)) (by rfl) rfl ⟨rfl, hk.mod.below⟩
 case false.true =>
  go_enter Tryz.func187, Tryz.ntmps187
  go_wp2_with (first | (go_at_call 186; refine (rj_join _ _ _).mono ?_; rintro e w1 ⟨rfl, hb⟩; replace hk := hk.call hb; clear hb); rw [HJ.out] | (refine wStore1I hk ?_ (A' := rgC ⟨p, 9223372036854775807⟩) (hj := by show 1 + 1 <= 2; omega) (hA := rfl); clear hk; intro w1 hk; simp only [pw]) | ((with_reducible apply gL); (first | refine wS hk ?_ | (refine wN hk ?_; clear hk; intro w1 hk)); simp only [pw]))
  exact post_1 rfl (by rfl) (hk.at (A := rgC ⟨p, 9223372036854775807⟩) mm) (rowT_of (by rfl)) (by rfl) rfl ⟨rfl, hk.mod.below⟩
 case true.false =>
  go_enter Tryz.func187, Tryz.ntmps187
  go_wp2_with (first | (go_at_call 186; refine (rj_join _ _ _).mono ?_; rintro e w1 ⟨rfl, hb⟩; replace hk := hk.call hb; clear hb); rw [HJ.out] | (refine wStore1I hk ?_ (A' := rgC ⟨-9223372036854775808, q⟩) (hj := by show 0 + 1 <= 2; omega) (hA := rfl); clear hk; intro w1 hk; simp only [pw]) | ((with_reducible apply gL); (first | refine wS hk ?_ | (refine wN hk ?_; clear hk; intro w1 hk)); simp only [pw]))
  exact post_1 rfl (by rfl) (hk.at (A := rgC ⟨-9223372036854775808, q⟩) mm) (rowT_of (by rfl)) (by rfl) rfl ⟨rfl, hk.mod.below⟩
 case true.true =>
  go_enter Tryz.func187, Tryz.ntmps187
  go_wp2_with (first | (go_at_call 186; refine (rj_join _ _ _).mono ?_; rintro e w1 ⟨rfl, hb⟩; replace hk := hk.call hb; clear hb); rw [HJ.out] | (refine wStore1I hk ?_ (A' := rgC ⟨-9223372036854775808, q⟩) (hj := by show 0 + 1 <= 2; omega) (hA := rfl); clear hk; intro w1 hk; simp only [pw]) | (refine wStore1I hk ?_ (A' := rgC ⟨-9223372036854775808, 9223372036854775807⟩) (hj := by show 1 + 1 <= 2; omega) (hA := rfl); clear hk; intro w1 hk; simp only [pw]) | ((with_reducible apply gL); (first | refine wS hk ?_ | (refine wN hk ?_; clear hk; intro w1 hk)); simp only [pw]))
  exact post_1 rfl (by rfl) (hk.at (A := rgC ⟨-9223372036854775808, 9223372036854775807⟩) mm) (rowT_of (by rfl)) (by rfl) rfl ⟨rfl, hk.mod.below⟩
theorem rj_stretch (r o : R2) (w : World) : Calls Tryz.prog 187 #[.agg (rgC r), .agg (rgC o)] w fun e w' => e = .returned (.agg (rgC (stretchR r o))) /\ Below w.heap.size w w' := by
 refine (rj_str r o _ _ (hide rfl) _ _ rfl rfl w).mono ?_
 rintro e w' ⟨rfl, hb⟩
 refine ⟨?_, hb⟩
 have : (⟨if (min r.lo o.lo != r.lo) = true then -9223372036854775808 else min r.lo o.lo, if (max r.hi o.hi != r.hi) = true then 9223372036854775807 else max r.hi o.hi⟩ : R2) = stretchR r o := by
  unfold stretchR
  by_cases h1 : min r.lo o.lo = r.lo <;> by_cases h2 : max r.hi o.hi = r.hi <;> simp [h1, h2]
 rw [<- this]
theorem plC_congr {b : Bool} {s t : St} (h : ∀ j, j < 8 -> s j = t j) : plC b s = plC b t := by
 unfold plC
 rw [h 0 (by omega), h 1 (by omega), h 2 (by omega), h 3 (by omega), h 4 (by omega), h 5 (by omega), h 6 (by omega), h 7 (by omega)]
def joinU (f : R2 -> R2 -> R2) (s t : St) (n : Nat) : St := fun j => if j < n then f (s j) (t j) else s j
theorem joinU_step (f : R2 -> R2 -> R2) (s t : St) (n : Nat) : updS (joinU f s t n) n (f (s n) (t n)) = joinU f s t (n + 1) := by
 funext j
 unfold updS joinU
 by_cases h : j = n
 · subst h; rw [if_pos rfl, if_pos (by omega)]
 · rw [if_neg h]
   by_cases h2 : j < n
   · rw [if_pos h2, if_pos (by omega)]
   · rw [if_neg h2, if_neg (by omega)]
theorem joinBy_un (fv : Value) (s : St) (c : Bool) (t : St) (w : World) : Calls Tryz.prog 185 #[.agg (plC false s), fv, .agg (plC c t)] w fun e w' => e = .returned (.agg (plC c t)) /\ Below w.heap.size w w' := by
 have hk := Kn.nil [] w
 go_enter Tryz.func185, Tryz.ntmps185
 go_wp2_with ((with_reducible apply gL); (first | refine wS hk ?_ | (refine wN hk ?_; clear hk; intro w1 hk)); simp only [pw])
 exact post_1 rfl (by rfl) (hk.at mm) (rowT_of (by rfl)) (by rfl) rfl ⟨rfl, hk.mod.below⟩
theorem joinBy_no (fv : Value) (s : St) (t : St) (w : World) : Calls Tryz.prog 185 #[.agg (plC true s), fv, .agg (plC false t)] w fun e w' => e = .returned (.agg (plC true s)) /\ Below w.heap.size w w' := by
 have hk := Kn.nil [] w
 go_enter Tryz.func185, Tryz.ntmps185
 go_wp2_with ((with_reducible apply gL); (first | refine wS hk ?_ | (refine wN hk ?_; clear hk; intro w1 hk)); simp only [pw])
 exact post_1 rfl (by rfl) (hk.at mm) (rowT_of (by rfl)) (by rfl) rfl ⟨rfl, hk.mod.below⟩
theorem vMoveF {l : List Oper} {Q : Exit -> Act -> World -> Prop} {F : Nat -> Bool} {S : World -> Prop} {i : Nat} {r : OT} {a : Act} {w : World} {d : Option Tmp} {x : Operand} {tt : TypeId} {pos : String} {aft : Array Edge} {g : Option (Nat × Bool)} {f : Fn} {c e : Array Value} (hk : S w) (h : wpT Tryz.prog l Q F S r (a.put d (.func f c e)) w) (ho : nthO i l = some ⟨d, .move x, tt, pos, aft, g⟩ := by rfl) (hw : Region.wanted ⟨d, .move x, tt, pos, aft, g⟩ (yielded l.toArray a.tmps) = true := by rfl) (hx : a.eval x = .func f c e := by rfl) : wpT Tryz.prog l Q F S (.op i r) a w := sMove hk (by rw [hx]; exact h) ho hw
theorem Kn.pick4 {M : List Nat} {w0 w : World} {r0 r1 r2 r3 : Nat × Array Value × TypeId} (h : Kn M w0 w [r0, r1, r2, r3]) : Kn M w0 w [r0, r2] := h.sub (.cons_cons _ (.cons _ (.cons_cons _ (.cons _ .slnil))))
theorem wp_regPk {P : Program} {id : Nat} {l : List Oper} {Q : Exit -> Act -> World -> Prop} {a : Act} {w : World} {M : List Nat} {w0 : World} {r0 r1 r2 r3 : Nat × Array Value × TypeId} (hk : Kn M w0 w [r0, r1, r2, r3]) (t : OT) (F : Nat -> Bool) (hm : P.follows .mixedOrders = true) (hn : t.size <= l.length) (hsel : Region.noSelect l.toArray = true)
 (hv : okT l.toArray F t (Array.replicate l.length false) = true) (h : ∀ w1, Kn M w0 w1 [r0, r1, r2, r3] -> wpT P l Q F (fun wx => Kn M w0 wx [r0, r2]) t a w1) : (Code.region id l.toArray true).wp P Q a w := wp_regS hk _ t F hm hn hsel hv h
theorem joinBy_join (s t : St) (w : World) : Calls Tryz.prog 185 #[.agg (plC true s), .func (.func 186) #[] #[], .agg (plC true t)] w fun e w' => e = .returned (.agg (plC true (fun j => joinR (s j) (t j)))) /\ Below w.heap.size w w' := by
 have hk := Kn.nil [] w
 have HI := hide (idx_st s)
 go_enter Tryz.func185, Tryz.ntmps185
 go_wp2_with (first | ((with_reducible show wpList _ _ _ (⟨some 3, _, _, _, _, _⟩ :: _) _ _); refine wBox hk ?_; clear hk; intro wa hk; simp only [pw]) | ((with_reducible show wpList _ _ _ (⟨some 5, _, _, _, _, _⟩ :: _) _ _); refine wBox hk ?_; clear hk; intro wb hk; simp only [pw]) | ((with_reducible apply gL); (first | refine wS hk ?_ | (refine wN hk ?_; clear hk; intro w1 hk)); simp only [pw]))
 replace hk : Kn [] w w1 [(wb.heap.size, plC false zeroS, 190), (wa.heap.size, plC true t, 190), (w.heap.size, plC true (joinU joinR s t 0), 190)] := by
  have e : plC true (joinU joinR s t 0) = plC true s := rfl
  rw [e]; exact hk
 go_loopw [19] (fun j wr => ∃ n : Nat, n <= 8 /\ j = .int .i64 n /\ Kn [] w wr [(wb.heap.size, plC false zeroS, 190), (wa.heap.size, plC true t, 190), (w.heap.size, plC true (joinU joinR s t n), 190)]) (fun j _ => 8 - (intOf j).toNat)
 case atStart => exact ⟨0, by omega, rfl, hk⟩
 case round =>
  clear hk
  obtain ⟨n, hn, rfl, hk⟩ := hrel
  by_cases hlt : n < 8
  · have hx : ∀ w, (Instr.index 29 (.agg (stC s)) (.int .i64 n)).run Tryz.prog w = .ok (.agg (rgC (s n))) w := HI.out n hlt
    have R := hide (joinU_step joinR s t n)
    go_wp2_with ((with_reducible apply gL); (first | refine wS hk ?_ | (refine wN hk ?_; clear hk; intro w1 hk)); simp only [pw])
    refine wp_regPk hk (.op 0 (.op 1 (.op 2 (.op 3 (.op 4 (.op 5 (.op 6 (.op 8 (.op 7 (.op 9 (.op 10 .nil))))))))))) (fun i => decide (i < 11)) mixT (by decide) (by kernel_rfl) (by kernel_rfl) ?_; clear hk; intro w1 hk
    refine vMoveI hk.pick4 ?_; simp only [pw]
    refine vMoveF hk.pick4 ?_; simp only [pw]
    (repeat (refine sV hk.pick4 ?_; simp only [pw]))
    (refine sCall ?_; intro K hK; go_step; go_at_call 186; refine (rj_join _ _ _).mono ?_; rintro e w1 ⟨rfl, hb⟩; replace hk := hk.call hb; clear hb; refine hK _ _ (fun _ => kH hk) ?_; clear hK K)
    (repeat (refine sV hk.pick4 ?_; simp only [pw]))
    (refine sStore hk ?_; clear hk; intro w1 hk; refine ⟨fun _ => kH hk, ?_⟩; simp only [pw])
    refine tNil ?_
    go_wp2_with ((with_reducible apply gL); (first | refine wS hk ?_ | (refine wN hk ?_; clear hk; intro w1 hk)); simp only [pw])
    go_roundw
    case rel => exact ⟨n + 1, by omega, by go_num, by rw [<- R.out]; exact hk.drop⟩
    case measure => simp [intOf]; omega
  · have e : n = 8 := by omega
    subst e
    have R : Hid (plC true (joinU joinR s t 8) = plC true (fun j => joinR (s j) (t j))) := hide (plC_congr fun j hj => by unfold joinU; rw [if_pos hj])
    rw [R.out] at hk
    go_wp2_with ((with_reducible apply gL); (first | refine wS hk ?_ | (refine wN hk ?_; clear hk; intro w1 hk)); simp only [pw])
    exact post_1 rfl (by rfl) (hk.at mm) (rowT_of (by rfl)) (by rfl) rfl ⟨rfl, hk.mod.below⟩
theorem joinBy_str (s t : St) (w : World) : Calls Tryz.prog 185 #[.agg (plC true s), .func (.func 187) #[] #[], .agg (plC true t)] w fun e w' => e = .returned (.agg (plC true (fun j => stretchR (s j) (t j)))) /\ Below w.heap.size w w' := by
 have hk := Kn.nil [] w
 have HI := hide (idx_st s)
 go_enter Tryz.func185, Tryz.ntmps185
 go_wp2_with (first | ((with_reducible show wpList _ _ _ (⟨some 3, _, _, _, _, _⟩ :: _) _ _); refine wBox hk ?_; clear hk; intro wa hk; simp only [pw]) | ((with_reducible show wpList _ _ _ (⟨some 5, _, _, _, _, _⟩ :: _) _ _); refine wBox hk ?_; clear hk; intro wb hk; simp only [pw]) | ((with_reducible apply gL); (first | refine wS hk ?_ | (refine wN hk ?_; clear hk; intro w1 hk)); simp only [pw]))
 replace hk : Kn [] w w1 [(wb.heap.size, plC false zeroS, 190), (wa.heap.size, plC true t, 190), (w.heap.size, plC true (joinU stretchR s t 0), 190)] := by
  have e : plC true (joinU stretchR s t 0) = plC true s := rfl
  rw [e]; exact hk
 go_loopw [19] (fun j wr => ∃ n : Nat, n <= 8 /\ j = .int .i64 n /\ Kn [] w wr [(wb.heap.size, plC false zeroS, 190), (wa.heap.size, plC true t, 190), (w.heap.size, plC true (joinU stretchR s t n), 190)]) (fun j _ => 8 - (intOf j).toNat)
 case atStart => exact ⟨0, by omega, rfl, hk⟩
 case round =>
  clear hk
  obtain ⟨n, hn, rfl, hk⟩ := hrel
  by_cases hlt : n < 8
  · have hx : ∀ w, (Instr.index 29 (.agg (stC s)) (.int .i64 n)).run Tryz.prog w = .ok (.agg (rgC (s n))) w := HI.out n hlt
    have R := hide (joinU_step stretchR s t n)
    go_wp2_with ((with_reducible apply gL); (first | refine wS hk ?_ | (refine wN hk ?_; clear hk; intro w1 hk)); simp only [pw])
    refine wp_regPk hk (.op 0 (.op 1 (.op 2 (.op 3 (.op 4 (.op 5 (.op 6 (.op 8 (.op 7 (.op 9 (.op 10 .nil))))))))))) (fun i => decide (i < 11)) mixT (by decide) (by kernel_rfl) (by kernel_rfl) ?_; clear hk; intro w1 hk
    refine vMoveI hk.pick4 ?_; simp only [pw]
    refine vMoveF hk.pick4 ?_; simp only [pw]
    (repeat (refine sV hk.pick4 ?_; simp only [pw]))
    (refine sCall ?_; intro K hK; go_step; go_at_call 187; refine (rj_stretch _ _ _).mono ?_; rintro e w1 ⟨rfl, hb⟩; replace hk := hk.call hb; clear hb; refine hK _ _ (fun _ => kH hk) ?_; clear hK K)
    (repeat (refine sV hk.pick4 ?_; simp only [pw]))
    (refine sStore hk ?_; clear hk; intro w1 hk; refine ⟨fun _ => kH hk, ?_⟩; simp only [pw])
    refine tNil ?_
    go_wp2_with ((with_reducible apply gL); (first | refine wS hk ?_ | (refine wN hk ?_; clear hk; intro w1 hk)); simp only [pw])
    go_roundw
    case rel => exact ⟨n + 1, by omega, by go_num, by rw [<- R.out]; exact hk.drop⟩
    case measure => simp [intOf]; omega
  · have e : n = 8 := by omega
    subst e
    have R : Hid (plC true (joinU stretchR s t 8) = plC true (fun j => stretchR (s j) (t j))) := hide (plC_congr fun j hj => by unfold joinU; rw [if_pos hj])
    rw [R.out] at hk
    go_wp2_with ((with_reducible apply gL); (first | refine wS hk ?_ | (refine wN hk ?_; clear hk; intro w1 hk)); simp only [pw])
    exact post_1 rfl (by rfl) (hk.at mm) (rowT_of (by rfl)) (by rfl) rfl ⟨rfl, hk.mod.below⟩
def eqR (p q : R2) : Bool := p.lo == q.lo && p.hi == q.hi
def eqS (s t : Nat -> R2) : Bool := (List.range 8).all fun j => eqR (s j) (t j)
theorem eqIn_rg (d : Nat) (p q : R2) (w : World) : (Op.equalIn (d + 2) 27 (.agg (rgC p)) (.agg (rgC q))).run Tryz.prog w = .ok (eqR p q) w := by
 unfold rgC eqR
 simp [go_sem]
 by_cases h1 : p.lo = q.lo <;> by_cases h2 : p.hi = q.hi <;> simp [h1, h2]
theorem part_st (s : Nat -> R2) (i : Nat) (hi : i < 8) (w : World) : (part 27 (stC s) (i * 2)).run Tryz.prog w = .ok (.agg (rgC (s i))) w := by
 have : i = 0 \/ i = 1 \/ i = 2 \/ i = 3 \/ i = 4 \/ i = 5 \/ i = 6 \/ i = 7 := by omega
 rcases this with rfl | rfl | rfl | rfl | rfl | rfl | rfl | rfl <;> (unfold stC rgC; simp [go_sem])
theorem eqItems_st (d : Nat) (s t : Nat -> R2) (w : World) : ∀ (is : List Nat), (∀ i, i ∈ is -> i < 8) -> (Op.eqItems (d + 2) 27 2 (stC s) (stC t) is).run Tryz.prog w = .ok (is.all fun j => eqR (s j) (t j)) w
 | [], _ => by simp [Op.eqItems]
 | i :: is, h => by
   have h0 := h i List.mem_cons_self
   have ih := eqItems_st d s t w is fun j hj => h j (List.mem_cons_of_mem _ hj)
   simp only [Op.eqItems, Sem.run_bind, part_st s i h0, part_st t i h0, Result.andThen_ok, eqIn_rg, List.all_cons]
   cases eqR (s i) (t i)
   · simp
   · simpa using ih
theorem eqIn_st2 (s t : Nat -> R2) (w : World) : (Op.equalIn 9999 29 (.agg (stC s)) (.agg (stC t))).run Tryz.prog w = .ok (eqS s t) w := by
 obtain ⟨i, hi, hz⟩ : ∃ i, Tryz.prog.info? 27 = some i /\ i.size = 2 := by
  obtain ⟨i, hi, h2⟩ := Option.map_eq_some_iff.1 (show (Tryz.prog.info? 27).map (·.size) = some 2 by kernel_rfl)
  exact ⟨i, hi, h2⟩
 rw [run_equalIn_array w 9998 (stC s) (stC t) Tryz.underlying29 hi, show Tryz.prog.cellsOf 27 = 2 by kernel_rfl]
 exact eqItems_st 9996 s t w (List.range 8) fun i hi => List.mem_range.1 hi
theorem neq_pl (ρ : Operand -> Value) (d : Option Tmp) (x y : Operand) (tt : TypeId) (pos : String) (aft : Array Edge) (g : Option (Nat × Bool)) (b c : Bool) (s t : Nat -> R2) (w : World) (hx : ρ x = .agg (plC b s)) (hy : ρ y = .agg (plC c t)) :
 (execOp ρ ⟨d, .binOp .neq 190 x y 190, tt, pos, aft, g⟩).run Tryz.prog w = .ok (.value (.bool (!(b == c && eqS s t)))) w := by
 unfold execOp
 simp only [hx, hy]
 have := fun w => eqIn_st2 s t w
 unfold stC at this
 unfold plC
 simp [go_sem, this]
 cases b <;> cases c <;> cases eqS s t <;> simp
theorem nil_run (ρ : Operand -> Value) (d : Option Tmp) (x : Operand) (tt : TypeId) (pos : String) (aft : Array Edge) (g : Option (Nat × Bool)) (a : Addr) (w : World) (hx : ρ x = .pointer (some a)) : (execOp ρ ⟨d, .nilCheck x, tt, pos, aft, g⟩).run Tryz.prog w = .ok (.value (.pointer (some a))) w := by
 unfold execOp; simp only [hx]; simp [go_sem]
section
variable {l : List Oper} {Q : Exit -> Act -> World -> Prop} {F : Nat -> Bool} {S : World -> Prop} {i : Nat} {r : OT} {a : Act} {w : World} {d : Option Tmp} {x y : Operand} {t tt : TypeId} {pos : String} {aft : Array Edge} {g : Option (Nat × Bool)}
theorem sNeqP {b c : Bool} {s u : Nat -> R2} (hk : S w) (h : wpT Tryz.prog l Q F S r (a.put d (.bool (!(b == c && eqS s u)))) w) (ho : nthO i l = some ⟨d, .binOp .neq 190 x y 190, tt, pos, aft, g⟩ := by rfl) (hw : Region.wanted ⟨d, .binOp .neq 190 x y 190, tt, pos, aft, g⟩ (yielded l.toArray a.tmps) = true := by rfl) (hx : a.eval x = .agg (plC b s) := by rfl) (hy : a.eval y = .agg (plC c u) := by rfl) : wpT Tryz.prog l Q F S (.op i r) a w :=
 tRun ho rfl hw hk (fun wx => neq_pl _ _ _ _ _ _ _ _ b c s u wx hx hy) h
theorem sNil {p : Addr} (hk : S w) (h : wpT Tryz.prog l Q F S r (a.put d (.pointer (some p))) w) (ho : nthO i l = some ⟨d, .nilCheck x, tt, pos, aft, g⟩ := by rfl) (hw : Region.wanted ⟨d, .nilCheck x, tt, pos, aft, g⟩ (yielded l.toArray a.tmps) = true := by rfl) (hx : a.eval x = .pointer (some p) := by rfl) : wpT Tryz.prog l Q F S (.op i r) a w :=
 tRun ho rfl hw hk (fun wx => nil_run _ _ _ _ _ _ _ p wx hx) h
end
theorem pl_join (x y : Option St) (w : World) : Calls Tryz.prog 183 #[.agg (plC x.isSome (stO x)), .agg (plC y.isSome (stO y))] w fun e w' => e = .returned (.agg (plC (joinO joinR x y).isSome (stO (joinO joinR x y)))) /\ Below w.heap.size w w' := by
 have hk := Kn.nil [] w
 have H : ∀ w, Calls Tryz.prog 185 #[.agg (plC x.isSome (stO x)), .func (.func 186) #[] #[], .agg (plC y.isSome (stO y))] w fun e w' => e = .returned (.agg (plC (joinO joinR x y).isSome (stO (joinO joinR x y)))) /\ Below w.heap.size w w' := fun w => by
  cases x with
  | none => exact joinBy_un _ _ _ _ w
  | some s => cases y with
    | none => exact joinBy_no _ _ _ w
    | some t => exact joinBy_join s t w
 go_enter Tryz.func183, Tryz.ntmps183
 go_wp2_with (first | (go_at_call 185; refine (H _).mono ?_; rintro e w1 ⟨rfl, hb⟩; replace hk := hk.call hb; clear hb) | ((with_reducible apply gL); (first | refine wS hk ?_ | (refine wN hk ?_; clear hk; intro w1 hk)); simp only [pw]))
 exact post_1 rfl (by rfl) (hk.at mm) (rowT_of (by rfl)) (by rfl) rfl ⟨rfl, hk.mod.below⟩
theorem pl_str (x y : Option St) (w : World) : Calls Tryz.prog 184 #[.agg (plC x.isSome (stO x)), .agg (plC y.isSome (stO y))] w fun e w' => e = .returned (.agg (plC (joinO stretchR x y).isSome (stO (joinO stretchR x y)))) /\ Below w.heap.size w w' := by
 have hk := Kn.nil [] w
 have H : ∀ w, Calls Tryz.prog 185 #[.agg (plC x.isSome (stO x)), .func (.func 187) #[] #[], .agg (plC y.isSome (stO y))] w fun e w' => e = .returned (.agg (plC (joinO stretchR x y).isSome (stO (joinO stretchR x y)))) /\ Below w.heap.size w w' := fun w => by
  cases x with
  | none => exact joinBy_un _ _ _ _ w
  | some s => cases y with
    | none => exact joinBy_no _ _ _ w
    | some t => exact joinBy_str s t w
 go_enter Tryz.func184, Tryz.ntmps184
 go_wp2_with (first | (go_at_call 185; refine (H _).mono ?_; rintro e w1 ⟨rfl, hb⟩; replace hk := hk.call hb; clear hb) | ((with_reducible apply gL); (first | refine wS hk ?_ | (refine wN hk ?_; clear hk; intro w1 hk)); simp only [pw]))
 exact post_1 rfl (by rfl) (hk.at mm) (rowT_of (by rfl)) (by rfl) rfl ⟨rfl, hk.mod.below⟩
def intA (n : Nat) (f : Nat -> Nat) : Array Value := rowsA n 1 fun i => #[.int .i64 (wrap64 (f i : Int))]
theorem intA_size (n : Nat) (f : Nat -> Nat) : (intA n f).size = n := by unfold intA; rw [rows_size, Nat.mul_one]
theorem get_int (n : Nat) (f : Nat -> Nat) (i : Nat) (h : i < n) : (intA n f)[i * 1]? = some (.int .i64 (wrap64 (f i : Int))) := by
 have := rows_at (n := n) (k := 1) (g := fun i => #[.int .i64 (wrap64 (f i : Int))]) (q := 0) h (by omega) rfl
 unfold intA
 simpa using this
abbrev prC (pb pc mb sb kb cb hb n : Nat) : Array Value := #[.slice (some ⟨pb, 0, none⟩) n pc, .slice (some ⟨mb, 0, none⟩) n n, .slice (some ⟨sb, 0, none⟩) n n, .slice (some ⟨kb, 0, none⟩) n n, .slice (some ⟨cb, 0, none⟩) n n, .slice (some ⟨hb, 0, none⟩) n n]
theorem eqS_iff {s t : St} : eqS s t = true ↔ ∀ j, j < 8 -> s j = t j := by
 unfold eqS eqR
 rw [List.all_eq_true]
 constructor
 · intro h j hj
   have := h j (List.mem_range.2 hj)
   simp only [Bool.and_eq_true, beq_iff_eq] at this
   cases hs : s j; cases ht : t j
   rw [hs, ht] at this
   simp_all
 · intro h j hj
   rw [h j (List.mem_range.1 hj)]; simp
def placeEq (x y : Option St) : Bool := x.isSome == y.isSome && eqS (stO x) (stO y)
theorem join_eq_of {r o : R2} (h : o.sub r) : joinR r o = r := by unfold R2.sub at h; unfold joinR; cases r; simp only at *; congr <;> omega
theorem str_eq_of {r o : R2} (h : o.sub r) : stretchR r o = r := by
 unfold R2.sub at h; unfold stretchR
 cases r; simp only at *
 rw [if_pos (by omega), if_pos (by omega)]
theorem sub_of_join {r o : R2} (h : joinR r o = r) : o.sub r := by
 unfold joinR at h; unfold R2.sub
 cases r; simp only [R2.mk.injEq] at *; omega
theorem sub_of_str {r o : R2} (ho : o.in64) (h : stretchR r o = r) : o.sub r := by
 unfold stretchR at h; unfold R2.sub; unfold R2.in64 I64 at ho
 cases r; simp only [R2.mk.injEq] at *
 obtain ⟨h1, h2⟩ := h
 refine ⟨?_, ?_⟩
 · split at h1 <;> omega
 · split at h2 <;> omega
theorem place_eq {f : R2 -> R2 -> R2} {x y : Option St} (h1 : ∀ r o : R2, o.sub r -> f r o = r) (h2 : ∀ r o : R2, o.in64 -> f r o = r -> o.sub r) (hy : OkO y) : placeEq (joinO f x y) x = liesO y x := by
 unfold placeEq
 cases x with
 | none =>
   cases y with
   | none => rw [show eqS (stO (joinO f none none)) (stO none) = true from eqS_iff.2 fun _ _ => rfl]; rfl
   | some t => rfl
 | some s =>
   cases y with
   | none => rw [show eqS (stO (joinO f (some s) none)) (stO (some s)) = true from eqS_iff.2 fun _ _ => rfl]; rfl
   | some t =>
     show (true == true && eqS (fun j => f (s j) (t j)) s) = liesR t s
     rw [Bool.eq_iff_iff]
     simp only [beq_self_eq_true, Bool.true_and]
     rw [eqS_iff, lies_iff]
     exact ⟨fun h j hj => h2 _ _ ((hy t rfl).2 j hj) (h j hj), fun h j hj => h1 _ _ (h j hj)⟩
theorem place_join {x y : Option St} (hy : OkO y) : placeEq (joinO joinR x y) x = liesO y x := place_eq (fun _ _ => join_eq_of) (fun _ _ _ => sub_of_join) hy
theorem place_str {x y : Option St} (hy : OkO y) : placeEq (joinO stretchR x y) x = liesO y x := place_eq (fun _ _ => str_eq_of) (fun _ _ => sub_of_str) hy
def TakeP (n sb hb : Nat) (v' : PS) (w w' : World) : Prop := Mod [sb, hb] w w' /\ At w' sb (plsA n v'.W) 190 /\ At w' hb (bosA n v'.chg) 4
theorem Kn.two {w : World} {a b : Nat} {A B : Array Value} {s t : TypeId} (h : At w a A s) (k : At w b B t) (hab : a ≠ b) : Kn [a, b] w w [(a, A, s), (b, B, t)] := ⟨Mod.refl _ _, fun x hx => (by simp at hx; rcases hx with rfl | rfl; exact ⟨h, Or.inr (by simp)⟩; exact ⟨k, Or.inr (by simp)⟩), by simp [hab]⟩
end Go.Proofs.YtamiichlbmllcabGreatDoor
