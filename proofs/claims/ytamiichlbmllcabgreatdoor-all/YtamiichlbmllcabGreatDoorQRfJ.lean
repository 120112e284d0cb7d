import Derived.Test.YtamiichlbmllcabGreatDoorQRfC
import Derived.Test.YtamiichlbmllcabGreatDoorQChF
import Derived.Test.YtamiichlbmllcabGreatDoorQRfH
import Derived.Test.YtamiichlbmllcabGreatDoorQRfI
import Derived.Test.YtamiichlbmllcabGreatDoorQRfE
import Derived.Test.YtamiichlbmllcabGreatDoorQOpenC
set_option maxRecDepth 100000
set_option maxHeartbeats 32000000
namespace Go.Proofs.YtamiichlbmllcabGreatDoor
open Go.RowKit
theorem Kn.pick01 {M : List Nat} {w0 w : World} {r0 r1 r2 r3 r4 r5 r6 : Nat × Array Value × TypeId} (h : Kn M w0 w [r0, r1, r2, r3, r4, r5, r6]) : Kn M w0 w [r0, r1] := h.sub (.cons_cons _ (.cons_cons _ (.cons _ (.cons _ (.cons _ (.cons _ (.cons _ .slnil)))))))
theorem wp_reg01 {P : Program} {id : Nat} {l : List Oper} {Q : Exit -> Act -> World -> Prop} {a : Act} {w : World} {M : List Nat} {w0 : World} {r0 r1 r2 r3 r4 r5 r6 : Nat × Array Value × TypeId} (hk : Kn M w0 w [r0, r1, r2, r3, r4, r5, r6]) (t : OT) (F : Nat -> Bool) (hm : P.follows .mixedOrders = true) (hn : t.size <= l.length) (hsel : Region.noSelect l.toArray = true)
 (hv : okT l.toArray F t (Array.replicate l.length false) = true) (h : ∀ w1, Kn M w0 w1 [r0, r1, r2, r3, r4, r5, r6] -> wpT P l Q F (fun wx => Kn M w0 wx [r0, r1]) t a w1) : (Code.region id l.toArray true).wp P Q a w := wp_regS hk _ t F hm hn hsel hv h
theorem rf_less2 (a b : Nat) (ha : a < 8) (hb : b < 8) (s : Nat -> R2)  (m n : Int) (E : Bool) (HM : Hid (max (s a).lo (s b).lo = m)) (HN : Hid (min (s b).hi (s a).hi = n)) (HE : Hid ((!isStR (updS (updS s a ⟨m, (s a).hi⟩) b ⟨(updS s a ⟨m, (s a).hi⟩ b).lo, n⟩)) = E)) (h1 : ¬ -9223372036854775808 < (s b).hi) (w : World) : Calls Tryz.prog 90 #[.agg (stC s), .int .i64 a, .int .i64 b] w fun e w' => e = .returned (.tuple #[.agg (plC false s), .agg (plC (!E) (updS (updS s a ⟨m, (s a).hi⟩) b ⟨(updS s a ⟨m, (s a).hi⟩ b).lo, n⟩))]) /\ Below w.heap.size w w' := by
 have hk := Kn.nil [] w
 go_enter Tryz.func90, Tryz.ntmps90
 go_wp2_with (first | (go_at_call 100; refine (rf_most _ _ _).mono ?_; rintro e w1 ⟨rfl, hb⟩; replace hk := hk.call hb; clear hb); (first | rw [HM.out]) | (go_at_call 99; refine (rf_least _ _ _).mono ?_; rintro e w1 ⟨rfl, hb⟩; replace hk := hk.call hb; clear hb); (first | rw [HN.out]) | (go_at_call 72; refine (rf_empty _ _).mono ?_; rintro e w1 ⟨rfl, hb⟩; replace hk := hk.call hb; clear hb); (first | rw [HE.out]) | ((with_reducible apply gL); (first | refine wS hk ?_ | (refine wN hk ?_; clear hk; intro w1 hk)); simp only [pw]))
 refine wp_reg01 hk (.op 0 (.op 1 (.op 2 (.op 3 .nil)))) (fun i => decide (i < 3)) mixT (by decide) (by kernel_rfl) (by kernel_rfl) ?_; clear hk; intro w1 hk
 (repeat (refine sV hk.pick01 ?_; simp only [pw]))
 refine sStore hk ?_; clear hk; intro w1 hk; refine ⟨fun _ => hk.pick01, ?_⟩; simp only [pw]
 (refine sStore hk ?_; clear hk; intro w1 hk; refine ⟨fun h => absurd h (by decide), ?_⟩; simp only [pw])
 refine tNil ?_
 go_wp2_with ((with_reducible apply gL); (first | refine wS hk ?_ | (refine wN hk ?_; clear hk; intro w1 hk)); simp only [pw])
 exact post_2 rfl (by rfl) (hk.at mm) (rowT_of (by rfl)) (by rfl) (by rfl) (hk.at mm) (rowT_of (by rfl)) (by rfl) rfl ⟨rfl, hk.mod.below⟩
theorem rf_less3 (a b : Nat) (ha : a < 8) (hb : b < 8) (s : Nat -> R2)  (m n : Int) (E : Bool) (HM : Hid (max (s a).lo (s b).lo = m)) (HN : Hid (min (s b).hi (s a).hi = n)) (HE : Hid ((!isStR (updS (updS s a ⟨m, (s a).hi⟩) b ⟨(updS s a ⟨m, (s a).hi⟩ b).lo, n⟩)) = E)) (h1 : -9223372036854775808 < (s b).hi) (h2 : ¬ (s a).lo < 9223372036854775807) (w : World) : Calls Tryz.prog 90 #[.agg (stC s), .int .i64 a, .int .i64 b] w fun e w' => e = .returned (.tuple #[.agg (plC false s), .agg (plC (!E) (updS (updS s a ⟨m, (s a).hi⟩) b ⟨(updS s a ⟨m, (s a).hi⟩ b).lo, n⟩))]) /\ Below w.heap.size w w' := by
 have hk := Kn.nil [] w
 go_enter Tryz.func90, Tryz.ntmps90
 go_wp2_with (first | (go_at_call 100; refine (rf_most _ _ _).mono ?_; rintro e w1 ⟨rfl, hb⟩; replace hk := hk.call hb; clear hb); (first | rw [HM.out]) | (go_at_call 99; refine (rf_least _ _ _).mono ?_; rintro e w1 ⟨rfl, hb⟩; replace hk := hk.call hb; clear hb); (first | rw [HN.out]) | (go_at_call 72; refine (rf_empty _ _).mono ?_; rintro e w1 ⟨rfl, hb⟩; replace hk := hk.call hb; clear hb); (first | rw [HE.out]) | ((with_reducible apply gL); (first | refine wS hk ?_ | (refine wN hk ?_; clear hk; intro w1 hk)); simp only [pw]))
 refine wp_reg01 hk (.op 0 (.op 1 (.op 2 (.op 3 .nil)))) (fun i => decide (i < 3)) mixT (by decide) (by kernel_rfl) (by kernel_rfl) ?_; clear hk; intro w1 hk
 (repeat (refine sV hk.pick01 ?_; simp only [pw]))
 refine sStore hk ?_; clear hk; intro w1 hk; refine ⟨fun _ => hk.pick01, ?_⟩; simp only [pw]
 (refine sStore hk ?_; clear hk; intro w1 hk; refine ⟨fun h => absurd h (by decide), ?_⟩; simp only [pw])
 refine tNil ?_
 go_wp2_with ((with_reducible apply gL); (first | refine wS hk ?_ | (refine wN hk ?_; clear hk; intro w1 hk)); simp only [pw])
 exact post_2 rfl (by rfl) (hk.at mm) (rowT_of (by rfl)) (by rfl) (by rfl) (hk.at mm) (rowT_of (by rfl)) (by rfl) rfl ⟨rfl, hk.mod.below⟩
theorem rf_less1 (a b : Nat) (ha : a < 8) (hb : b < 8) (s : Nat -> R2) (p q : Int) (D : Bool) (HP : Hid (min (s a).hi ((s b).hi - 1) = p)) (HQ : Hid (max (s b).lo ((s a).lo + 1) = q)) (HD : Hid ((!isStR (updS (updS s a ⟨(s a).lo, p⟩) b ⟨q, (updS s a ⟨(s a).lo, p⟩ b).hi⟩)) = D)) (m n : Int) (E : Bool) (HM : Hid (max (s a).lo (s b).lo = m)) (HN : Hid (min (s b).hi (s a).hi = n)) (HE : Hid ((!isStR (updS (updS s a ⟨m, (s a).hi⟩) b ⟨(updS s a ⟨m, (s a).hi⟩ b).lo, n⟩)) = E)) (h1 : -9223372036854775808 < (s b).hi) (h2 : (s a).lo < 9223372036854775807) (h3 : (s b).hi <= 9223372036854775807) (h4 : -9223372036854775808 <= (s a).lo) (w : World) : Calls Tryz.prog 90 #[.agg (stC s), .int .i64 a, .int .i64 b] w fun e w' => e = .returned (.tuple #[.agg (plC (!D) (updS (updS s a ⟨(s a).lo, p⟩) b ⟨q, (updS s a ⟨(s a).lo, p⟩ b).hi⟩)), .agg (plC (!E) (updS (updS s a ⟨m, (s a).hi⟩) b ⟨(updS s a ⟨m, (s a).hi⟩ b).lo, n⟩))]) /\ Below w.heap.size w w' := by
 have hk := Kn.nil [] w
 go_enter Tryz.func90, Tryz.ntmps90
 go_wp2_with (first | (go_at_call 100; refine (rf_most _ _ _).mono ?_; rintro e w1 ⟨rfl, hb⟩; replace hk := hk.call hb; clear hb); (first | rw [HM.out] | rw [HQ.out]) | (go_at_call 99; refine (rf_least _ _ _).mono ?_; rintro e w1 ⟨rfl, hb⟩; replace hk := hk.call hb; clear hb); (first | rw [HN.out] | rw [HP.out]) | (go_at_call 72; refine (rf_empty _ _).mono ?_; rintro e w1 ⟨rfl, hb⟩; replace hk := hk.call hb; clear hb); (first | rw [HE.out] | rw [HD.out]) | ((with_reducible apply gL); (first | refine wS hk ?_ | (refine wN hk ?_; clear hk; intro w1 hk)); simp only [pw]))
 refine wp_reg01 hk (.op 0 (.op 1 (.op 2 (.op 3 .nil)))) (fun i => decide (i < 3)) mixT (by decide) (by kernel_rfl) (by kernel_rfl) ?_; clear hk; intro w1 hk
 (repeat (refine sV hk.pick01 ?_; simp only [pw]))
 refine sStore hk ?_; clear hk; intro w1 hk; refine ⟨fun _ => hk.pick01, ?_⟩; simp only [pw]
 (refine sStore hk ?_; clear hk; intro w1 hk; refine ⟨fun h => absurd h (by decide), ?_⟩; simp only [pw])
 refine tNil ?_
 go_wp2_with ((with_reducible apply gL); (first | refine wS hk ?_ | (refine wN hk ?_; clear hk; intro w1 hk)); simp only [pw])
 exact post_2 rfl (by rfl) (hk.at mm) (rowT_of (by rfl)) (by rfl) (by rfl) (hk.at mm) (rowT_of (by rfl)) (by rfl) rfl ⟨rfl, hk.mod.below⟩
def findC (cl : List C2) (n : Int) : Option St := (cl.find? fun c => c.pl == n).map (·.st)
theorem findC_yes {cl : List C2} {n : Int} {i : Nat} (h : i < cl.length) (hb : ∀ j, j < i -> (clAt cl j).pl ≠ n) (he : (clAt cl i).pl = n) : findC cl n = some (clAt cl i).st := by
 unfold findC
 rw [clAt_get h] at he ⊢
 rw [List.find?_eq_some_iff_getElem.2 ⟨by simpa using he, i, h, rfl, fun j hj => by have := hb j hj; rw [clAt_get (by omega)] at this; simpa using this⟩]
 rfl
theorem findC_no {cl : List C2} {n : Int} (hb : ∀ j, j < cl.length -> (clAt cl j).pl ≠ n) : findC cl n = none := by
 unfold findC
 rw [List.find?_eq_none.2 fun c hc => by obtain ⟨j, hj, rfl⟩ := List.mem_iff_getElem.1 hc; have := hb j hj; rw [clAt_get hj] at this; simpa using this]
 rfl
theorem cell0 {w w' : World} {b o : Nat} {p : Int} {st : St} (h : w.rangeAt b o (clC p st).toList) (hb : b < w.heap.size) (hm : Mod [] w w') : w'.cell? ⟨b, o, none⟩ = some (.int .i64 p) := by
 rw [World.cell?_of_block (w := w) (a := ⟨b, o, none⟩) (hm.block b hb (by simp))]
 exact h 0 _ rfl
theorem range1 {w : World} {b o : Nat} {p : Int} {st : St} (h : w.rangeAt b o (clC p st).toList) : w.rangeAt b (o + 1) (stC st).toList := fun j v hj => by
 have := h (j + 1) v hj
 rwa [show o + (j + 1) = o + 1 + j by omega] at this
theorem rf_claim_some (cl : List C2) (hcl : cl.length < 4000000000000) (b off cap : Nat) (n : Int) (w : World) (hb : b < w.heap.size) (hc : ∀ i, i < cl.length -> w.rangeAt b (off + i * 17) (clC (clAt cl i).pl (clAt cl i).st).toList) :
 Calls Tryz.prog 73 #[.slice (some ⟨b, off, none⟩) cl.length cap, .int .i64 n] w fun e w' => e = .returned (.agg (plC (findC cl n).isSome (stO (findC cl n)))) /\ Below w.heap.size w w' := by
 have hk := Kn.nil [] w
 have HC := hide hc
 clear hc
 go_enter Tryz.func73, Tryz.ntmps73
 go_wp2_with ((with_reducible apply gL); (first | refine wS hk ?_ | (refine wN hk ?_; clear hk; intro w1 hk)); simp only [pw])
 go_loopw [5] (fun j wr => ∃ i : Nat, i <= cl.length /\ j = .int .i64 i /\ (∀ j, j < i -> (clAt cl j).pl ≠ n) /\ Kn [] w wr [(w.heap.size, plC false zeroS, 168)]) (fun j _ => cl.length - (intOf j).toNat)
 case atStart => exact ⟨0, by omega, rfl, fun j hj => by omega, hk⟩
 case round =>
  clear hk
  obtain ⟨i, hi, rfl, hall, hk⟩ := hrel
  have HA := hide hall
  clear hall
  by_cases hlt : i < cl.length
  · have hci := HC.out i hlt
    by_cases he : (clAt cl i).pl = n
    · have R : Hid (findC cl n = some (clAt cl i).st) := hide (findC_yes hlt HA.out he)
      rw [he] at hci
      obtain ⟨st, hst⟩ : ∃ st, st = (clAt cl i).st := ⟨_, rfl⟩
      rw [<- hst] at hci R
      clear hst he
      have hc0 := cell0 hci hb hk.mod
      have hc1 := range1 hci
      go_wp2_with ((with_reducible apply gL); (first | refine wS hk ?_ | (refine wN hk ?_; clear hk; intro w1 hk)); simp only [pw])
      exact post_1 rfl (by rfl) (hk.at (A := plC true st) mm) (rowT_of (by rfl)) (by rfl) rfl ⟨by rw [R.out]; rfl, hk.mod.below⟩
    · have hne : ((clAt cl i).pl == n) = false := by rw [beq_eq_false_iff_ne]; exact he
      have HE := hide he
      clear he
      obtain ⟨st, hst⟩ : ∃ st, st = (clAt cl i).st := ⟨_, rfl⟩
      obtain ⟨p, hp⟩ : ∃ p, p = (clAt cl i).pl := ⟨_, rfl⟩
      rw [<- hst, <- hp] at hci
      rw [<- hp] at HE hne
      have HP := hide hp
      clear hst hp
      have hc0 := cell0 hci hb hk.mod
      go_wp2_with ((with_reducible apply gL); (first | refine wS hk ?_ | (refine wN hk ?_; clear hk; intro w1 hk)); simp only [pw])
      go_roundw
      case rel => exact ⟨i + 1, by omega, by go_num, fun j hj => by rcases Nat.lt_succ_iff_lt_or_eq.1 hj with h | h; exact HA.out j h; subst h; rw [<- HP.out]; exact HE.out, hk⟩
      case measure => simp [intOf]; omega
  · have e : i = cl.length := by omega
    subst e
    have R : Hid (findC cl n = none) := hide (findC_no HA.out)
    go_wp2_with ((with_reducible apply gL); (first | refine wS hk ?_ | (refine wN hk ?_; clear hk; intro w1 hk)); simp only [pw])
    exact post_1 rfl (by rfl) (hk.at (A := plC false zeroS) mm) (rowT_of (by rfl)) (by rfl) rfl ⟨by rw [R.out]; rfl, hk.mod.below⟩
theorem rf_claim_nil (a : Option Addr) (cap : Nat) (n : Int) (w : World) : Calls Tryz.prog 73 #[.slice a 0 cap, .int .i64 n] w fun e w' => e = .returned (.agg (plC false zeroS)) /\ Below w.heap.size w w' := by
 have hk := Kn.nil [] w
 go_enter Tryz.func73, Tryz.ntmps73
 go_wp2_with ((with_reducible apply gL); (first | refine wS hk ?_ | (refine wN hk ?_; clear hk; intro w1 hk)); simp only [pw])
 go_loopw [5] (fun j wr => j = .int .i64 0 /\ Kn [] w wr [(w.heap.size, plC false zeroS, 168)]) (fun _ _ => 0)
 case atStart => exact ⟨rfl, hk⟩
 case round =>
  clear hk
  obtain ⟨rfl, hk⟩ := hrel
  go_wp2_with ((with_reducible apply gL); (first | refine wS hk ?_ | (refine wN hk ?_; clear hk; intro w1 hk)); simp only [pw])
  exact post_1 rfl (by rfl) (hk.at mm) (rowT_of (by rfl)) (by rfl) rfl ⟨rfl, hk.mod.below⟩
theorem rf_claim (cl : List C2) (hcl : cl.length < 4000000000000) (v : Value) (n : Int) (w : World) (h : SlcC w v cl) : Calls Tryz.prog 73 #[v, .int .i64 n] w fun e w' => e = .returned (.agg (plC (findC cl n).isSome (stO (findC cl n)))) /\ Below w.heap.size w w' := by
 rcases h with ⟨⟨a, cap, rfl⟩, rfl⟩ | ⟨b, off, cap, rfl, hb, hc⟩
 · exact rf_claim_nil a cap n w
 · exact rf_claim_some cl hcl b off cap n w hb hc
def wayO (b : Bool) (s : St) : Option St := if b then some s else none
theorem wayO_is (b : Bool) (s : St) : (wayO b s).isSome = b := by cases b <;> rfl
theorem rf_div (b c : R2) (hb : b.in64) (_hbo : b.lo <= b.hi) (hco : c.lo <= c.hi) (w : World) : Calls Tryz.prog 92 #[.int .i64 6, .agg (rgC b), .agg (rgC c)] w fun e w' => e = .returned (.agg (rgC (quoR b c))) /\ Below w.heap.size w w' := by
 unfold R2.in64 I64 at hb
 have e0 : hasR c 0 = (decide (c.lo <= 0) && decide (0 <= c.hi)) := by unfold hasR; rw [Bool.decide_and]
 have e1 : hasR c (-1) = (decide (c.lo <= -1) && decide (-1 <= c.hi)) := by unfold hasR; rw [Bool.decide_and]
 have e2 : hasR b (-9223372036854775808) = (b.lo == (-9223372036854775808)) := by
  unfold hasR
  rw [Bool.eq_iff_iff, decide_eq_true_eq, beq_iff_eq]
  omega
 cases h1 : decide (c.lo <= 0) with
 | true => cases h2 : decide (0 <= c.hi) with
   | true =>
     rw [quoR_no (by unfold quoAll; rw [e0, h1, h2]; rfl)]
     exact rf_div1 b c h1 h2 w
   | false =>
     have hl : c.lo ≠ 0 := by simp at h1 h2; omega
     have hh : c.hi ≠ 0 := by simp at h2; omega
     cases h3 : (b.lo == (-9223372036854775808)) with
     | false =>
       rw [quoR_yes (by unfold quoAll; rw [e0, e2, h1, h2, h3]; simp)]
       exact rf_div4 b c hl hh h1 h2 h3 w
     | true =>
       have h4 : decide (c.lo <= -1) = true := by simp at h1 h2 ⊢; omega
       cases h5 : decide (-1 <= c.hi) with
       | true =>
         rw [quoR_no (by unfold quoAll; rw [e0, e1, e2, h1, h2, h3, h4, h5]; rfl)]
         exact rf_div5 b c h1 h2 h3 h4 h5 w
       | false =>
         rw [quoR_yes (by unfold quoAll; rw [e0, e1, e2, h1, h2, h3, h4, h5]; rfl)]
         exact rf_div6 b c hl hh h1 h2 h3 h4 h5 w
 | false =>
   have hl : c.lo ≠ 0 := by simp at h1; omega
   have hh : c.hi ≠ 0 := by simp at h1; omega
   cases h3 : (b.lo == (-9223372036854775808)) with
   | false =>
     rw [quoR_yes (by unfold quoAll; rw [e0, e2, h1, h3]; simp)]
     exact rf_div2 b c hl hh h1 h3 w
   | true =>
     have h4 : decide (c.lo <= -1) = false := by simp at h1 ⊢; omega
     rw [quoR_yes (by unfold quoAll; rw [e0, e1, e2, h1, h3, h4]; simp)]
     exact rf_div3 b c hl hh h1 h3 h4 w
theorem isSt_iff {s : St} : isStR s = true ↔ St.ok s := by
 unfold isStR St.ok
 rw [List.all_eq_true]
 simp
theorem narr_way {s : St} {a b : Nat} {x y z : R2} (hs : s.ok) (ha : a < 8) (hb : b < 8) (hab : a ≠ b) (hz : z = y) : wayO (isStR (updS (updS s a x) b z)) (updS (updS s a x) b z) = narrR s a x b y := by
 subst hz
 unfold narrR wayO emptyR
 by_cases h1 : x.hi < x.lo
 · have : isStR (updS (updS s a x) b z) = false := by
    rw [Bool.eq_false_iff]; intro h
    have := isSt_iff.1 h a ha
    rw [upd_other hab, upd_same] at this
    omega
   simp [h1, this]
 · by_cases h2 : z.hi < z.lo
   · have : isStR (updS (updS s a x) b z) = false := by
      rw [Bool.eq_false_iff]; intro h
      have := isSt_iff.1 h b hb
      rw [upd_same] at this
      omega
     simp [h2, this]
   · have : isStR (updS (updS s a x) b z) = true := isSt_iff.2 (upd_ok (upd_ok hs (by omega)) (by omega))
     simp [h1, h2, this]
theorem rf_less (a b : Nat) (ha : a < 8) (hb : b < 8) (hab : a ≠ b) (s : St) (hs : s.ok) (h64 : s.in64) : ∃ b1 s1 b2 s2,
 wayO b1 s1 = (if (s b).hi = -9223372036854775808 \/ (s a).lo = 9223372036854775807 then none else narrR s a ⟨(s a).lo, min (s a).hi ((s b).hi - 1)⟩ b ⟨max (s b).lo ((s a).lo + 1), (s b).hi⟩) /\
 wayO b2 s2 = narrR s a ⟨max (s a).lo (s b).lo, (s a).hi⟩ b ⟨(s b).lo, min (s b).hi (s a).hi⟩ /\
 ∀ w, Calls Tryz.prog 90 #[.agg (stC s), .int .i64 a, .int .i64 b] w fun e w' => e = .returned (.tuple #[.agg (plC b1 s1), .agg (plC b2 s2)]) /\ Below w.heap.size w w' := by
 have h1 := h64 b hb
 have h2 := h64 a ha
 unfold R2.in64 I64 at h1 h2
 by_cases c1 : -9223372036854775808 < (s b).hi
 · by_cases c2 : (s a).lo < 9223372036854775807
   · refine ⟨_, _, _, _, ?_, ?_, fun w => rf_less1 a b ha hb s _ _ _ (hide rfl) (hide rfl) (hide rfl) _ _ _ (hide rfl) (hide rfl) (hide rfl) c1 c2 (by omega) (by omega) w⟩
     · rw [if_neg (by omega), Bool.not_not]
       exact narr_way hs ha hb hab (by rw [upd_other hab.symm])
     · rw [Bool.not_not]
       exact narr_way hs ha hb hab (by rw [upd_other hab.symm])
   · refine ⟨_, _, _, _, ?_, ?_, fun w => rf_less3 a b ha hb s _ _ _ (hide rfl) (hide rfl) (hide rfl) c1 c2 w⟩
     · rw [if_pos (by omega)]; rfl
     · rw [Bool.not_not]
       exact narr_way hs ha hb hab (by rw [upd_other hab.symm])
 · refine ⟨_, _, _, _, ?_, ?_, fun w => rf_less2 a b ha hb s _ _ _ (hide rfl) (hide rfl) (hide rfl) c1 w⟩
   · rw [if_pos (by omega)]; rfl
   · rw [Bool.not_not]
     exact narr_way hs ha hb hab (by rw [upd_other hab.symm])
theorem same_way {s : St} {a b : Nat} {x : R2} : wayO (!emptyR x) (updS (updS s a x) b x) = narrR s a x b x := by
 unfold narrR wayO
 cases emptyR x <;> rfl
theorem fwR_rise {mk : Nat -> Bool} {n : Nat} : ∀ (cl : List C2) (last : Int) (i : Nat), fwR mk n cl last i = i + cl.length -> (∀ c, c ∈ cl -> last < c.pl) /\ cl.Pairwise (fun x y => x.pl < y.pl)
 | [], _, _, _ => ⟨fun c hc => (by cases hc), .nil⟩
 | d :: r, last, i, h => by
   unfold fwR at h
   by_cases hb : badC mk n last d = true
   · rw [if_pos hb] at h; simp at h
   · rw [if_neg hb] at h
     have hb' : badC mk n last d = false := by simpa using hb
     unfold badC at hb'
     simp only [Bool.or_eq_false_iff, decide_eq_false_iff_not, Bool.not_eq_false'] at hb'
     obtain ⟨⟨⟨h1, _⟩, _⟩, _⟩ := hb'
     have ih := fwR_rise r d.pl (i + 1) (by rw [h]; simp; omega)
     refine ⟨fun c hc => ?_, List.pairwise_cons.2 ⟨ih.1, ih.2⟩⟩
     rcases List.mem_cons.1 hc with rfl | hc
     · omega
     · have := ih.1 c hc; omega
theorem layU_no {cl : List C2} {k : Nat} : ∀ (i : Nat), (∀ j, j < i -> (clAt cl j).pl.toNat ≠ k) -> layU cl i k = none
 | 0, _ => rfl
 | i + 1, h => by
   unfold layU updW
   rw [if_neg (fun e => h i (by omega) e.symm)]
   exact layU_no i fun j hj => h j (by omega)
theorem layU_yes {cl : List C2} {k m : Nat} (hm : (clAt cl m).pl.toNat = k) : ∀ (i : Nat), m < i -> (∀ j, m < j -> j < i -> (clAt cl j).pl.toNat ≠ k) -> layU cl i k = some (clAt cl m).st
 | 0, h, _ => by omega
 | i + 1, h, hj => by
   unfold layU updW
   by_cases e : k = (clAt cl i).pl.toNat
   · rw [if_pos e]
     by_cases e2 : m = i
     · rw [e2]
     · exact absurd e.symm (hj i (by omega) (by omega))
   · rw [if_neg e]
     refine layU_yes hm i ?_ fun j h1 h2 => hj j h1 (by omega)
     rcases Nat.lt_succ_iff_lt_or_eq.1 h with h | h
     · exact h
     · subst h; exact absurd hm.symm e
theorem lay_find {cl : List C2} (h0 : ∀ i, i < cl.length -> 0 <= (clAt cl i).pl) (hp : cl.Pairwise (fun x y => x.pl < y.pl)) (k : Nat) : findC cl (k : Int) = layR cl k := by
 unfold layR
 by_cases h : ∃ m, m < cl.length /\ (clAt cl m).pl = (k : Int)
 · obtain ⟨m, hm, he⟩ := h
   have hlt : ∀ i j, i < j -> j < cl.length -> (clAt cl i).pl < (clAt cl j).pl := fun i j hij hj => by
    rw [clAt_get hj, clAt_get (by omega)]
    exact List.pairwise_iff_getElem.1 hp i j (by omega) hj hij
   rw [findC_yes hm (fun j hj e => by have := hlt j m hj hm; omega) he, layU_yes (by omega) _ hm fun j h1 h2 e => by have := hlt m j h1 h2; omega]
 · rw [findC_no fun j hj e => h ⟨j, hj, e⟩, layU_no _ fun j hj e => h ⟨j, hj, by have := h0 j hj; omega⟩]
theorem jm_fit {l : List I5} (hl : AllFit l) {i : Nat} (hi : i < l.length) (k : Int) : jmB (insAt l i) k = (decide (9 <= (insAt l i).o) && decide ((insAt l i).k = k)) := by
 have hf := hl.fit hi
 have ho : (insAt l i).o < 12 := by
  unfold I5.fits fitsB at hf
  simp only [Bool.and_eq_true, decide_eq_true_eq] at hf
  omega
 unfold jmB
 rw [Bool.eq_iff_iff]
 simp only [Bool.and_eq_true, Bool.or_eq_true, beq_iff_eq, decide_eq_true_eq]
 constructor
 · rintro ⟨h1, h2⟩; exact ⟨by omega, h2⟩
 · rintro ⟨h1, h2⟩; exact ⟨by omega, h2⟩
theorem markI_nat {l : List I5} (hl : AllFit l) (k : Nat) : markI l (k : Int) = markB l k := by
 unfold markI markB
 rw [Bool.eq_iff_iff, List.any_eq_true, List.any_eq_true]
 constructor
 · rintro ⟨x, hx, h⟩
   obtain ⟨j, hj, rfl⟩ := List.mem_iff_getElem.1 hx
   rw [<- insAt_get hj, jm_fit hl hj] at h
   exact ⟨_, List.getElem_mem hj, by rw [<- insAt_get hj]; exact h⟩
 · rintro ⟨x, hx, h⟩
   obtain ⟨j, hj, rfl⟩ := List.mem_iff_getElem.1 hx
   rw [<- insAt_get hj] at h
   exact ⟨_, List.getElem_mem hj, by rw [<- insAt_get hj, jm_fit hl hj]; exact h⟩
theorem markI_in {l : List I5} (hl : AllFit l) {k : Int} (h : markI l k = true) : 0 <= k /\ k < l.length := by
 unfold markI at h
 rw [List.any_eq_true] at h
 obtain ⟨x, hx, h⟩ := h
 obtain ⟨j, hj, rfl⟩ := List.mem_iff_getElem.1 hx
 rw [<- insAt_get hj, jm_fit hl hj] at h
 simp only [Bool.and_eq_true, decide_eq_true_eq] at h
 have := hl.k hj h.1
 omega
def lastOf (cl : List C2) (i : Nat) : Int := if i = 0 then -1 else (clAt cl (i - 1)).pl
theorem fwR_upto {mk : Nat -> Bool} {n : Nat} {cl : List C2} : ∀ (i : Nat), i <= cl.length -> (∀ j, j < i -> badC mk n (lastOf cl j) (clAt cl j) = false) -> fwR mk n cl (-1) 0 = fwR mk n (cl.drop i) (lastOf cl i) i
 | 0, _, _ => rfl
 | i + 1, hi, h => by
   rw [fwR_upto i (by omega) fun j hj => h j (by omega), fwR_ok (by omega) (h i (by omega))]
   rfl
theorem last_ge {mk : Nat -> Bool} {n : Nat} {cl : List C2} : ∀ (i : Nat), (∀ j, j < i -> badC mk n (lastOf cl j) (clAt cl j) = false) -> -1 <= lastOf cl i
 | 0, _ => by unfold lastOf; simp
 | i + 1, h => by
   have h1 := last_ge i fun j hj => h j (by omega)
   have h2 := h i (by omega)
   unfold badC at h2
   simp only [Bool.or_eq_false_iff, decide_eq_false_iff_not] at h2
   show -1 <= (clAt cl i).pl
   omega
theorem bad_ref {l : List I5} (hl : AllFit l) {cl : List C2} {i : Nat} (h : ∀ j, j < i -> badC (markB l) l.length (lastOf cl j) (clAt cl j) = false) : badC (markB l) l.length (lastOf cl i) (clAt cl i) = (!markI l (clAt cl i).pl || !isStR (clAt cl i).st || (decide (0 < i) && decide ((clAt cl i).pl <= (clAt cl (i - 1)).pl))) := by
 have hge := last_ge i h
 unfold badC
 by_cases hm : markI l (clAt cl i).pl = true
 · have hin := markI_in hl hm
   have e : markB l (clAt cl i).pl.toNat = true := by rw [<- markI_nat hl]; rw [show (((clAt cl i).pl.toNat : Nat) : Int) = (clAt cl i).pl by omega]; exact hm
   rw [hm, e]
   rw [Bool.eq_iff_iff]
   simp only [Bool.or_eq_true, Bool.and_eq_true, decide_eq_true_eq, Bool.not_true, Bool.false_eq_true, or_false, false_or]
   unfold lastOf at *
   by_cases h0 : i = 0
   · rw [if_pos h0] at *
     constructor
     · rintro ((h1 | h1) | h1)
       · omega
       · omega
       · exact Or.inl h1
     · rintro (h1 | h1)
       · exact Or.inr h1
       · omega
   · rw [if_neg h0] at *
     constructor
     · rintro ((h1 | h1) | h1)
       · exact Or.inr ⟨by omega, h1⟩
       · omega
       · exact Or.inl h1
     · rintro (h1 | h1)
       · exact Or.inr h1
       · exact Or.inl (Or.inl h1.2)
 · have hm' : markI l (clAt cl i).pl = false := by simpa using hm
   rw [hm']
   simp only [Bool.not_false, Bool.true_or]
   by_cases h1 : (clAt cl i).pl <= lastOf cl i
   · simp [h1]
   · have e : markB l (clAt cl i).pl.toNat = false := by rw [<- markI_nat hl]; rw [show (((clAt cl i).pl.toNat : Nat) : Int) = (clAt cl i).pl by omega]; exact hm'
     simp [e]
end Go.Proofs.YtamiichlbmllcabGreatDoor
