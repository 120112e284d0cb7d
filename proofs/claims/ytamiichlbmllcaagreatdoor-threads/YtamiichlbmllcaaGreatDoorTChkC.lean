import Derived.Test.YtamiichlbmllcaaGreatDoorTRfO
import Derived.Test.YtamiichlbmllcaaGreatDoorTChF
import Derived.DeepKeys
import Derived.Deep.CutRange
import Derived.Test.YtamiichlbmllcaaGreatDoorTRI
/-
  suretyref.Check: what surety.Check answers.
-/
namespace Go.Proofs.YtamiichlbmllcaaGreatDoor
open Go.RowKit
set_option maxHeartbeats 4000000 in
set_option maxRecDepth 100000 in
theorem rf_Check_err (l : List I5) (e : St) (p q : Int) (hp : (p == 0) = false) (v cv : Value) (w : World) (H : ∀ w1, Below w.heap.size w w1 → Calls Tryz.prog 58 #[v, .agg (stC e)] w1 fun r w' => r = .returned (.tuple #[.int .i64 p, .int .i64 q]) ∧ Below w1.heap.size w1 w') (hv : ∃ a cap, v = .slice a l.length cap) :
    Calls Tryz.prog 60 #[v, .agg (stC e), cv] w fun r w' => r = .returned (.tuple #[.int .i64 p, .int .i64 q]) ∧ Below w.heap.size w w' := by
  have hk := Kn.nil [] w
  obtain ⟨a, cap, rfl⟩ := hv
  have HH := hide H
  clear H
  go_enter Tryz.func60, Tryz.ntmps60
  go_wp2_with (first | (go_at_call 58; refine (HH.out _ hk.mod.below).mono ?_; rintro e w1 ⟨rfl, hb⟩; replace hk := hk.call hb; clear hb) | ((with_reducible show wpList _ _ _ _ _ _); (first | (refine wS hk ?_; simp only [Act.put, pw]) | (refine wN hk ?_; clear hk; intro w1 hk; simp only [Act.put, pw]) | (refine wT hk ?_; clear hk; intro w1 hk; simp only [Act.put]))))
  go_ret2
  exact ⟨rfl, hk.mod.below⟩
theorem rf_Check (l : List I5) (e : St) (cl : List C2) (h64 : In64 l e cl) (hcl : cl.length < 4000000000000) (v cv : Value) (w : World) (h : Slc w v l) (hc : SlcC w cv cl) :
    Calls Tryz.prog 60 #[v, .agg (stC e), cv] w fun r w' => r = .returned (.tuple #[.int .i64 (scheckR l e cl).1, .int .i64 (scheckR l e cl).2]) ∧ Below w.heap.size w w' := by
  rcases rightR_or l with hr | hr
  · have R : scheckR l e cl = ((checkR l e cl).1, ((checkR l e cl).2 : Int)) := by unfold scheckR; rw [if_pos hr]
    rw [R]
    cases hst : isStR e with
    | true =>
      have hne := (right_fit hr).1
      obtain ⟨pb, poff, pcap, rfl, hpb, hI⟩ : ∃ b off cap, v = .slice (some ⟨b, off, none⟩) l.length cap ∧ b < w.heap.size ∧ ∀ i (h : i < l.length), InsAt w b (off + i * 5) l[i] := by
        rcases h with ⟨_, rfl⟩ | h
        · simp at hne
        · exact h
      have hcv : ∃ a cap, cv = .slice a cl.length cap := by
        rcases hc with ⟨⟨a, cap, h⟩, rfl⟩ | ⟨b, off, cap, h, _, _⟩
        · exact ⟨a, cap, h⟩
        · exact ⟨_, cap, h⟩
      obtain ⟨a, cap, rfl⟩ := hcv
      exact rf_Check_ok l hr e hst cl h64 hcl pb poff pcap a cap w hpb hI hc
    | false =>
      have R2 : checkR l e cl = (3, 0) := by unfold checkR; rw [hst]; rfl
      rw [R2]
      exact rf_Check_err l e 3 0 rfl v cv w (fun w1 hb => rf_first_st l e hr false hst v w1 (h.below hb (Nat.le_refl _))) h.len
  · have R : scheckR l e cl = rightR l := by unfold scheckR; rw [if_neg (by intro h; rw [h] at hr; simp at hr)]
    rw [R]
    obtain ⟨p, q, hpq⟩ : ∃ p q, rightR l = (p, q) := ⟨_, _, rfl⟩
    rw [hpq] at hr ⊢
    simp only at hr
    subst hr
    exact rf_Check_err l e 1 q rfl v cv w (fun w1 hb => rf_first_no l e 1 q hpq (by decide) v w1 (h.below hb (Nat.le_refl _))) h.len
end Go.Proofs.YtamiichlbmllcaaGreatDoor
/-
  The contract of suretylaw.backClaims.
-/
namespace Go.Proofs.YtamiichlbmllcaaGreatDoor
open Go.RowKit
set_option maxHeartbeats 8000000 in
set_option maxRecDepth 100000 in
theorem eqIn_st (s : St) (w : World) : (Op.equalIn 9999 30 (.agg (stC s)) (.agg (stC s))).run Tryz.prog w = .ok true w := by
  obtain ⟨i, hi, hz⟩ : ∃ i, Tryz.prog.info? 28 = some i ∧ i.size = 2 := by
    obtain ⟨i, hi, h2⟩ := Option.map_eq_some_iff.1 (show (Tryz.prog.info? 28).map (·.size) = some 2 by kernel_rfl)
    exact ⟨i, hi, h2⟩
  rw [run_equalIn_array w 9998 (stC s) (stC s) Tryz.underlying30 hi, show Tryz.prog.cellsOf 28 = 2 by kernel_rfl, show List.range 8 = [0, 1, 2, 3, 4, 5, 6, 7] from rfl]
  unfold stC
  simp [Op.eqItems, go_sem]
set_option maxHeartbeats 8000000 in
set_option maxRecDepth 100000 in
theorem eq_cl (ρ : Operand → Value) (d : Option Tmp) (x y : Operand) (tt : TypeId) (pos : String) (aft : Array Edge) (g : Option (Nat × Bool)) (p : Int) (s : St) (w : World) (hx : ρ x = .agg (clC p s)) (hy : ρ y = .agg (clC p s)) :
    (execOp ρ ⟨d, .binOp .eql 78 x y 78, tt, pos, aft, g⟩).run Tryz.prog w = .ok (.value (.bool true)) w := by
  unfold execOp
  simp only [hx, hy]
  have := fun w => eqIn_st s w
  unfold stC at this
  unfold clC
  simp [go_sem, this]
section
variable {l : List Oper} {Q : Exit → Act → World → Prop} {F : Nat → Bool} {S : World → Prop} {i : Nat} {r : OT} {a : Act} {w : World} {d : Option Tmp} {x y : Operand} {t tt : TypeId} {pos : String} {aft : Array Edge} {g : Option (Nat × Bool)}
set_option maxRecDepth 100000 in
theorem sEqC {p : Int} {s : St} (hk : S w) (h : wpT Tryz.prog l Q F S r (a.put d (.bool true)) w) (ho : nthO i l = some ⟨d, .binOp .eql 78 x y 78, tt, pos, aft, g⟩ := by rfl) (hw : Region.wanted ⟨d, .binOp .eql 78 x y 78, tt, pos, aft, g⟩ (yielded l.toArray a.tmps) = true := by rfl) (hx : a.eval x = .agg (clC p s) := by rfl) (hy : a.eval y = .agg (clC p s) := by rfl) : wpT Tryz.prog l Q F S (.op i r) a w :=
  tRun ho rfl hw hk (fun wx => eq_cl _ _ _ _ _ _ _ _ p s wx hx hy) h
theorem add_run (ρ : Operand → Value) (d : Option Tmp) (x y : Operand) (tt t' : TypeId) (pos : String) (aft : Array Edge) (g : Option (Nat × Bool)) (p q : Int) (w : World) (hx : ρ x = .int .i64 p) (hy : ρ y = .int .i64 q) : (execOp ρ ⟨d, .binOp .add 3 x y t', tt, pos, aft, g⟩).run Tryz.prog w = .ok (.value (.int .i64 (wrap64 (p + q)))) w := by
  unfold execOp; simp only [hx, hy]; simp [go_sem]; exact IntWalk.i64_left _
set_option maxRecDepth 100000 in
theorem sAdd {p q m : Int} (hk : S w) (h : wpT Tryz.prog l Q F S r (a.put d (.int .i64 m)) w) (ho : nthO i l = some ⟨d, .binOp .add 3 x y t, tt, pos, aft, g⟩ := by rfl) (hw : Region.wanted ⟨d, .binOp .add 3 x y t, tt, pos, aft, g⟩ (yielded l.toArray a.tmps) = true := by rfl) (hx : a.eval x = .int .i64 p := by rfl) (hy : a.eval y = .int .i64 q := by rfl) (hm : wrap64 (p + q) = m := by assumption) : wpT Tryz.prog l Q F S (.op i r) a w :=
  tRun ho rfl hw hk (fun wx => (add_run _ _ _ _ _ _ _ _ _ p q wx hx hy).trans (by rw [hm])) h
end
theorem ex_clsX {n : Nat} {f : Nat → C2} {i : Nat} {p : Int} {s : St} (h : i < n) (hf : f i = ⟨p, s⟩) : (clsA n f).extract (i * 17) (i * 17 + 17) = clC p s := by rw [ex_cls n f i h, hf]
/-- while it is written over -/
def backU (cl : List C2) (k : Nat) : Nat → C2 := fun i => if i < k then ⟨-1, zeroS⟩ else lentU cl (cl.length + 3) i
theorem backU_step (cl : List C2) (N k : Nat) : clsA N (updC (backU cl k) k ⟨-1, zeroS⟩) = clsA N (backU cl (k + 1)) := cls_congr fun i _ => by
  unfold updC backU
  by_cases h1 : i = k
  · subst h1; rw [if_pos rfl, if_pos (by omega)]
  · rw [if_neg h1]
    by_cases h3 : i < k
    · rw [if_pos h3, if_pos (by omega)]
    · rw [if_neg h3, if_neg (by omega)]
theorem Kn.one {w : World} {g : Nat} {A : Array Value} {t : TypeId} (h : At w g A t) : Kn [g] w w [(g, A, t)] := ⟨Mod.refl _ _, fun x hx => (by simp at hx; subst hx; exact ⟨h, Or.inr (by simp)⟩), List.pairwise_singleton _ _⟩
theorem Mod.base {w w' : World} {g base : Nat} (h : Mod [g] w w') (hb : base ≤ g) (hg : g < w.heap.size) : Below base w w' := ⟨h.os, h.tape, h.output, h.size, fun k hk => h.block k (by omega) (by simp; omega)⟩
set_option maxHeartbeats 8000000 in
set_option maxRecDepth 100000 in
theorem backC_some (cl : List C2) (a : Addr) (c g base : Nat) (w : World) (hbg : base ≤ g) (hat : At w g (clsA (cl.length + 3) (lentU cl (cl.length + 3))) 78) (hp : 0 < cl.length → ∃ b off, a = ⟨b, off, none⟩ ∧ b < base ∧ ∀ i, i < cl.length → w.rangeAt b (off + i * 17) (clC (clAt cl i).pl (clAt cl i).st).toList) (hlen : cl.length * 136 ≤ 140737488351232) :
    Calls Tryz.prog 88 #[.slice (some ⟨g, 0, none⟩) cl.length (cl.length + 3), .slice (some a) cl.length c] w fun e w' => e = .returned (.bool true) ∧ Mod [g] w w' := by
  have hq := fun wx => Lib.run_eql_slice_nil (P := Tryz.prog) wx 41 78 (some a) cl.length c 0 0 Tryz.underlying41
  simp only [Option.isNone_some] at hq
  have hgs := lt_of_block hat
  have hk := Kn.one hat
  have HP := hide hp
  clear hp hat
  go_enter Tryz.func88, Tryz.ntmps88
  go_wp2_with (first | ((with_reducible show wpList _ _ _ _ _ _); (first | (refine wS hk ?_; simp only [Act.put, pw]) | (refine wN hk ?_; clear hk; intro w1 hk; simp only [Act.put, pw]) | (refine wT hk ?_; clear hk; intro w1 hk; simp only [Act.put]))))
  go_loopw [6, 7] (fun ok j wr => ∃ n : Nat, n ≤ cl.length + 3 ∧ ok = .bool true ∧ j = .int .i64 n ∧ Kn [g] w wr [(g, clsA (cl.length + 3) (backU cl n), 78)]) (fun _ j _ => cl.length + 3 - (intOf j).toNat)
  case atStart => exact ⟨0, by omega, rfl, rfl, hk⟩
  case round =>
    clear hk
    obtain ⟨n, hn, rfl, rfl, hk⟩ := hrel
    by_cases hlt : n < cl.length + 3
    · have R := hide (backU_step cl (cl.length + 3) n)
      by_cases hin : n < cl.length
      · obtain ⟨b, off, rfl, hb, hi⟩ := HP.out (by omega)
        have hci := hi n hin
        have hbs : b < w.heap.size := by omega
        have hbn : b ∉ [g] := by simp; omega
        obtain ⟨st, hst⟩ : ∃ st, st = (clAt cl n).st := ⟨_, rfl⟩
        obtain ⟨p, hp⟩ : ∃ p, p = (clAt cl n).pl := ⟨_, rfl⟩
        rw [← hst, ← hp] at hci
        have HB : Hid (backU cl n n = ⟨p, st⟩) := hide (by unfold backU lentU; rw [if_neg (by omega), if_pos hin, hst, hp])
        clear hi hst hp
        go_wp2_with (first | ((with_reducible show wpList _ _ _ _ _ _); (first | (refine wS hk ?_; simp only [Act.put, pw]) | (refine wN hk ?_; clear hk; intro w1 hk; simp only [Act.put, pw]) | (refine wT hk ?_; clear hk; intro w1 hk; simp only [Act.put]))))
        (refine wp_regK hk (.op 0 (.op 1 (.op 2 (.op 3 (.op 4 (.op 5 (.op 6 (.op 7 (.op 8 (.op 9 (.op 10 (.op 11 (.op 12 .nil))))))))))))) (fun i => decide (i < 12)) mixT (by decide) (by kernel_rfl) (by kernel_rfl) ?_; clear hk; intro w1 hk)
        iterate 5 (first | (refine sMove hk ?_; simp only [Act.put, pw]) | (refine sIndexS0 hk ?_; simp only [Act.put, pw]))
        refine sLoadR hk ?_ (hc := ex_clsX hlt HB.out); simp only [Act.put, pw]
        (repeat (refine sV hk ?_; simp only [Act.put, pw]))
        refine sEqC hk ?_; simp only [Act.put, pw]
        (repeat (refine sV hk ?_; simp only [Act.put, pw]))
        refine tNil ?_
        go_wp2_with (first | (refine wBuild hk ?_ (hb := build_cla _ _); simp only [Act.put, pw]) | (refine wStoreR hk ?_ (hj := by simp only [clsA_size]; omega) (hA := put_cls _ _ _ _ _); clear hk; intro w1 hk; simp only [Act.put]) | ((with_reducible show wpList _ _ _ _ _ _); (first | (refine wS hk ?_; simp only [Act.put, pw]) | (refine wN hk ?_; clear hk; intro w1 hk; simp only [Act.put, pw]) | (refine wT hk ?_; clear hk; intro w1 hk; simp only [Act.put]))))
        go_roundw
        case rel => exact ⟨n + 1, by omega, rfl, by go_num, by rw [← R.out]; exact hk⟩
        case measure => simp [intOf]; omega
      · have HB : Hid (backU cl n n = ⟨77 + (n : Int), zeroS⟩) := hide (by unfold backU lentU; rw [if_neg (by omega), if_neg hin, if_pos hlt])
        have hadd : wrap64 (77 + (n : Int)) = 77 + (n : Int) := by unfold wrap64; omega
        go_upto_region 10 with (first | ((with_reducible show wpList _ _ _ _ _ _); (first | (refine wS hk ?_; simp only [Act.put, pw]) | (refine wN hk ?_; clear hk; intro w1 hk; simp only [Act.put, pw]) | (refine wT hk ?_; clear hk; intro w1 hk; simp only [Act.put]))))
        (refine wp_regLK hk (.op 0 (.op 1 (.op 2 (.op 3 (.op 4 (.op 5 (.op 6 (.op 7 (.op 8 (.op 9 (.op 10 (.op 11 .nil)))))))))))) (by rfl) ?_)
        iterate 5 (first | (refine sMove hk ?_; simp only [Act.put, pw]) | (refine sIndexS0 hk ?_; simp only [Act.put, pw]))
        refine sLoadR hk ?_ (hc := ex_clsX hlt HB.out); simp only [Act.put, pw]
        refine sMove hk ?_; simp only [Act.put, pw]
        refine sAdd hk ?_; simp only [Act.put, pw]
        refine sBuild hk ?_ (hb := fun wx => build_cla _ wx); simp only [Act.put, pw]
        refine sEqC hk ?_; simp only [Act.put, pw]
        (repeat (refine sV hk ?_; simp only [Act.put, pw]))
        refine tNil ?_
        go_wp2_with (first | (refine wBuild hk ?_ (hb := build_cla _ _); simp only [Act.put, pw]) | (refine wStoreR hk ?_ (hj := by simp only [clsA_size]; omega) (hA := put_cls _ _ _ _ _); clear hk; intro w1 hk; simp only [Act.put]) | ((with_reducible show wpList _ _ _ _ _ _); (first | (refine wS hk ?_; simp only [Act.put, pw]) | (refine wN hk ?_; clear hk; intro w1 hk; simp only [Act.put, pw]) | (refine wT hk ?_; clear hk; intro w1 hk; simp only [Act.put]))))
        go_roundw
        case rel => exact ⟨n + 1, by omega, rfl, by go_num, by rw [← R.out]; exact hk⟩
        case measure => simp [intOf]; omega
    · go_wp2_with (first | ((with_reducible show wpList _ _ _ _ _ _); (first | (refine wS hk ?_; simp only [Act.put, pw]) | (refine wN hk ?_; clear hk; intro w1 hk; simp only [Act.put, pw]) | (refine wT hk ?_; clear hk; intro w1 hk; simp only [Act.put]))))
      go_ret
      exact ⟨rfl, hk.mod⟩
set_option maxHeartbeats 1600000 in
theorem lentC_nil (w : World) :
    Calls Tryz.prog 87 #[.slice none 0 0] w fun e w' => e = .returned (.slice none 0 0) ∧ w' = w := by
  have hq := fun wx => Lib.run_eql_slice_nil (P := Tryz.prog) wx 41 78 none 0 0 0 0 Tryz.underlying41
  simp only [Option.isNone_none] at hq
  go_enter Tryz.func87, Tryz.ntmps87
  go_wp2
  go_ret
  exact ⟨rfl, rfl⟩
set_option maxHeartbeats 1600000 in
theorem backC_nil (hv : Value) (w : World) :
    Calls Tryz.prog 88 #[hv, .slice none 0 0] w fun e w' => e = .returned (.bool true) ∧ w' = w := by
  have hq := fun wx => Lib.run_eql_slice_nil (P := Tryz.prog) wx 41 78 none 0 0 0 0 Tryz.underlying41
  simp only [Option.isNone_none] at hq
  go_enter Tryz.func88, Tryz.ntmps88
  go_wp2
  go_ret
  exact ⟨rfl, rfl⟩
theorem lentC_any (cl : List C2) (v : Value) (w : World) (h : ArgC w v cl) (hlen : cl.length * 136 ≤ 140737488351232) :
    Calls Tryz.prog 87 #[v] w fun e w' => ∃ hv, e = .returned hv ∧ LentC w' w.heap.size v hv cl ∧ Below w.heap.size w w' := by
  rcases h.cells with ⟨rfl, rfl⟩ | ⟨a, c, rfl, hc⟩
  · refine (lentC_nil w).mono ?_
    rintro e w' ⟨rfl, rfl⟩
    exact ⟨_, rfl, Or.inl ⟨rfl, rfl, rfl⟩, Below.refl _ _⟩
  · exact lentC_some cl a c w hc hlen
/-- what was lent is as it was; it is written over, and nothing else -/
theorem backC_any (cl : List C2) (v hv : Value) (base : Nat) (w0 w : World) (hl : LentC w base v hv cl) (ha : ArgC w0 v cl) (h0 : w0.heap.size ≤ base) (hbl : Below w0.heap.size w0 w) (hlen : cl.length * 136 ≤ 140737488351232) :
    Calls Tryz.prog 88 #[hv, v] w fun e w' => e = .returned (.bool true) ∧ Below base w w' := by
  rcases hl with ⟨rfl, rfl, rfl⟩ | ⟨a, c, g, rfl, rfl, hbg, hat⟩
  · refine (backC_nil _ w).mono ?_
    rintro e w' ⟨rfl, rfl⟩
    exact ⟨rfl, Below.refl _ _⟩
  · refine (backC_some cl a c g base w hbg hat (fun hp => ?_) hlen).mono ?_
    · rcases ha.1 with ⟨_, rfl⟩ | ⟨b, off, cap, hv, hb, hi⟩
      · simp at hp
      · simp only [Value.slice.injEq, Option.some.injEq] at hv
        obtain ⟨rfl, _, _⟩ := hv
        refine ⟨b, off, rfl, by omega, fun i h j u hj => ?_⟩
        rw [hbl.cell (p := ⟨b, _, none⟩) hb]; exact hi i h j u hj
    · rintro e w' ⟨he, hm⟩
      exact ⟨he, hm.base hbg (lt_of_block hat)⟩
end Go.Proofs.YtamiichlbmllcaaGreatDoor
/-
  The contract of suretylaw.num.
-/
namespace Go.Proofs.YtamiichlbmllcaaGreatDoor
open Go.RowKit
set_option maxHeartbeats 1600000 in
theorem num_any (n : Int) (w : World) :
    Calls Tryz.prog 39 #[.int .i64 n] w fun e w' => e = .returned (.int .i64 n) ∧ w = w' := by
  go_enter Tryz.func39, Tryz.ntmps39
  go_wp2
  go_ret
  exact ⟨rfl, rfl⟩
end Go.Proofs.YtamiichlbmllcaaGreatDoor
/-
  The contract of suretylaw.checked: Check answers as the document asks, and what was lent is as it was.
-/
namespace Go.Proofs.YtamiichlbmllcaaGreatDoor
open Go.RowKit
/-- a step's cells, its state told -/
def opC (k on fu pv sv : Value) (s : St) (cv : Value) (r : Nat → Value) : Array Value :=
  #[k, on, fu, pv, sv, .int .i64 (s 0).lo, .int .i64 (s 0).hi, .int .i64 (s 1).lo, .int .i64 (s 1).hi, .int .i64 (s 2).lo, .int .i64 (s 2).hi, .int .i64 (s 3).lo, .int .i64 (s 3).hi, .int .i64 (s 4).lo, .int .i64 (s 4).hi, .int .i64 (s 5).lo, .int .i64 (s 5).hi, .int .i64 (s 6).lo, .int .i64 (s 6).hi, .int .i64 (s 7).lo, .int .i64 (s 7).hi, cv, r 0, r 1, r 2, r 3, r 4, r 5, r 6, r 7]
theorem ex_op (k on fu pv sv : Value) (s : St) (cv : Value) (r : Nat → Value) : (opC k on fu pv sv s cv r).extract 5 (5 + 16) = stC s := by kernel_rfl
theorem op_3 (k on fu pv sv : Value) (s : St) (cv : Value) (r : Nat → Value) : (opC k on fu pv sv s cv r)[3]? = some pv := rfl
theorem op_21 (k on fu pv sv : Value) (s : St) (cv : Value) (r : Nat → Value) : (opC k on fu pv sv s cv r)[21]? = some cv := rfl
theorem Kn.callB {M : List Nat} {w0 w w' : World} {L : RowL} {B : Nat} (h : Kn M w0 w L) (hb : Below B w w') (h0 : w0.heap.size ≤ B) (hL : ∀ x, x ∈ L → x.1 < B) : Kn M w0 w' L :=
  ⟨⟨hb.os.trans h.mod.os, hb.tape.trans h.mod.tape, hb.output.trans h.mod.output, Nat.le_trans h.mod.size hb.size, fun k hk hM => (hb.block k (by omega)).trans (h.mod.block k hk hM)⟩, fun x hx => ⟨by have := (h.has x hx).1; unfold At at this ⊢; rw [hb.block _ (hL x hx), this], (h.has x hx).2⟩, h.dis⟩
set_option maxHeartbeats 8000000 in
set_option maxRecDepth 100000 in
theorem checked_any (l : List I5) (e : St) (cl : List C2) (h64 : In64 l e cl) (k on fu sv : Value) (r : Nat → Value) (pv cv : Value) (w : World) (hs : Shapes w) (hp : Arg w pv l) (hlen : l.length * 40 ≤ 140737488351232) (hc : ArgC w cv cl) (hcl : cl.length * 136 ≤ 140737488351232) :
    Calls Tryz.prog 54 #[.agg (opC k on fu pv sv e cv r)] w fun x w' => x = .returned (.bool true) ∧ Below w.heap.size w w' := by
  have hk := Kn.nil [] w
  have hcl2 : cl.length < 4000000000000 := by omega
  have HS := hide hs
  have HP := hide hp
  have HC := hide hc
  have H64 := hide h64
  clear hs hp hc h64
  go_enter Tryz.func54, Tryz.ntmps54
  go_wp2_with (first | (refine wLoad1 hk ?_ (hv := op_3 _ _ _ _ _ _ _ _); simp only [Act.put, pw]) | (refine wLoad1 hk ?_ (hv := op_21 _ _ _ _ _ _ _ _); simp only [Act.put, pw]) | (refine wLoadR hk ?_ (hc := ex_op _ _ _ _ _ _ _ _); simp only [Act.put, pw]) | ((with_reducible show wpList _ _ _ _ _ _); (first | (refine wS hk ?_; simp only [Act.put, pw]) | (refine wN hk ?_; clear hk; intro w1 hk; simp only [Act.put, pw]) | (refine wT hk ?_; clear hk; intro w1 hk; simp only [Act.put]))))
  go_at_call 34
  have hb1 := hk.mod.below
  have hn1 : w.heap.size < w1.heap.size := lt_of_block (hk.at List.mem_cons_self)
  have HP1 := hide (HP.out.below hb1 (Nat.le_refl _))
  have HC1 := hide (HC.out.below hb1 (Nat.le_refl _))
  refine (lent_any l pv w1 HP1.out hlen).mono ?_
  rintro x w2 ⟨hv, rfl, hL2, hb2⟩
  replace hk := hk.call hb2
  go_wp2_with (first | (refine wLoad1 hk ?_ (hv := op_3 _ _ _ _ _ _ _ _); simp only [Act.put, pw]) | (refine wLoad1 hk ?_ (hv := op_21 _ _ _ _ _ _ _ _); simp only [Act.put, pw]) | (refine wLoadR hk ?_ (hc := ex_op _ _ _ _ _ _ _ _); simp only [Act.put, pw]) | ((with_reducible show wpList _ _ _ _ _ _); (first | (refine wS hk ?_; simp only [Act.put, pw]) | (refine wN hk ?_; clear hk; intro w1 hk; simp only [Act.put, pw]) | (refine wT hk ?_; clear hk; intro w1 hk; simp only [Act.put]))))
  go_at_call 87
  refine (lentC_any cl cv w2 (HC1.out.below hb2 (Nat.le_refl _)) hcl).mono ?_
  rintro x w3 ⟨hcv, rfl, hC3, hb3⟩
  have hb13 : Below w1.heap.size w1 w3 := hb2.trans (hb3.mono hb2.size)
  have hs3 : Shapes w3 := HS.out.below (hb1.trans (hb13.mono hb1.size)) HS.out.1
  have hL3 := hL2.below hb3
  have HLT : Hid (∀ k, hv.ownBlock = some k → k < w2.heap.size) := hide hL2.lt
  replace hk := hk.call hb3
  go_wp2_with (first | (refine wLoad1 hk ?_ (hv := op_3 _ _ _ _ _ _ _ _); simp only [Act.put, pw]) | (refine wLoad1 hk ?_ (hv := op_21 _ _ _ _ _ _ _ _); simp only [Act.put, pw]) | (refine wLoadR hk ?_ (hc := ex_op _ _ _ _ _ _ _ _); simp only [Act.put, pw]) | ((with_reducible show wpList _ _ _ _ _ _); (first | (refine wS hk ?_; simp only [Act.put, pw]) | (refine wN hk ?_; clear hk; intro w1 hk; simp only [Act.put, pw]) | (refine wT hk ?_; clear hk; intro w1 hk; simp only [Act.put]))))
  go_at_call 22
  refine (SCheck_any l e cl H64.out hcl2 hv hcv w3 hs3 hL3.slc hC3.slc).mono ?_
  rintro x w4 ⟨rfl, hb4⟩
  obtain ⟨PE, PN, hPS⟩ : ∃ PE PN, scheckR l e cl = (PE, PN) := ⟨_, _, rfl⟩
  have HPS := hide hPS
  rw [hPS]
  clear hPS
  have hb14 : Below w1.heap.size w1 w4 := hb13.trans (hb4.mono hb13.size)
  have HL4 := hide (hL3.below hb4)
  have HC4 := hide (hC3.below hb4)
  have H12 := hide hb2.size
  have H24 := hide (Nat.le_trans hb3.size hb4.size)
  replace hk := hk.call hb4
  clear hL2 hL3 hC3 hs3 hb13
  go_wp2_with (first | (refine wLoad1 hk ?_ (hv := op_3 _ _ _ _ _ _ _ _); simp only [Act.put, pw]) | (refine wLoad1 hk ?_ (hv := op_21 _ _ _ _ _ _ _ _); simp only [Act.put, pw]) | (refine wLoadR hk ?_ (hc := ex_op _ _ _ _ _ _ _ _); simp only [Act.put, pw]) | ((with_reducible show wpList _ _ _ _ _ _); (first | (refine wS hk ?_; simp only [Act.put, pw]) | (refine wN hk ?_; clear hk; intro w1 hk; simp only [Act.put, pw]) | (refine wT hk ?_; clear hk; intro w1 hk; simp only [Act.put]))))
  go_at_call 35
  refine (lawBack2 l pv hv w1.heap.size w1 w4 HL4.out HP1.out (Nat.le_refl _) hb14 hlen).mono ?_
  rintro x w5 ⟨rfl, hb5, hk5⟩
  have hb15 : Below w1.heap.size w1 w5 := hb14.trans hb5
  have HC5 : Hid (LentC w5 w2.heap.size cv hcv cl) := hide (by
    rcases HC4.out with h | ⟨a, c, g, h1, h2, h3, h4⟩
    · exact Or.inl h
    · refine Or.inr ⟨a, c, g, h1, h2, h3, ?_⟩
      unfold At at h4 ⊢
      rw [hk5 g (lt_of_block h4) (fun hh => by have := HLT.out g hh.symm; omega), h4])
  replace hk := hk.callB hb5 (by omega) (fun x hx => by simp at hx; subst hx; exact hn1)
  clear hk5
  go_wp2_with (first | (refine wLoad1 hk ?_ (hv := op_3 _ _ _ _ _ _ _ _); simp only [Act.put, pw]) | (refine wLoad1 hk ?_ (hv := op_21 _ _ _ _ _ _ _ _); simp only [Act.put, pw]) | (refine wLoadR hk ?_ (hc := ex_op _ _ _ _ _ _ _ _); simp only [Act.put, pw]) | ((with_reducible show wpList _ _ _ _ _ _); (first | (refine wS hk ?_; simp only [Act.put, pw]) | (refine wN hk ?_; clear hk; intro w1 hk; simp only [Act.put, pw]) | (refine wT hk ?_; clear hk; intro w1 hk; simp only [Act.put]))))
  go_at_call 88
  refine (backC_any cl cv hcv w2.heap.size w1 w5 HC5.out HC1.out H12.out hb15 hcl).mono ?_
  rintro x w6 ⟨rfl, hb6⟩
  have hb16 : Below w1.heap.size w1 w6 := hb15.trans (hb6.mono H12.out)
  replace hk := hk.callB hb6 (by have := H12.out; omega) (fun x hx => by simp at hx; subst hx; have := H12.out; omega)
  go_wp2_with (first | (refine wLoad1 hk ?_ (hv := op_3 _ _ _ _ _ _ _ _); simp only [Act.put, pw]) | (refine wLoad1 hk ?_ (hv := op_21 _ _ _ _ _ _ _ _); simp only [Act.put, pw]) | (refine wLoadR hk ?_ (hc := ex_op _ _ _ _ _ _ _ _); simp only [Act.put, pw]) | ((with_reducible show wpList _ _ _ _ _ _); (first | (refine wS hk ?_; simp only [Act.put, pw]) | (refine wN hk ?_; clear hk; intro w1 hk; simp only [Act.put, pw]) | (refine wT hk ?_; clear hk; intro w1 hk; simp only [Act.put]))))
  go_at_call 60
  refine (rf_Check l e cl H64.out hcl2 pv cv w6 (HP1.out.below hb16 (Nat.le_refl _)).1 (HC1.out.below hb16 (Nat.le_refl _)).1).mono ?_
  rintro x w7 ⟨rfl, hb7⟩
  rw [HPS.out]
  replace hk := hk.call hb7
  clear hb1 hb2 hb3 hb4 hb5 hb6 hb7 hb14 hb15 hb16
  go_wp2_with (first | (go_at_call 39; refine (num_any _ _).mono ?_; rintro x w8 ⟨rfl, rfl⟩) | ((with_reducible show wpList _ _ _ _ _ _); (first | (refine wS hk ?_; simp only [Act.put, pw]) | (refine wN hk ?_; clear hk; intro w1 hk; simp only [Act.put, pw]) | (refine wT hk ?_; clear hk; intro w1 hk; simp only [Act.put]))))
  go_ret
  exact ⟨rfl, hk.mod.below⟩
end Go.Proofs.YtamiichlbmllcaaGreatDoor
/-
  The contract of suretylaw.checks: a Halt is taken, and a Set alone is not.
-/
namespace Go.Proofs.YtamiichlbmllcaaGreatDoor
open Go.RowKit
theorem slc_one {w : World} {g : Nat} {o a b c k : Int} (h : At w g #[.int .i64 o, .int .i64 a, .int .i64 b, .int .i64 c, .int .i64 k] 62) : Slc w (.slice (some ⟨g, 0, none⟩) 1 1) [⟨o, a, b, c, k⟩] := by
  refine Or.inr ⟨g, 0, 1, rfl, lt_of_block h, fun i hi => ?_⟩
  match i, hi with
  | 0, _ => refine ⟨?_, ?_, ?_, ?_, ?_⟩ <;> rw [cell_of_row _ _ _ _ _ _ h] <;> rfl
  | j + 1, hj => simp at hj
theorem scheck_halt : scheckR [⟨0, 0, 0, 0, 0⟩] zeroS [] = (0, 0) := by kernel_rfl
theorem scheck_set : scheckR [⟨1, 1, 0, 0, 0⟩] zeroS [] = (8, 1) := by kernel_rfl
theorem in64_one {o a b c k : Int} (hk : I64 k) : In64 [⟨o, a, b, c, k⟩] zeroS [] := ⟨fun i hi => by match i, hi with | 0, _ => exact hk | j + 1, hj => simp at hj, fun j _ => by unfold zeroS R2.in64 I64; simp, fun i hi => by simp at hi⟩
set_option maxHeartbeats 8000000 in
set_option maxRecDepth 100000 in
theorem lawChecks_any (w : World) (hs : Shapes w) : Calls Tryz.prog 15 #[] w fun x w' => x = .returned (.bool true) ∧ Below w.heap.size w w' := by
  have hk := Kn.nil [] w
  have HS := hide hs
  clear hs
  go_enter Tryz.func15, Tryz.ntmps15
  go_wp2_with (first | (refine wKnAlloc hk ?_; clear hk; intro w1 hk) | (go_at_call 22; first | (refine (SCheck_any [⟨0, 0, 0, 0, 0⟩] zeroS [] (in64_one (by unfold I64; omega)) (by decide) _ _ _ (HS.out.below hk.mod.below HS.out.1) (slc_one (hk.at List.mem_cons_self)) (Or.inl ⟨⟨_, _, rfl⟩, rfl⟩)).mono ?_; rintro e w1 ⟨rfl, hb⟩; replace hk := hk.call hb; clear hb; rw [scheck_halt]) | (refine (SCheck_any [⟨1, 1, 0, 0, 0⟩] zeroS [] (in64_one (by unfold I64; omega)) (by decide) _ _ _ (HS.out.below hk.mod.below HS.out.1) (slc_one (hk.at List.mem_cons_self)) (Or.inl ⟨⟨_, _, rfl⟩, rfl⟩)).mono ?_; rintro e w1 ⟨rfl, hb⟩; replace hk := hk.call hb; clear hb; rw [scheck_set])) | ((with_reducible show wpList _ _ _ _ _ _); (first | (refine wS hk ?_; simp only [Act.put, pw]) | (refine wN hk ?_; clear hk; intro w1 hk; simp only [Act.put, pw]) | (refine wT hk ?_; clear hk; intro w1 hk; simp only [Act.put]))))
  go_ret
  exact ⟨rfl, hk.mod.below⟩
end Go.Proofs.YtamiichlbmllcaaGreatDoor
