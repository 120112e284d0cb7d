import Derived.Test.YtamiichlbmllcaaGreatDoorQDraw
import Derived.Test.YtamiichlbmllcaaGreatDoorQPrI
import Derived.DeepKeys
import Derived.Deep.CutRange
/-
  The contract of (*suretylaw.drawer).looks: all lists that came out read as their owner left them.
-/
namespace Go.Proofs.YtamiichlbmllcaaGreatDoor
open Go.RowKit
theorem mark_q (n : Nat) (w : World) (h : n < 1000000000000000) :
    Calls Tryz.prog 57 #[.int .i64 n] w fun e w' => e = .returned (.int .i64 (mrkI n)) ∧ w' = w :=
  (mark_any n w h).mono fun _ _ ⟨h1, h2⟩ => ⟨h1, h2.symm⟩
theorem DList.below {w w' : World} {B st et size : Nat} {X : Nat → List Value} {v : Value} {xs : List Value} (h : DList w B st et size X v xs) (hb : Below w.heap.size w w') : DList w' B st et size X v xs := by
  obtain ⟨h1, h2, h3⟩ := h
  refine ⟨own_block h1 (fun k hk _ => hb.block k (World.ownsRow.lt h1 k hk).2), h2, fun k hk => ?_⟩
  obtain ⟨m, hm, ho⟩ := h3 k hk
  exact ⟨m, hm, own_block ho (fun b hb' _ => hb.block b (World.ownsRow.lt ho b hb').2)⟩
theorem rep_get (Y : List Value) (size m i f : Nat) (hY : Y.length = size) (hi : i < m) (hf : f < Y.length) : ((List.replicate m Y).flatten)[i * size + f]? = Y[f]? := by
  induction m generalizing i with
  | zero => omega
  | succ m ih =>
    rw [List.replicate_succ, List.flatten_cons]
    match i with
    | 0 => rw [Nat.zero_mul, Nat.zero_add, List.getElem?_append_left hf]
    | i + 1 =>
      rw [List.getElem?_append_right (by rw [hY, Nat.add_mul]; omega), show (i + 1) * size + f - Y.length = i * size + f by rw [hY, Nat.add_mul]; omega]
      exact ih i (by omega)
/-- what is read of a list of lists -/
theorem DList.len {w : World} {B st et size : Nat} {X : Nat → List Value} {v : Value} {xs : List Value} (h : DList w B st et size X v xs) : ∃ a c, v = .slice a xs.length c := own_len h.1
theorem DList.at {w : World} {B st et size : Nat} {X : Nat → List Value} {v : Value} {xs : List Value} (h : DList w B st et size X v xs) (k : Nat) (hk : k < xs.length) :
    ∃ g c a m c2, v = .slice (some ⟨g, 0, none⟩) xs.length c ∧ w.cell? ⟨g, k, none⟩ = some (.slice a m c2) ∧ m ≤ 1000 ∧ ∀ i, i < m → ∃ g2, a = some ⟨g2, 0, none⟩ ∧ ∀ f u, (X k)[f]? = some u → (X k).length = size → w.cell? ⟨g2, i * size + f, none⟩ = some u := by
  obtain ⟨h1, h2, h3⟩ := h
  obtain ⟨m, hm, ho⟩ := h3 k hk
  obtain ⟨a, c2, he⟩ := own_len ho
  have h1' := h1
  rcases h1.2 with ⟨_, hz⟩ | ⟨g, cap, cur, rfl, _⟩
  · omega
  · refine ⟨g, cap, a, m, c2, rfl, ?_, hm, fun i hi => ?_⟩
    · have := World.ownsRow.cells h1' rfl k (xs[k]) (List.getElem?_eq_getElem hk)
      rw [addr_add, Nat.zero_add] at this
      rw [this, he]
    · have ho' := ho
      rcases ho.2 with ⟨_, hz⟩ | ⟨g2, cap2, cur2, he2, _⟩
      · omega
      · rw [he] at he2
        simp only [Value.slice.injEq] at he2
        refine ⟨g2, he2.1, fun f u hf hX => ?_⟩
        have hfl := (List.getElem?_eq_some_iff.1 hf).1
        have hown : (xs[k]).ownBlock = some g2 := by rw [he, he2.1]; rfl
        have hflat : ((List.replicate m (X k)).flatten)[i * size + f]? = some u := by rw [rep_get (X k) size m i f hX hi hfl]; exact hf
        have := World.ownsRow.cells ho' hown (i * size + f) u hflat
        rw [addr_add, Nat.zero_add] at this
        exact this
set_option maxHeartbeats 16000000 in
set_option maxRecDepth 100000 in
theorem looks_ins (wb B : Nat) (lv vd : Value) (xs : List Value) (w : World) (hw : w.heap[wb]? = some (.cells #[lv, vd, .slice none 0 0, .slice none 0 0] 39 (0, 0)))
    (hd : DList w B 26 62 5 markC vd xs) (hx : xs.length < 5000000000000) :
    Calls Tryz.prog 32 #[.pointer (some ⟨wb, 1, none⟩)] w fun e w' => e = .returned (.bool true) ∧ Below w.heap.size w w' := by
  have hwl := lt_of_block hw
  obtain ⟨ad, cd, hed⟩ := hd.len
  have q1 : w.cell? ⟨wb, 1, none⟩ = some (.slice ad xs.length cd) := by rw [cell_of_row _ _ _ _ _ _ hw, ← hed]; rfl
  have q2 : w.cell? ⟨wb, 2, none⟩ = some (.slice none 0 0) := by rw [cell_of_row _ _ _ _ _ _ hw]; rfl
  have q3 : w.cell? ⟨wb, 3, none⟩ = some (.slice none 0 0) := by rw [cell_of_row _ _ _ _ _ _ hw]; rfl
  have HW : Hid (∀ wx, Below w.heap.size w wx → wx.cell? ⟨wb, 1, none⟩ = some (.slice ad xs.length cd) ∧ wx.cell? ⟨wb, 2, none⟩ = some (.slice none 0 0) ∧ wx.cell? ⟨wb, 3, none⟩ = some (.slice none 0 0)) := hide (fun wx hb => ⟨by rw [hb.cell (p := ⟨wb, 1, none⟩) hwl]; exact q1, by rw [hb.cell (p := ⟨wb, 2, none⟩) hwl]; exact q2, by rw [hb.cell (p := ⟨wb, 3, none⟩) hwl]; exact q3⟩)
  have HED := hide hed
  clear hed q1 q2 q3
  go_enter Tryz.func32, Tryz.ntmps32
  go_wp2_with fail
  go_loopw [3] (fun j wr => ∃ n : Nat, n ≤ xs.length ∧ j = .int .i64 n ∧ Below w.heap.size w wr) (fun j _ => xs.length - (intOf j).toNat)
  case atStart => exact ⟨0, by omega, rfl, Below.refl _ _⟩
  case round =>
    obtain ⟨n0, hn0, rfl, hbl0⟩ := hrel
    obtain ⟨q1, q2, q3⟩ := HW.out wr hbl0
    by_cases hlt0 : n0 < xs.length
    · obtain ⟨g, c, a, m, c2, he, hcell, hm, hel⟩ := hd.at n0 hlt0
      obtain ⟨ea, _, ec⟩ : ad = some ⟨g, 0, none⟩ ∧ True ∧ cd = c := by rw [HED.out] at he; simpa using he
      subst ea
      subst ec
      have hgl := World.block_lt_of_cell? w _ hcell
      have HEL := hide hel
      have HCE := hide hcell
      clear hel hcell he
      go_wp2_with fail
      clear q1 q2 q3
      go_loopw [4] (fun j wr => ∃ p : Nat, p ≤ m ∧ j = .int .i64 p ∧ Below w.heap.size w wr) (fun j _ => m - (intOf j).toNat)
      case atStart => exact ⟨0, by omega, rfl, hbl0⟩
      case round =>
        obtain ⟨p, hp, rfl, hbp⟩ := hrel
        obtain ⟨q1, q2, q3⟩ := HW.out wr hbp
        have hce : wr.cell? ⟨g, n0, none⟩ = some (.slice a m c2) := by rw [hbp.cell (p := ⟨g, n0, none⟩) hgl]; exact HCE.out
        by_cases hlt2 : p < m
        · obtain ⟨g2, rfl, hcells⟩ := HEL.out p hlt2
          have hcx : ∀ f u, (markC n0)[f]? = some u → wr.cell? ⟨g2, p * 5 + f, none⟩ = some u := fun f u hf => by
            have h2 := hcells f u hf rfl
            rw [hbp.cell (p := ⟨g2, _, none⟩) (World.block_lt_of_cell? w _ h2)]; exact h2
          have z0 : wr.cell? ⟨g2, p * 5, none⟩ = some (.int .i64 (mrkI n0)) := hcx 0 _ rfl
          have z1 : wr.cell? ⟨g2, p * 5 + 1, none⟩ = some (.int .i64 0) := hcx 1 _ rfl
          have z2 : wr.cell? ⟨g2, p * 5 + 2, none⟩ = some (.int .i64 0) := hcx 2 _ rfl
          have z3 : wr.cell? ⟨g2, p * 5 + 3, none⟩ = some (.int .i64 0) := hcx 3 _ rfl
          have z4 : wr.cell? ⟨g2, p * 5 + 4, none⟩ = some (.int .i64 0) := hcx 4 _ rfl
          clear hcx hcells
          go_wp2_with fail
          go_quiet ((go_at_call 57; exact Calls.quiet_of_same (mark_q _ _ (by omega))))
          go_wp2
          exact ⟨⟨p + 1, by omega, by go_num, below_drewN hbp _⟩, by simp [intOf]; omega⟩
        · go_wp2
          exact ⟨⟨n0 + 1, by omega, by go_num, hbp⟩, by simp [intOf]; omega⟩
    · go_wp2_with fail
      refine wp_loop_rounds 1 ?_
      rw [rounds_succ]
      go_wp2_with fail
      refine wp_loop_rounds 1 ?_
      rw [rounds_succ]
      go_wp2
      go_ret
      exact ⟨rfl, hbl0⟩
end Go.Proofs.YtamiichlbmllcaaGreatDoor
/-
  The contract of suretylaw.backClaims.
-/
namespace Go.Proofs.YtamiichlbmllcaaGreatDoor
open Go.RowKit
set_option maxHeartbeats 8000000 in
set_option maxRecDepth 100000 in
theorem eqIn_st (s : St) (w : World) : (Op.equalIn 9999 30 (.agg (stC s)) (.agg (stC s))).run Tryz.prog w = .ok true w := by
  obtain ⟨i, hi, hz⟩ : ∃ i, Tryz.prog.info? 28 = some i ∧ i.size = 2 := by
    obtain ⟨i, hi, h2⟩ := Option.map_eq_some_iff.1 (show (Tryz.prog.info? 28).map (·.size) = some 2 by kernel_rfl)
    exact ⟨i, hi, h2⟩
  rw [run_equalIn_array w 9998 (stC s) (stC s) Tryz.underlying30 hi, show Tryz.prog.cellsOf 28 = 2 by kernel_rfl, show List.range 8 = [0, 1, 2, 3, 4, 5, 6, 7] from rfl]
  unfold stC
  simp [Op.eqItems, go_sem]
set_option maxHeartbeats 8000000 in
set_option maxRecDepth 100000 in
theorem eq_cl (ρ : Operand → Value) (d : Option Tmp) (x y : Operand) (tt : TypeId) (pos : String) (aft : Array Edge) (g : Option (Nat × Bool)) (p : Int) (s : St) (w : World) (hx : ρ x = .agg (clC p s)) (hy : ρ y = .agg (clC p s)) :
    (execOp ρ ⟨d, .binOp .eql 78 x y 78, tt, pos, aft, g⟩).run Tryz.prog w = .ok (.value (.bool true)) w := by
  unfold execOp
  simp only [hx, hy]
  have := fun w => eqIn_st s w
  unfold stC at this
  unfold clC
  simp [go_sem, this]
section
variable {l : List Oper} {Q : Exit → Act → World → Prop} {F : Nat → Bool} {S : World → Prop} {i : Nat} {r : OT} {a : Act} {w : World} {d : Option Tmp} {x y : Operand} {t tt : TypeId} {pos : String} {aft : Array Edge} {g : Option (Nat × Bool)}
set_option maxRecDepth 100000 in
theorem sEqC {p : Int} {s : St} (hk : S w) (h : wpT Tryz.prog l Q F S r (a.put d (.bool true)) w) (ho : nthO i l = some ⟨d, .binOp .eql 78 x y 78, tt, pos, aft, g⟩ := by rfl) (hw : Region.wanted ⟨d, .binOp .eql 78 x y 78, tt, pos, aft, g⟩ (yielded l.toArray a.tmps) = true := by rfl) (hx : a.eval x = .agg (clC p s) := by rfl) (hy : a.eval y = .agg (clC p s) := by rfl) : wpT Tryz.prog l Q F S (.op i r) a w :=
  tRun ho rfl hw hk (fun wx => eq_cl _ _ _ _ _ _ _ _ p s wx hx hy) h
theorem add_run (ρ : Operand → Value) (d : Option Tmp) (x y : Operand) (tt t' : TypeId) (pos : String) (aft : Array Edge) (g : Option (Nat × Bool)) (p q : Int) (w : World) (hx : ρ x = .int .i64 p) (hy : ρ y = .int .i64 q) : (execOp ρ ⟨d, .binOp .add 3 x y t', tt, pos, aft, g⟩).run Tryz.prog w = .ok (.value (.int .i64 (wrap64 (p + q)))) w := by
  unfold execOp; simp only [hx, hy]; simp [go_sem]; exact IntWalk.i64_left _
set_option maxRecDepth 100000 in
theorem sAdd {p q m : Int} (hk : S w) (h : wpT Tryz.prog l Q F S r (a.put d (.int .i64 m)) w) (ho : nthO i l = some ⟨d, .binOp .add 3 x y t, tt, pos, aft, g⟩ := by rfl) (hw : Region.wanted ⟨d, .binOp .add 3 x y t, tt, pos, aft, g⟩ (yielded l.toArray a.tmps) = true := by rfl) (hx : a.eval x = .int .i64 p := by rfl) (hy : a.eval y = .int .i64 q := by rfl) (hm : wrap64 (p + q) = m := by assumption) : wpT Tryz.prog l Q F S (.op i r) a w :=
  tRun ho rfl hw hk (fun wx => (add_run _ _ _ _ _ _ _ _ _ p q wx hx hy).trans (by rw [hm])) h
end
theorem ex_clsX {n : Nat} {f : Nat → C2} {i : Nat} {p : Int} {s : St} (h : i < n) (hf : f i = ⟨p, s⟩) : (clsA n f).extract (i * 17) (i * 17 + 17) = clC p s := by rw [ex_cls n f i h, hf]
/-- while it is written over -/
def backU (cl : List C2) (k : Nat) : Nat → C2 := fun i => if i < k then ⟨-1, zeroS⟩ else lentU cl (cl.length + 3) i
theorem backU_step (cl : List C2) (N k : Nat) : clsA N (updC (backU cl k) k ⟨-1, zeroS⟩) = clsA N (backU cl (k + 1)) := cls_congr fun i _ => by
  unfold updC backU
  by_cases h1 : i = k
  · subst h1; rw [if_pos rfl, if_pos (by omega)]
  · rw [if_neg h1]
    by_cases h3 : i < k
    · rw [if_pos h3, if_pos (by omega)]
    · rw [if_neg h3, if_neg (by omega)]
theorem Kn.one {w : World} {g : Nat} {A : Array Value} {t : TypeId} (h : At w g A t) : Kn [g] w w [(g, A, t)] := ⟨Mod.refl _ _, fun x hx => (by simp at hx; subst hx; exact ⟨h, Or.inr (by simp)⟩), List.pairwise_singleton _ _⟩
theorem Mod.base {w w' : World} {g base : Nat} (h : Mod [g] w w') (hb : base ≤ g) (hg : g < w.heap.size) : Below base w w' := ⟨h.os, h.tape, h.output, h.size, fun k hk => h.block k (by omega) (by simp; omega)⟩
set_option maxHeartbeats 8000000 in
set_option maxRecDepth 100000 in
theorem backC_some (cl : List C2) (a : Addr) (c g base : Nat) (w : World) (hbg : base ≤ g) (hat : At w g (clsA (cl.length + 3) (lentU cl (cl.length + 3))) 78) (hp : 0 < cl.length → ∃ b off, a = ⟨b, off, none⟩ ∧ b < base ∧ ∀ i, i < cl.length → w.rangeAt b (off + i * 17) (clC (clAt cl i).pl (clAt cl i).st).toList) (hlen : cl.length * 136 ≤ 140737488351232) :
    Calls Tryz.prog 88 #[.slice (some ⟨g, 0, none⟩) cl.length (cl.length + 3), .slice (some a) cl.length c] w fun e w' => e = .returned (.bool true) ∧ Mod [g] w w' := by
  have hq := fun wx => Lib.run_eql_slice_nil (P := Tryz.prog) wx 41 78 (some a) cl.length c 0 0 Tryz.underlying41
  simp only [Option.isNone_some] at hq
  have hgs := lt_of_block hat
  have hk := Kn.one hat
  have HP := hide hp
  clear hp hat
  go_enter Tryz.func88, Tryz.ntmps88
  go_wp2_with (first | ((with_reducible show wpList _ _ _ _ _ _); (first | (refine wS hk ?_; simp only [Act.put, pw]) | (refine wN hk ?_; clear hk; intro w1 hk; simp only [Act.put, pw]) | (refine wT hk ?_; clear hk; intro w1 hk; simp only [Act.put]))))
  go_loopw [6, 7] (fun ok j wr => ∃ n : Nat, n ≤ cl.length + 3 ∧ ok = .bool true ∧ j = .int .i64 n ∧ Kn [g] w wr [(g, clsA (cl.length + 3) (backU cl n), 78)]) (fun _ j _ => cl.length + 3 - (intOf j).toNat)
  case atStart => exact ⟨0, by omega, rfl, rfl, hk⟩
  case round =>
    clear hk
    obtain ⟨n, hn, rfl, rfl, hk⟩ := hrel
    by_cases hlt : n < cl.length + 3
    · have R := hide (backU_step cl (cl.length + 3) n)
      by_cases hin : n < cl.length
      · obtain ⟨b, off, rfl, hb, hi⟩ := HP.out (by omega)
        have hci := hi n hin
        have hbs : b < w.heap.size := by omega
        have hbn : b ∉ [g] := by simp; omega
        obtain ⟨st, hst⟩ : ∃ st, st = (clAt cl n).st := ⟨_, rfl⟩
        obtain ⟨p, hp⟩ : ∃ p, p = (clAt cl n).pl := ⟨_, rfl⟩
        rw [← hst, ← hp] at hci
        have HB : Hid (backU cl n n = ⟨p, st⟩) := hide (by unfold backU lentU; rw [if_neg (by omega), if_pos hin, hst, hp])
        clear hi hst hp
        go_wp2_with (first | ((with_reducible show wpList _ _ _ _ _ _); (first | (refine wS hk ?_; simp only [Act.put, pw]) | (refine wN hk ?_; clear hk; intro w1 hk; simp only [Act.put, pw]) | (refine wT hk ?_; clear hk; intro w1 hk; simp only [Act.put]))))
        (refine wp_regK hk (.op 0 (.op 1 (.op 2 (.op 3 (.op 4 (.op 5 (.op 6 (.op 7 (.op 8 (.op 9 (.op 10 (.op 11 (.op 12 .nil))))))))))))) (fun i => decide (i < 12)) mixT (by decide) (by kernel_rfl) (by kernel_rfl) ?_; clear hk; intro w1 hk)
        iterate 5 (first | (refine sMove hk ?_; simp only [Act.put, pw]) | (refine sIndexS0 hk ?_; simp only [Act.put, pw]))
        refine sLoadR hk ?_ (hc := ex_clsX hlt HB.out); simp only [Act.put, pw]
        (repeat (refine sV hk ?_; simp only [Act.put, pw]))
        refine sEqC hk ?_; simp only [Act.put, pw]
        (repeat (refine sV hk ?_; simp only [Act.put, pw]))
        refine tNil ?_
        go_wp2_with (first | (refine wBuild hk ?_ (hb := build_cla _ _); simp only [Act.put, pw]) | (refine wStoreR hk ?_ (hj := by simp only [clsA_size]; omega) (hA := put_cls _ _ _ _ _); clear hk; intro w1 hk; simp only [Act.put]) | ((with_reducible show wpList _ _ _ _ _ _); (first | (refine wS hk ?_; simp only [Act.put, pw]) | (refine wN hk ?_; clear hk; intro w1 hk; simp only [Act.put, pw]) | (refine wT hk ?_; clear hk; intro w1 hk; simp only [Act.put]))))
        go_roundw
        case rel => exact ⟨n + 1, by omega, rfl, by go_num, by rw [← R.out]; exact hk⟩
        case measure => simp [intOf]; omega
      · have HB : Hid (backU cl n n = ⟨77 + (n : Int), zeroS⟩) := hide (by unfold backU lentU; rw [if_neg (by omega), if_neg hin, if_pos hlt])
        have hadd : wrap64 (77 + (n : Int)) = 77 + (n : Int) := by unfold wrap64; omega
        go_upto_region 10 with (first | ((with_reducible show wpList _ _ _ _ _ _); (first | (refine wS hk ?_; simp only [Act.put, pw]) | (refine wN hk ?_; clear hk; intro w1 hk; simp only [Act.put, pw]) | (refine wT hk ?_; clear hk; intro w1 hk; simp only [Act.put]))))
        (refine wp_regLK hk (.op 0 (.op 1 (.op 2 (.op 3 (.op 4 (.op 5 (.op 6 (.op 7 (.op 8 (.op 9 (.op 10 (.op 11 .nil)))))))))))) (by rfl) ?_)
        iterate 5 (first | (refine sMove hk ?_; simp only [Act.put, pw]) | (refine sIndexS0 hk ?_; simp only [Act.put, pw]))
        refine sLoadR hk ?_ (hc := ex_clsX hlt HB.out); simp only [Act.put, pw]
        refine sMove hk ?_; simp only [Act.put, pw]
        refine sAdd hk ?_; simp only [Act.put, pw]
        refine sBuild hk ?_ (hb := fun wx => build_cla _ wx); simp only [Act.put, pw]
        refine sEqC hk ?_; simp only [Act.put, pw]
        (repeat (refine sV hk ?_; simp only [Act.put, pw]))
        refine tNil ?_
        go_wp2_with (first | (refine wBuild hk ?_ (hb := build_cla _ _); simp only [Act.put, pw]) | (refine wStoreR hk ?_ (hj := by simp only [clsA_size]; omega) (hA := put_cls _ _ _ _ _); clear hk; intro w1 hk; simp only [Act.put]) | ((with_reducible show wpList _ _ _ _ _ _); (first | (refine wS hk ?_; simp only [Act.put, pw]) | (refine wN hk ?_; clear hk; intro w1 hk; simp only [Act.put, pw]) | (refine wT hk ?_; clear hk; intro w1 hk; simp only [Act.put]))))
        go_roundw
        case rel => exact ⟨n + 1, by omega, rfl, by go_num, by rw [← R.out]; exact hk⟩
        case measure => simp [intOf]; omega
    · go_wp2_with (first | ((with_reducible show wpList _ _ _ _ _ _); (first | (refine wS hk ?_; simp only [Act.put, pw]) | (refine wN hk ?_; clear hk; intro w1 hk; simp only [Act.put, pw]) | (refine wT hk ?_; clear hk; intro w1 hk; simp only [Act.put]))))
      go_ret
      exact ⟨rfl, hk.mod⟩
set_option maxHeartbeats 1600000 in
theorem lentC_nil (w : World) :
    Calls Tryz.prog 87 #[.slice none 0 0] w fun e w' => e = .returned (.slice none 0 0) ∧ w' = w := by
  have hq := fun wx => Lib.run_eql_slice_nil (P := Tryz.prog) wx 41 78 none 0 0 0 0 Tryz.underlying41
  simp only [Option.isNone_none] at hq
  go_enter Tryz.func87, Tryz.ntmps87
  go_wp2
  go_ret
  exact ⟨rfl, rfl⟩
set_option maxHeartbeats 1600000 in
theorem backC_nil (hv : Value) (w : World) :
    Calls Tryz.prog 88 #[hv, .slice none 0 0] w fun e w' => e = .returned (.bool true) ∧ w' = w := by
  have hq := fun wx => Lib.run_eql_slice_nil (P := Tryz.prog) wx 41 78 none 0 0 0 0 Tryz.underlying41
  simp only [Option.isNone_none] at hq
  go_enter Tryz.func88, Tryz.ntmps88
  go_wp2
  go_ret
  exact ⟨rfl, rfl⟩
theorem lentC_any (cl : List C2) (v : Value) (w : World) (h : ArgC w v cl) (hlen : cl.length * 136 ≤ 140737488351232) :
    Calls Tryz.prog 87 #[v] w fun e w' => ∃ hv, e = .returned hv ∧ LentC w' w.heap.size v hv cl ∧ Below w.heap.size w w' := by
  rcases h.cells with ⟨rfl, rfl⟩ | ⟨a, c, rfl, hc⟩
  · refine (lentC_nil w).mono ?_
    rintro e w' ⟨rfl, rfl⟩
    exact ⟨_, rfl, Or.inl ⟨rfl, rfl, rfl⟩, Below.refl _ _⟩
  · exact lentC_some cl a c w hc hlen
/-- what was lent is as it was; it is written over, and nothing else -/
theorem backC_any (cl : List C2) (v hv : Value) (base : Nat) (w0 w : World) (hl : LentC w base v hv cl) (ha : ArgC w0 v cl) (h0 : w0.heap.size ≤ base) (hbl : Below w0.heap.size w0 w) (hlen : cl.length * 136 ≤ 140737488351232) :
    Calls Tryz.prog 88 #[hv, v] w fun e w' => e = .returned (.bool true) ∧ Below base w w' := by
  rcases hl with ⟨rfl, rfl, rfl⟩ | ⟨a, c, g, rfl, rfl, hbg, hat⟩
  · refine (backC_nil _ w).mono ?_
    rintro e w' ⟨rfl, rfl⟩
    exact ⟨rfl, Below.refl _ _⟩
  · refine (backC_some cl a c g base w hbg hat (fun hp => ?_) hlen).mono ?_
    · rcases ha.1 with ⟨_, rfl⟩ | ⟨b, off, cap, hv, hb, hi⟩
      · simp at hp
      · simp only [Value.slice.injEq, Option.some.injEq] at hv
        obtain ⟨rfl, _, _⟩ := hv
        refine ⟨b, off, rfl, by omega, fun i h j u hj => ?_⟩
        rw [hbl.cell (p := ⟨b, _, none⟩) hb]; exact hi i h j u hj
    · rintro e w' ⟨he, hm⟩
      exact ⟨he, hm.base hbg (lt_of_block hat)⟩
end Go.Proofs.YtamiichlbmllcaaGreatDoor
