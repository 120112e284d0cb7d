import Derived.Test.YtamiichlbmllcabGreatDoorQRfO
import Derived.Test.YtamiichlbmllcabGreatDoorQChF
import Derived.DeepKeys
import Derived.Deep.CutRange
import Derived.Test.YtamiichlbmllcabGreatDoorQRI
import Derived.Test.YtamiichlbmllcabGreatDoorQArmW
import Derived.Test.YtamiichlbmllcabGreatDoorQRefA
import Derived.Test.YtamiichlbmllcabGreatDoorQKn
import Derived.Laws.CopyOwn
set_option maxRecDepth 100000
set_option maxHeartbeats 32000000
namespace Go.Proofs.YtamiichlbmllcabGreatDoor
open Go.RowKit
theorem rf_Check_err (l : List I5) (e : St) (p q : Int) (hp : (p == 0) = false) (v cv : Value) (w : World) (H : ∀ w1, Below w.heap.size w w1 -> Calls Tryz.prog 70 #[v, .agg (stC e)] w1 fun r w' => r = .returned (.tuple #[.int .i64 p, .int .i64 q]) /\ Below w1.heap.size w1 w') (hv : ∃ a cap, v = .slice a l.length cap) :
 Calls Tryz.prog 50 #[v, .agg (stC e), cv] w fun r w' => r = .returned (.tuple #[.int .i64 p, .int .i64 q]) /\ Below w.heap.size w w' := by
 have hk := Kn.nil [] w
 obtain ⟨a, cap, rfl⟩ := hv
 have HH := hide H
 clear H
 go_enter Tryz.func50, Tryz.ntmps50
 go_wp2_with (first | (go_at_call 70; refine (HH.out _ hk.mod.below).mono ?_; rintro e w1 ⟨rfl, hb⟩; replace hk := hk.call hb; clear hb) | ((with_reducible apply gL); (first | refine wS hk ?_ | (refine wN hk ?_; clear hk; intro w1 hk)); simp only [pw]))
 go_ret2
 exact ⟨rfl, hk.mod.below⟩
theorem rf_Check (l : List I5) (e : St) (cl : List C2) (h64 : In64 l e cl) (hcl : cl.length < 4000000000000) (v cv : Value) (w : World) (h : Slc w v l) (hc : SlcC w cv cl) :
 Calls Tryz.prog 50 #[v, .agg (stC e), cv] w fun r w' => r = .returned (.tuple #[.int .i64 (scheckR l e cl).1, .int .i64 (scheckR l e cl).2]) /\ Below w.heap.size w w' := by
 rcases rightR_or l with hr | hr
 · have R : scheckR l e cl = ((checkR l e cl).1, ((checkR l e cl).2 : Int)) := by unfold scheckR; rw [if_pos hr]
   rw [R]
   cases hst : isStR e with
   | true =>
     have hne := (right_fit hr).1
     obtain ⟨pb, poff, pcap, rfl, hpb, hI⟩ : ∃ b off cap, v = .slice (some ⟨b, off, none⟩) l.length cap /\ b < w.heap.size /\ ∀ i (h : i < l.length), InsAt w b (off + i * 5) l[i] := by
      rcases h with ⟨_, rfl⟩ | h
      · simp at hne
      · exact h
     have hcv : ∃ a cap, cv = .slice a cl.length cap := by
      rcases hc with ⟨⟨a, cap, h⟩, rfl⟩ | ⟨b, off, cap, h, _, _⟩
      · exact ⟨a, cap, h⟩
      · exact ⟨_, cap, h⟩
     obtain ⟨a, cap, rfl⟩ := hcv
     exact rf_Check_ok l hr e hst cl h64 hcl pb poff pcap a cap w hpb hI hc
   | false =>
     have R2 : checkR l e cl = (3, 0) := by unfold checkR; rw [hst]; rfl
     rw [R2]
     exact rf_Check_err l e 3 0 rfl v cv w (fun w1 hb => rf_first_st l e hr false hst v w1 (h.below hb (Nat.le_refl _))) h.len
 · have R : scheckR l e cl = rightR l := by unfold scheckR; rw [if_neg (by intro h; rw [h] at hr; simp at hr)]
   rw [R]
   obtain ⟨p, q, hpq⟩ : ∃ p q, rightR l = (p, q) := ⟨_, _, rfl⟩
   rw [hpq] at hr ⊢
   simp only at hr
   subst hr
   exact rf_Check_err l e 1 q rfl v cv w (fun w1 hb => rf_first_no l e 1 q hpq (by decide) v w1 (h.below hb (Nat.le_refl _))) h.len
theorem eqIn_st (s : St) (w : World) : (Op.equalIn 9999 29 (.agg (stC s)) (.agg (stC s))).run Tryz.prog w = .ok true w := by
 obtain ⟨i, hi, hz⟩ : ∃ i, Tryz.prog.info? 27 = some i /\ i.size = 2 := by
  obtain ⟨i, hi, h2⟩ := Option.map_eq_some_iff.1 (show (Tryz.prog.info? 27).map (·.size) = some 2 by kernel_rfl)
  exact ⟨i, hi, h2⟩
 rw [run_equalIn_array w 9998 (stC s) (stC s) Tryz.underlying29 hi, show Tryz.prog.cellsOf 27 = 2 by kernel_rfl, show List.range 8 = [0, 1, 2, 3, 4, 5, 6, 7] from rfl]
 unfold stC
 simp [Op.eqItems, go_sem]
theorem eq_cl (ρ : Operand -> Value) (d : Option Tmp) (x y : Operand) (tt : TypeId) (pos : String) (aft : Array Edge) (g : Option (Nat × Bool)) (p : Int) (s : St) (w : World) (hx : ρ x = .agg (clC p s)) (hy : ρ y = .agg (clC p s)) :
 (execOp ρ ⟨d, .binOp .eql 71 x y 71, tt, pos, aft, g⟩).run Tryz.prog w = .ok (.value (.bool true)) w := by
 unfold execOp
 simp only [hx, hy]
 have := fun w => eqIn_st s w
 unfold stC at this
 unfold clC
 simp [go_sem, this]
section
variable {l : List Oper} {Q : Exit -> Act -> World -> Prop} {F : Nat -> Bool} {S : World -> Prop} {i : Nat} {r : OT} {a : Act} {w : World} {d : Option Tmp} {x y : Operand} {t tt : TypeId} {pos : String} {aft : Array Edge} {g : Option (Nat × Bool)}
theorem sEqC {p : Int} {s : St} (hk : S w) (h : wpT Tryz.prog l Q F S r (a.put d (.bool true)) w) (ho : nthO i l = some ⟨d, .binOp .eql 71 x y 71, tt, pos, aft, g⟩ := by rfl) (hw : Region.wanted ⟨d, .binOp .eql 71 x y 71, tt, pos, aft, g⟩ (yielded l.toArray a.tmps) = true := by rfl) (hx : a.eval x = .agg (clC p s) := by rfl) (hy : a.eval y = .agg (clC p s) := by rfl) : wpT Tryz.prog l Q F S (.op i r) a w :=
 tRun ho rfl hw hk (fun wx => eq_cl _ _ _ _ _ _ _ _ p s wx hx hy) h
theorem add_run (ρ : Operand -> Value) (d : Option Tmp) (x y : Operand) (tt t' : TypeId) (pos : String) (aft : Array Edge) (g : Option (Nat × Bool)) (p q : Int) (w : World) (hx : ρ x = .int .i64 p) (hy : ρ y = .int .i64 q) : (execOp ρ ⟨d, .binOp .add 3 x y t', tt, pos, aft, g⟩).run Tryz.prog w = .ok (.value (.int .i64 (wrap64 (p + q)))) w := by
 unfold execOp; simp only [hx, hy]; simp [go_sem]; exact IntWalk.i64_left _
theorem sAdd {p q m : Int} (hk : S w) (h : wpT Tryz.prog l Q F S r (a.put d (.int .i64 m)) w) (ho : nthO i l = some ⟨d, .binOp .add 3 x y t, tt, pos, aft, g⟩ := by rfl) (hw : Region.wanted ⟨d, .binOp .add 3 x y t, tt, pos, aft, g⟩ (yielded l.toArray a.tmps) = true := by rfl) (hx : a.eval x = .int .i64 p := by rfl) (hy : a.eval y = .int .i64 q := by rfl) (hm : wrap64 (p + q) = m := by assumption) : wpT Tryz.prog l Q F S (.op i r) a w :=
 tRun ho rfl hw hk (fun wx => (add_run _ _ _ _ _ _ _ _ _ p q wx hx hy).trans (by rw [hm])) h
end
theorem ex_clsX {n : Nat} {f : Nat -> C2} {i : Nat} {p : Int} {s : St} (h : i < n) (hf : f i = ⟨p, s⟩) : (clsA n f).extract (i * 17) (i * 17 + 17) = clC p s := by rw [ex_cls n f i h, hf]
def backU (cl : List C2) (k : Nat) : Nat -> C2 := fun i => if i < k then ⟨-1, zeroS⟩ else lentU cl (cl.length + 3) i
theorem backU_step (cl : List C2) (N k : Nat) : clsA N (updC (backU cl k) k ⟨-1, zeroS⟩) = clsA N (backU cl (k + 1)) := cls_congr fun i _ => by
 unfold updC backU
 by_cases h1 : i = k
 · subst h1; rw [if_pos rfl, if_pos (by omega)]
 · rw [if_neg h1]
   by_cases h3 : i < k
   · rw [if_pos h3, if_pos (by omega)]
   · rw [if_neg h3, if_neg (by omega)]
theorem Kn.one {w : World} {g : Nat} {A : Array Value} {t : TypeId} (h : At w g A t) : Kn [g] w w [(g, A, t)] := ⟨Mod.refl _ _, fun x hx => (by simp at hx; subst hx; exact ⟨h, Or.inr (by simp)⟩), List.pairwise_singleton _ _⟩
theorem Mod.base {w w' : World} {g base : Nat} (h : Mod [g] w w') (hb : base <= g) (hg : g < w.heap.size) : Below base w w' := ⟨h.os, h.tape, h.output, h.size, fun k hk => h.block k (by omega) (by simp; omega)⟩
theorem backC_some (cl : List C2) (a : Addr) (c g base : Nat) (w : World) (hbg : base <= g) (hat : At w g (clsA (cl.length + 3) (lentU cl (cl.length + 3))) 71) (hp : 0 < cl.length -> ∃ b off, a = ⟨b, off, none⟩ /\ b < base /\ ∀ i, i < cl.length -> w.rangeAt b (off + i * 17) (clC (clAt cl i).pl (clAt cl i).st).toList) (hlen : cl.length * 136 <= 140737488351232) :
 Calls Tryz.prog 49 #[.slice (some ⟨g, 0, none⟩) cl.length (cl.length + 3), .slice (some a) cl.length c] w fun e w' => e = .returned (.bool true) /\ Mod [g] w w' := by
 have hq := fun wx => Lib.run_eql_slice_nil (P := Tryz.prog) wx 51 71 (some a) cl.length c 0 0 Tryz.underlying51
 simp only [Option.isNone_some] at hq
 have hgs := lt_of_block hat
 have hk := Kn.one hat
 have HP := hide hp
 clear hp hat
 go_enter Tryz.func49, Tryz.ntmps49
 go_wp2_with ((with_reducible apply gL); (first | refine wS hk ?_ | (refine wN hk ?_; clear hk; intro w1 hk)); simp only [pw])
 go_loopw [6, 7] (fun ok j wr => ∃ n : Nat, n <= cl.length + 3 /\ ok = .bool true /\ j = .int .i64 n /\ Kn [g] w wr [(g, clsA (cl.length + 3) (backU cl n), 71)]) (fun _ j _ => cl.length + 3 - (intOf j).toNat)
 case atStart => exact ⟨0, by omega, rfl, rfl, hk⟩
 case round =>
  clear hk
  obtain ⟨n, hn, rfl, rfl, hk⟩ := hrel
  by_cases hlt : n < cl.length + 3
  · have R := hide (backU_step cl (cl.length + 3) n)
    by_cases hin : n < cl.length
    · obtain ⟨b, off, rfl, hb, hi⟩ := HP.out (by omega)
      have hci := hi n hin
      have hbs : b < w.heap.size := by omega
      have hbn : b ∉ [g] := by simp; omega
      obtain ⟨st, hst⟩ : ∃ st, st = (clAt cl n).st := ⟨_, rfl⟩
      obtain ⟨p, hp⟩ : ∃ p, p = (clAt cl n).pl := ⟨_, rfl⟩
      rw [<- hst, <- hp] at hci
      have HB : Hid (backU cl n n = ⟨p, st⟩) := hide (by unfold backU lentU; rw [if_neg (by omega), if_pos hin, hst, hp])
      clear hi hst hp
      go_wp2_with ((with_reducible apply gL); (first | refine wS hk ?_ | (refine wN hk ?_; clear hk; intro w1 hk)); simp only [pw])
      (refine wp_regK hk (.op 0 (.op 1 (.op 2 (.op 3 (.op 4 (.op 5 (.op 6 (.op 7 (.op 8 (.op 9 (.op 10 (.op 11 (.op 12 .nil))))))))))))) (fun i => decide (i < 12)) mixT (by decide) (by kernel_rfl) (by kernel_rfl) ?_; clear hk; intro w1 hk)
      iterate 5 (first | (refine sMove hk ?_; simp only [pw]) | (refine sIndexS0 hk ?_; simp only [pw]))
      refine sLoadR hk ?_ (hc := ex_clsX hlt HB.out); simp only [pw]
      (repeat (refine sV hk ?_; simp only [pw]))
      refine sEqC hk ?_; simp only [pw]
      (repeat (refine sV hk ?_; simp only [pw]))
      refine tNil ?_
      go_wp2_with (first | (refine wBuild hk ?_ (hb := build_cla _ _); simp only [pw]) | (refine wStoreR hk ?_ (hj := by simp only [clsA_size]; omega) (hA := put_cls _ _ _ _ _); clear hk; intro w1 hk; simp only [pw]) | ((with_reducible apply gL); (first | refine wS hk ?_ | (refine wN hk ?_; clear hk; intro w1 hk)); simp only [pw]))
      go_roundw
      case rel => exact ⟨n + 1, by omega, rfl, by go_num, by rw [<- R.out]; exact hk⟩
      case measure => simp [intOf]; omega
    · have HB : Hid (backU cl n n = ⟨77 + (n : Int), zeroS⟩) := hide (by unfold backU lentU; rw [if_neg (by omega), if_neg hin, if_pos hlt])
      have hadd : wrap64 (77 + (n : Int)) = 77 + (n : Int) := by unfold wrap64; omega
      go_upto_region 10 with ((with_reducible apply gL); (first | refine wS hk ?_ | (refine wN hk ?_; clear hk; intro w1 hk)); simp only [pw])
      (refine wp_regLK hk (.op 0 (.op 1 (.op 2 (.op 3 (.op 4 (.op 5 (.op 6 (.op 7 (.op 8 (.op 9 (.op 10 (.op 11 .nil)))))))))))) (by rfl) ?_)
      iterate 5 (first | (refine sMove hk ?_; simp only [pw]) | (refine sIndexS0 hk ?_; simp only [pw]))
      refine sLoadR hk ?_ (hc := ex_clsX hlt HB.out); simp only [pw]
      refine sMove hk ?_; simp only [pw]
      refine sAdd hk ?_; simp only [pw]
      refine sBuild hk ?_ (hb := fun wx => build_cla _ wx); simp only [pw]
      refine sEqC hk ?_; simp only [pw]
      (repeat (refine sV hk ?_; simp only [pw]))
      refine tNil ?_
      go_wp2_with (first | (refine wBuild hk ?_ (hb := build_cla _ _); simp only [pw]) | (refine wStoreR hk ?_ (hj := by simp only [clsA_size]; omega) (hA := put_cls _ _ _ _ _); clear hk; intro w1 hk; simp only [pw]) | ((with_reducible apply gL); (first | refine wS hk ?_ | (refine wN hk ?_; clear hk; intro w1 hk)); simp only [pw]))
      go_roundw
      case rel => exact ⟨n + 1, by omega, rfl, by go_num, by rw [<- R.out]; exact hk⟩
      case measure => simp [intOf]; omega
  · go_wp2_with ((with_reducible apply gL); (first | refine wS hk ?_ | (refine wN hk ?_; clear hk; intro w1 hk)); simp only [pw])
    go_ret
    exact ⟨rfl, hk.mod⟩
theorem lentC_nil (w : World) :
 Calls Tryz.prog 48 #[.slice none 0 0] w fun e w' => e = .returned (.slice none 0 0) /\ w' = w := by
 have hq := fun wx => Lib.run_eql_slice_nil (P := Tryz.prog) wx 51 71 none 0 0 0 0 Tryz.underlying51
 simp only [Option.isNone_none] at hq
 go_enter Tryz.func48, Tryz.ntmps48
 go_wp2
 go_ret
 exact ⟨rfl, rfl⟩
theorem backC_nil (hv : Value) (w : World) :
 Calls Tryz.prog 49 #[hv, .slice none 0 0] w fun e w' => e = .returned (.bool true) /\ w' = w := by
 have hq := fun wx => Lib.run_eql_slice_nil (P := Tryz.prog) wx 51 71 none 0 0 0 0 Tryz.underlying51
 simp only [Option.isNone_none] at hq
 go_enter Tryz.func49, Tryz.ntmps49
 go_wp2
 go_ret
 exact ⟨rfl, rfl⟩
theorem lentC_any (cl : List C2) (v : Value) (w : World) (h : ArgC w v cl) (hlen : cl.length * 136 <= 140737488351232) :
 Calls Tryz.prog 48 #[v] w fun e w' => ∃ hv, e = .returned hv /\ LentC w' w.heap.size v hv cl /\ Below w.heap.size w w' := by
 rcases h.cells with ⟨rfl, rfl⟩ | ⟨a, c, rfl, hc⟩
 · refine (lentC_nil w).mono ?_
   rintro e w' ⟨rfl, rfl⟩
   exact ⟨_, rfl, Or.inl ⟨rfl, rfl, rfl⟩, Below.refl _ _⟩
 · exact lentC_some cl a c w hc hlen
theorem backC_any (cl : List C2) (v hv : Value) (base : Nat) (w0 w : World) (hl : LentC w base v hv cl) (ha : ArgC w0 v cl) (h0 : w0.heap.size <= base) (hbl : Below w0.heap.size w0 w) (hlen : cl.length * 136 <= 140737488351232) :
 Calls Tryz.prog 49 #[hv, v] w fun e w' => e = .returned (.bool true) /\ Below base w w' := by
 rcases hl with ⟨rfl, rfl, rfl⟩ | ⟨a, c, g, rfl, rfl, hbg, hat⟩
 · refine (backC_nil _ w).mono ?_
   rintro e w' ⟨rfl, rfl⟩
   exact ⟨rfl, Below.refl _ _⟩
 · refine (backC_some cl a c g base w hbg hat (fun hp => ?_) hlen).mono ?_
   · rcases ha.1 with ⟨_, rfl⟩ | ⟨b, off, cap, hv, hb, hi⟩
     · simp at hp
     · simp only [Value.slice.injEq, Option.some.injEq] at hv
       obtain ⟨rfl, _, _⟩ := hv
       refine ⟨b, off, rfl, by omega, fun i h j u hj => ?_⟩
       rw [hbl.cell (p := ⟨b, _, none⟩) hb]; exact hi i h j u hj
   · rintro e w' ⟨he, hm⟩
     exact ⟨he, hm.base hbg (lt_of_block hat)⟩
theorem num_any (n : Int) (w : World) :
 Calls Tryz.prog 38 #[.int .i64 n] w fun e w' => e = .returned (.int .i64 n) /\ w = w' := by
 go_enter Tryz.func38, Tryz.ntmps38
 go_wp2
 go_ret
 exact ⟨rfl, rfl⟩
def opC (k on fu pv sv : Value) (s : St) (cv : Value) (r : Nat -> Value) : Array Value :=
 #[k, on, fu, pv, sv, .int .i64 (s 0).lo, .int .i64 (s 0).hi, .int .i64 (s 1).lo, .int .i64 (s 1).hi, .int .i64 (s 2).lo, .int .i64 (s 2).hi, .int .i64 (s 3).lo, .int .i64 (s 3).hi, .int .i64 (s 4).lo, .int .i64 (s 4).hi, .int .i64 (s 5).lo, .int .i64 (s 5).hi, .int .i64 (s 6).lo, .int .i64 (s 6).hi, .int .i64 (s 7).lo, .int .i64 (s 7).hi, cv, r 0, r 1, r 2, r 3, r 4, r 5, r 6, r 7]
theorem ex_op (k on fu pv sv : Value) (s : St) (cv : Value) (r : Nat -> Value) : (opC k on fu pv sv s cv r).extract 5 (5 + 16) = stC s := by kernel_rfl
theorem op_3 (k on fu pv sv : Value) (s : St) (cv : Value) (r : Nat -> Value) : (opC k on fu pv sv s cv r)[3]? = some pv := rfl
theorem op_21 (k on fu pv sv : Value) (s : St) (cv : Value) (r : Nat -> Value) : (opC k on fu pv sv s cv r)[21]? = some cv := rfl
theorem Kn.callB {M : List Nat} {w0 w w' : World} {L : RowL} {B : Nat} (h : Kn M w0 w L) (hb : Below B w w') (h0 : w0.heap.size <= B) (hL : ∀ x, x ∈ L -> x.1 < B) : Kn M w0 w' L :=
 ⟨⟨hb.os.trans h.mod.os, hb.tape.trans h.mod.tape, hb.output.trans h.mod.output, Nat.le_trans h.mod.size hb.size, fun k hk hM => (hb.block k (by omega)).trans (h.mod.block k hk hM)⟩, fun x hx => ⟨by have := (h.has x hx).1; unfold At at this ⊢; rw [hb.block _ (hL x hx), this], (h.has x hx).2⟩, h.dis⟩
theorem checked_any (l : List I5) (e : St) (cl : List C2) (h64 : In64 l e cl) (k on fu sv : Value) (r : Nat -> Value) (pv cv : Value) (w : World) (hs : Shapes w) (hp : Arg w pv l) (hlen : l.length * 40 <= 140737488351232) (hc : ArgC w cv cl) (hcl : cl.length * 136 <= 140737488351232) :
 Calls Tryz.prog 19 #[.agg (opC k on fu pv sv e cv r)] w fun x w' => x = .returned (.bool true) /\ Below w.heap.size w w' := by
 have hk := Kn.nil [] w
 have hcl2 : cl.length < 4000000000000 := by omega
 have HS := hide hs
 have HP := hide hp
 have HC := hide hc
 have H64 := hide h64
 clear hs hp hc h64
 go_enter Tryz.func19, Tryz.ntmps19
 go_wp2_with (first | (refine wLoad1 hk ?_ (hv := op_3 _ _ _ _ _ _ _ _); simp only [pw]) | (refine wLoad1 hk ?_ (hv := op_21 _ _ _ _ _ _ _ _); simp only [pw]) | (refine wLoadR hk ?_ (hc := ex_op _ _ _ _ _ _ _ _); simp only [pw]) | ((with_reducible apply gL); (first | refine wS hk ?_ | (refine wN hk ?_; clear hk; intro w1 hk)); simp only [pw]))
 go_at_call 32
 have hb1 := hk.mod.below
 have hn1 : w.heap.size < w1.heap.size := lt_of_block (hk.at List.mem_cons_self)
 have HP1 := hide (HP.out.below hb1 (Nat.le_refl _))
 have HC1 := hide (HC.out.below hb1 (Nat.le_refl _))
 refine (lent_any l pv w1 HP1.out hlen).mono ?_
 rintro x w2 ⟨hv, rfl, hL2, hb2⟩
 replace hk := hk.call hb2
 go_wp2_with (first | (refine wLoad1 hk ?_ (hv := op_3 _ _ _ _ _ _ _ _); simp only [pw]) | (refine wLoad1 hk ?_ (hv := op_21 _ _ _ _ _ _ _ _); simp only [pw]) | (refine wLoadR hk ?_ (hc := ex_op _ _ _ _ _ _ _ _); simp only [pw]) | ((with_reducible apply gL); (first | refine wS hk ?_ | (refine wN hk ?_; clear hk; intro w1 hk)); simp only [pw]))
 go_at_call 48
 refine (lentC_any cl cv w2 (HC1.out.below hb2 (Nat.le_refl _)) hcl).mono ?_
 rintro x w3 ⟨hcv, rfl, hC3, hb3⟩
 have hb13 : Below w1.heap.size w1 w3 := hb2.trans (hb3.mono hb2.size)
 have hs3 : Shapes w3 := HS.out.below (hb1.trans (hb13.mono hb1.size)) HS.out.1
 have hL3 := hL2.below hb3
 have HLT : Hid (∀ k, hv.ownBlock = some k -> k < w2.heap.size) := hide hL2.lt
 replace hk := hk.call hb3
 go_wp2_with (first | (refine wLoad1 hk ?_ (hv := op_3 _ _ _ _ _ _ _ _); simp only [pw]) | (refine wLoad1 hk ?_ (hv := op_21 _ _ _ _ _ _ _ _); simp only [pw]) | (refine wLoadR hk ?_ (hc := ex_op _ _ _ _ _ _ _ _); simp only [pw]) | ((with_reducible apply gL); (first | refine wS hk ?_ | (refine wN hk ?_; clear hk; intro w1 hk)); simp only [pw]))
 go_at_call 10
 refine (SCheck_any l e cl H64.out hcl2 hv hcv w3 hs3 hL3.slc hC3.slc).mono ?_
 rintro x w4 ⟨rfl, hb4⟩
 obtain ⟨PE, PN, hPS⟩ : ∃ PE PN, scheckR l e cl = (PE, PN) := ⟨_, _, rfl⟩
 have HPS := hide hPS
 rw [hPS]
 clear hPS
 have hb14 : Below w1.heap.size w1 w4 := hb13.trans (hb4.mono hb13.size)
 have HL4 := hide (hL3.below hb4)
 have HC4 := hide (hC3.below hb4)
 have H12 := hide hb2.size
 have H24 := hide (Nat.le_trans hb3.size hb4.size)
 replace hk := hk.call hb4
 clear hL2 hL3 hC3 hs3 hb13
 go_wp2_with (first | (refine wLoad1 hk ?_ (hv := op_3 _ _ _ _ _ _ _ _); simp only [pw]) | (refine wLoad1 hk ?_ (hv := op_21 _ _ _ _ _ _ _ _); simp only [pw]) | (refine wLoadR hk ?_ (hc := ex_op _ _ _ _ _ _ _ _); simp only [pw]) | ((with_reducible apply gL); (first | refine wS hk ?_ | (refine wN hk ?_; clear hk; intro w1 hk)); simp only [pw]))
 go_at_call 35
 refine (lawBack2 l pv hv w1.heap.size w1 w4 HL4.out HP1.out (Nat.le_refl _) hb14 hlen).mono ?_
 rintro x w5 ⟨rfl, hb5, hk5⟩
 have hb15 : Below w1.heap.size w1 w5 := hb14.trans hb5
 have HC5 : Hid (LentC w5 w2.heap.size cv hcv cl) := hide (by
  rcases HC4.out with h | ⟨a, c, g, h1, h2, h3, h4⟩
  · exact Or.inl h
  · refine Or.inr ⟨a, c, g, h1, h2, h3, ?_⟩
    unfold At at h4 ⊢
    rw [hk5 g (lt_of_block h4) (fun hh => by have := HLT.out g hh.symm; omega), h4])
 replace hk := hk.callB hb5 (by omega) (fun x hx => by simp at hx; subst hx; exact hn1)
 clear hk5
 go_wp2_with (first | (refine wLoad1 hk ?_ (hv := op_3 _ _ _ _ _ _ _ _); simp only [pw]) | (refine wLoad1 hk ?_ (hv := op_21 _ _ _ _ _ _ _ _); simp only [pw]) | (refine wLoadR hk ?_ (hc := ex_op _ _ _ _ _ _ _ _); simp only [pw]) | ((with_reducible apply gL); (first | refine wS hk ?_ | (refine wN hk ?_; clear hk; intro w1 hk)); simp only [pw]))
 go_at_call 49
 refine (backC_any cl cv hcv w2.heap.size w1 w5 HC5.out HC1.out H12.out hb15 hcl).mono ?_
 rintro x w6 ⟨rfl, hb6⟩
 have hb16 : Below w1.heap.size w1 w6 := hb15.trans (hb6.mono H12.out)
 replace hk := hk.callB hb6 (by have := H12.out; omega) (fun x hx => by simp at hx; subst hx; have := H12.out; omega)
 go_wp2_with (first | (refine wLoad1 hk ?_ (hv := op_3 _ _ _ _ _ _ _ _); simp only [pw]) | (refine wLoad1 hk ?_ (hv := op_21 _ _ _ _ _ _ _ _); simp only [pw]) | (refine wLoadR hk ?_ (hc := ex_op _ _ _ _ _ _ _ _); simp only [pw]) | ((with_reducible apply gL); (first | refine wS hk ?_ | (refine wN hk ?_; clear hk; intro w1 hk)); simp only [pw]))
 go_at_call 50
 refine (rf_Check l e cl H64.out hcl2 pv cv w6 (HP1.out.below hb16 (Nat.le_refl _)).1 (HC1.out.below hb16 (Nat.le_refl _)).1).mono ?_
 rintro x w7 ⟨rfl, hb7⟩
 rw [HPS.out]
 replace hk := hk.call hb7
 clear hb1 hb2 hb3 hb4 hb5 hb6 hb7 hb14 hb15 hb16
 go_wp2_with (first | (go_at_call 38; refine (num_any _ _).mono ?_; rintro x w8 ⟨rfl, rfl⟩) | ((with_reducible apply gL); (first | refine wS hk ?_ | (refine wN hk ?_; clear hk; intro w1 hk)); simp only [pw]))
 go_ret
 exact ⟨rfl, hk.mod.below⟩
theorem slc_one {w : World} {g : Nat} {o a b c k : Int} (h : At w g #[.int .i64 o, .int .i64 a, .int .i64 b, .int .i64 c, .int .i64 k] 35) : Slc w (.slice (some ⟨g, 0, none⟩) 1 1) [⟨o, a, b, c, k⟩] := by
 refine Or.inr ⟨g, 0, 1, rfl, lt_of_block h, fun i hi => ?_⟩
 match i, hi with
 | 0, _ => refine ⟨?_, ?_, ?_, ?_, ?_⟩ <;> rw [cell_of_row _ _ _ _ _ _ h] <;> rfl
 | j + 1, hj => simp at hj
theorem lawPick_any (c : Int) (hc : I64 c) (n : Nat) (hn : 0 < n) (hn2 : n < 4000000000000) (w : World) : Calls Tryz.prog 55 #[.int .i64 c, .int .i64 n] w fun e w' => ∃ i : Nat, i < n /\ e = .returned (.int .i64 i) /\ w' = w := by
 unfold I64 at hc
 have hne : ((n : Int) == 0) = false := by rw [beq_eq_false_iff_ne]; omega
 by_cases h : c < 0
 · have R : Hid (∃ i : Nat, i < n /\ -((c + 1).tmod (n : Int)) = i) := hide (by
    have h1 : 0 <= -(c + 1) := by omega
    rw [<- Int.neg_tmod]
    have h2 := Int.tmod_lt_of_pos (-(c + 1)) (show (0 : Int) < n by omega)
    have h3 := Int.tmod_nonneg (n : Int) h1
    exact ⟨((-(c + 1)).tmod (n : Int)).toNat, by omega, by omega⟩)
   go_enter Tryz.func55, Tryz.ntmps55
   go_wp2
   go_ret
   obtain ⟨i, h1, h2⟩ := R.out
   exact ⟨i, h1, congrArg (fun z => Ending.returned (Value.int .i64 z)) h2, rfl⟩
 · have R : Hid (∃ i : Nat, i < n /\ c % (n : Int) = i) := hide (by
    have h2 := Int.emod_lt_of_pos c (show (0 : Int) < n by omega)
    have h3 := Int.emod_nonneg c (show (n : Int) ≠ 0 by omega)
    exact ⟨(c % (n : Int)).toNat, by omega, by omega⟩)
   go_enter Tryz.func55, Tryz.ntmps55
   go_wp2
   go_ret
   obtain ⟨i, h1, h2⟩ := R.out
   exact ⟨i, h1, congrArg (fun z => Ending.returned (Value.int .i64 z)) h2, rfl⟩
theorem hasR_parts {r : R2} {n : Int} : hasR r n = (!decide (n < r.lo) && !decide (r.hi < n)) := by
 unfold hasR
 by_cases h1 : n < r.lo <;> by_cases h2 : r.hi < n <;> simp [h1, h2] <;> omega
theorem within_any (r : Nat -> Int) (s : St) (w : World) : Calls Tryz.prog 56 #[.agg (rgsC r), .agg (stC s)] w fun e w' => e = .returned (.bool (areR r s)) /\ Below w.heap.size w w' := by
 have hk := Kn.nil [] w
 go_enter Tryz.func56, Tryz.ntmps56
 go_wp2_with (first | ((with_reducible show wpList _ _ _ (⟨some 2, _, _, _, _, _⟩ :: _) _ _); refine wBox hk ?_; clear hk; intro wa hk; simp only [pw]) | ((with_reducible apply gL); (first | refine wS hk ?_ | (refine wN hk ?_; clear hk; intro w1 hk)); simp only [pw]))
 go_loopw [5] (fun j wr => ∃ n : Nat, n <= 8 /\ j = .int .i64 n /\ (∀ i, i < n -> hasR (s i) (r i) = true) /\ Kn [] w wr [(wa.heap.size, stC s, 29), (w.heap.size, rgsC r, 41)]) (fun j _ => 8 - (intOf j).toNat)
 case atStart => exact ⟨0, by omega, rfl, fun i hi => by omega, hk⟩
 case round =>
  clear hk
  obtain ⟨n, hn, rfl, hall, hk⟩ := hrel
  have HA := hide hall
  clear hall
  by_cases hlt : n < 8
  · cases h1 : decide (r n < (s n).lo) with
    | true =>
      have HE : Hid (areR r s = false) := hide (areR_no hlt (by rw [hasR_parts, h1]; rfl))
      have H1 := hide h1
      clear h1
      go_wp2_with ((with_reducible apply gL); (first | refine wS hk ?_ | (refine wN hk ?_; clear hk; intro w1 hk)); simp only [pw])
      (refine wp_regK hk (.op 0 (.op 1 (.op 2 (.op 3 (.op 4 (.op 5 (.op 6 (.op 7 (.op 8 (.op 9 (.op 10 (.op 11 (.op 12 (.op 13 (.op 14 (.op 15 (.op 16 (.op 17 .nil)))))))))))))))))) (fun i => decide (i < 18)) mixT (by decide) (by kernel_rfl) (by kernel_rfl) ?_; clear hk; intro w1 hk)
      (repeat (refine sU hk ?_; simp only [pw]; (try rw [H1.out])))
      refine tNil ?_
      go_wp2_with ((with_reducible apply gL); (first | refine wS hk ?_ | (refine wN hk ?_; clear hk; intro w1 hk)); simp only [pw])
      go_ret
      exact ⟨ret_bool HE.out.symm, hk.mod.below⟩
    | false =>
      cases h2 : decide ((s n).hi < r n) with
      | true =>
        have HE : Hid (areR r s = false) := hide (areR_no hlt (by rw [hasR_parts, h1, h2]; rfl))
        have H1 := hide h1
        have H2 := hide h2
        clear h1 h2
        go_wp2_with ((with_reducible apply gL); (first | refine wS hk ?_ | (refine wN hk ?_; clear hk; intro w1 hk)); simp only [pw])
        (refine wp_regK hk (.op 0 (.op 1 (.op 2 (.op 3 (.op 4 (.op 5 (.op 6 (.op 7 (.op 8 (.op 9 (.op 10 (.op 11 (.op 12 (.op 13 (.op 14 (.op 15 (.op 16 (.op 17 .nil)))))))))))))))))) (fun i => decide (i < 18)) mixT (by decide) (by kernel_rfl) (by kernel_rfl) ?_; clear hk; intro w1 hk)
        (repeat (refine sU hk ?_; simp only [pw]; (try rw [H1.out]); (try rw [H2.out])))
        refine tNil ?_
        go_wp2_with ((with_reducible apply gL); (first | refine wS hk ?_ | (refine wN hk ?_; clear hk; intro w1 hk)); simp only [pw])
        go_ret
        exact ⟨ret_bool HE.out.symm, hk.mod.below⟩
      | false =>
        have HE : Hid (hasR (s n) (r n) = true) := hide (by rw [hasR_parts, h1, h2]; rfl)
        have H1 := hide h1
        have H2 := hide h2
        clear h1 h2
        go_wp2_with ((with_reducible apply gL); (first | refine wS hk ?_ | (refine wN hk ?_; clear hk; intro w1 hk)); simp only [pw])
        (refine wp_regK hk (.op 0 (.op 1 (.op 2 (.op 3 (.op 4 (.op 5 (.op 6 (.op 7 (.op 8 (.op 9 (.op 10 (.op 11 (.op 12 (.op 13 (.op 14 (.op 15 (.op 16 (.op 17 .nil)))))))))))))))))) (fun i => decide (i < 18)) mixT (by decide) (by kernel_rfl) (by kernel_rfl) ?_; clear hk; intro w1 hk)
        (repeat (refine sU hk ?_; simp only [pw]; (try rw [H1.out]); (try rw [H2.out])))
        refine tNil ?_
        go_wp2_with ((with_reducible apply gL); (first | refine wS hk ?_ | (refine wN hk ?_; clear hk; intro w1 hk)); simp only [pw])
        go_roundw
        case rel => exact ⟨n + 1, by omega, by go_num, fun i hi => by rcases Nat.lt_succ_iff_lt_or_eq.1 hi with h | h; exact HA.out i h; subst h; exact HE.out, hk⟩
        case measure => simp [intOf]; omega
  · have HE : Hid (areR r s = true) := hide (areR_yes fun i hi => HA.out i (by omega))
    go_wp2_with ((with_reducible apply gL); (first | refine wS hk ?_ | (refine wN hk ?_; clear hk; intro w1 hk)); simp only [pw])
    go_ret
    exact ⟨ret_bool HE.out.symm, hk.mod.below⟩
def haL : List I5 := [⟨0, 0, 0, 0, 0⟩]
def haE : St := fun j => if j = 0 then ⟨3, 4⟩ else ⟨0, 0⟩
theorem ha_check : scheckR haL haE [] = (0, 0) := by kernel_rfl
theorem ha_right : rightR haL = (0, 0) := by kernel_rfl
theorem ha_in : In64 haL haE [] := ⟨fun i hi => by match i, hi with | 0, _ => exact ⟨by decide, by decide⟩ | j + 1, hj => simp [haL] at hj, fun j _ => by unfold haE R2.in64 I64; split <;> simp, fun i hi => by simp at hi⟩
theorem ha_checkR : (checkR haL haE []).1 = 0 := by kernel_rfl
theorem ha_taken : Taken haL (layR []) haE := ((right_fit ha_right).taken ha_in ha_checkR).1
def haR (x : Int) : Nat -> Int := fun j => if j = 0 then x else 0
theorem ha_3 : areR (haR 3) haE = true := by kernel_rfl
theorem ha_5 : areR (haR 5) haE = false := by kernel_rfl
theorem areR_inS {r : Nat -> Int} {s : St} (h : areR r s = true) : inS r s := fun j hj => by
 have := List.all_eq_true.1 h j (List.mem_range.2 hj)
 unfold hasR at this
 have h2 := of_decide_eq_true this
 exact h2
theorem ha_run : runO haL (haR 3) 9 = ⟨1, 0, 3, 1⟩ := by kernel_rfl
theorem build_ha (w : World) : (Instr.build 29 [(0, .agg #[.int .i64 3, .int .i64 4])].toArray).run Tryz.prog w = .ok (.agg (stC haE)) w := run_build w _ _ _ (by kernel_rfl)
theorem build_hr (x : Int) (w : World) : (Instr.build 41 [(0, .int .i64 x)].toArray).run Tryz.prog w = .ok (.agg (rgsC (haR x))) w := run_build w _ _ _ (by kernel_rfl)
theorem ha_all : ∃ (E : St) (R3 R5 : Nat -> Int), (∀ w : World, (Instr.build 29 [(0, .agg #[.int .i64 3, .int .i64 4])].toArray).run Tryz.prog w = .ok (.agg (stC E)) w) /\ (∀ w : World, (Instr.build 41 [(0, .int .i64 3)].toArray).run Tryz.prog w = .ok (.agg (rgsC R3)) w) /\ (∀ w : World, (Instr.build 41 [(0, .int .i64 5)].toArray).run Tryz.prog w = .ok (.agg (rgsC R5)) w) /\ In64 haL E [] /\ scheckR haL E [] = (0, 0) /\ Taken haL (layR []) E /\ areR R3 E = true /\ areR R5 E = false /\ runO haL R3 9 = ⟨1, 0, 3, 1⟩ :=
 ⟨haE, haR 3, haR 5, build_ha, build_hr 3, build_hr 5, ha_in, ha_check, ha_taken, ha_3, ha_5, ha_run⟩
theorem halts_any (w : World) (hs : Shapes w) : Calls Tryz.prog 4 #[] w fun x w' => x = .returned (.bool true) /\ Below w.heap.size w w' := by
 obtain ⟨E, R3, R5, h1, h2, h3, h4, h5, h6, h7, h8, h9⟩ := ha_all
 have B1 := hide h1
 have B3 := hide h2
 have B5 := hide h3
 have HIN := hide h4
 have HCK := hide h5
 have HTK := hide h6
 have HA3 := hide h7
 have HA5 := hide h8
 have HRU := hide h9
 clear h1 h2 h3 h4 h5 h6 h7 h8 h9
 have hk := Kn.nil [] w
 have HS := hide hs
 clear hs
 go_enter Tryz.func4, Tryz.ntmps4
 go_wp2_with (first | (refine wKnAlloc hk ?_; clear hk; intro w1 hk) | (refine wBuild hk ?_ (hb := B1.out _); simp only [pw]) | ((with_reducible apply gL); (first | refine wS hk ?_ | (refine wN hk ?_; clear hk; intro w1 hk)); simp only [pw]))
 go_at_call 6
 refine (compile_ok haL E [] HIN.out (by decide) _ _ _ (HS.out.below hk.mod.below HS.out.1) (slc_one (hk.at List.mem_cons_self)) (Or.inl ⟨⟨_, _, rfl⟩, rfl⟩) HCK.out (right_fit ha_right)).mono ?_
 rintro x w2 ⟨t, rfl, hT, hb⟩
 replace hk := hk.call hb
 obtain ⟨pb, cap, hT1, hT2, _, _⟩ := hT.ex
 have HB2 := hide hk.mod.below
 have HT1 := hide hT1
 have HT2 := hide hT2
 clear hb hT hT1 hT2 hk
 have hk := Kn.nil [] w2
 go_wp2_with (first | (refine wBuild hk ?_ (hb := B3.out _); simp only [pw]) | (refine wBuild hk ?_ (hb := B5.out _); simp only [pw]) | ((with_reducible apply gL); (first | refine wS hk ?_ | (refine wN hk ?_; clear hk; intro w1 hk)); simp only [pw]))
 go_at_call 7
 refine (thread_ok t pb cap haL (right_fit ha_right) E (layR []) HTK.out R3 9 _ (HT1.out.mod hk.mod List.not_mem_nil) (HT2.out.mod hk.mod) HA3.out (areR_inS HA3.out)).mono ?_
 rintro x w3 ⟨rfl, hb⟩
 replace hk := hk.call hb
 clear hb
 rw [HRU.out]
 unfold O4.val
 go_wp2_with (first | (refine wBuild hk ?_ (hb := B3.out _); simp only [pw]) | (refine wBuild hk ?_ (hb := B5.out _); simp only [pw]) | ((with_reducible apply gL); (first | refine wS hk ?_ | (refine wN hk ?_; clear hk; intro w1 hk)); simp only [pw]))
 go_at_call 7
 refine (thread_no t pb cap haL.length E R5 9 _ (HT1.out.mod hk.mod List.not_mem_nil) HA5.out).mono ?_
 rintro x w4 ⟨rfl, hb⟩
 replace hk := hk.call hb
 clear hb
 go_wp2_with ((with_reducible apply gL); (first | refine wS hk ?_ | (refine wN hk ?_; clear hk; intro w1 hk)); simp only [pw])
 go_ret
 exact ⟨rfl, HB2.out.trans (hk.mod.below.mono HB2.out.size)⟩
def EyeAt (w : World) (eb : Nat) (s : ByteArray) (bad : Bool) : Prop := w.heap[eb]? = some (.cells #[.string s, .bool bad] 162 (0, 0))
theorem EyeAt.cell {w : World} {eb : Nat} {s : ByteArray} {bad : Bool} (h : EyeAt w eb s bad) : w.cell? ⟨eb, 0, none⟩ = some (.string s) /\ w.cell? ⟨eb, 1, none⟩ = some (.bool bad) /\ w.frozen? ⟨eb, 0, none⟩ = false /\ w.frozen? ⟨eb, 1, none⟩ = false := by
 unfold EyeAt at h
 refine ⟨by rw [cell_of_row _ _ _ _ _ _ h]; rfl, by rw [cell_of_row _ _ _ _ _ _ h]; rfl, ?_, ?_⟩
 · simp [World.frozen?, h]
 · simp [World.frozen?, h]
theorem grown_set (w : World) (g off : Nat) (u : Value) : w.grownBy (w.setCell ⟨g, off, none⟩ u) (some g) :=
 ⟨rfl, rfl, rfl, by simp [World.setCell], fun k _ hk => Below.heap_setCell w _ u k (fun e => hk (by rw [e]))⟩
theorem u64_back (n b : Nat) (h : 256 * n + b < 18446744073709551616) : IntKind.u64.wrap (IntKind.u64.wrap (256 * (n : Int)) + IntKind.u64.wrap (b : Int)) = ((256 * n + b : Nat) : Int) := by
 simp only [IntKind.wrap_u64]; omega
theorem leNat_drop (l : List UInt8) (j : Nat) (h : j < l.length) : leNat (l.drop j) = 256 * leNat (l.drop (j + 1)) + l[j].toNat := by
 rw [List.drop_eq_getElem_cons h, leNat]; omega
theorem leNat_drop_lt (l : List UInt8) (j : Nat) (h8 : l.length <= 8) : leNat (l.drop j) < 18446744073709551616 := by
 have h1 := leNat_lt (l.drop j)
 have h2 := pow_le8 (j := (l.drop j).length) (by rw [List.length_drop]; omega)
 omega
def eyeN (l : List UInt8) (needed : Bool) (size : Nat) : Int := if needed = true /\ size <= l.length then wrap64 (leNat (l.take size)) else 0
def eyeRest (l : List UInt8) (needed : Bool) (size : Nat) : List UInt8 := if needed = true /\ size <= l.length then l.drop size else l
def eyeBad (l : List UInt8) (bad needed : Bool) (size : Nat) : Bool := if needed = true /\ ¬ size <= l.length then true else bad
theorem number_yes (eb size : Nat) (s : ByteArray) (bad : Bool) (w : World) (h : EyeAt w eb s bad) (h1 : 1 <= size) (h8 : size <= 8) (hs : size <= s.size) :
 Calls Tryz.prog 68 #[.pointer (some ⟨eb, 0, none⟩), .bool true, .int .i64 size] w fun e w' => e = .returned (.int .i64 (wrap64 (leNat (s.data.toList.take size)))) /\ EyeAt w' eb (s.extract size s.size) bad /\ w.grownBy w' (some eb) := by
 obtain ⟨c0, c1, f0, f1⟩ := h.cell
 have hL : (s.data.toList.take size).length = size := take_len s size hs
 go_enter Tryz.func68, Tryz.ntmps68
 go_wp2_with fail
 go_loop [7, 8] (fun n i => ∃ j : Nat, j <= size /\ i = .int .i64 ((j : Int) - 1) /\ n = .int .u64 (leNat ((s.data.toList.take size).drop j))) (fun _ i => (intOf i + 1).toNat)
 case atStart => exact ⟨size, by omega, rfl, by rw [List.drop_of_length_le (by omega)]; rfl⟩
 case round =>
  obtain ⟨j, hj, rfl, rfl⟩ := hrel
  by_cases hj0 : j = 0
  · subst hj0
    go_wp2
    go_ret
    refine ⟨rfl, ?_, grown_set _ _ _ _⟩
    unfold EyeAt at h ⊢
    rw [set_block h]; rfl
  · obtain ⟨i, rfl⟩ : ∃ i, j = i + 1 := ⟨j - 1, by omega⟩
    have hi : i < s.size := by omega
    have HD := hide (leNat_drop (s.data.toList.take size) i (by omega))
    have HE : Hid ((s.data.toList.take size)[i]'(by omega) = s[i]) := hide (by rw [List.getElem_take]; rfl)
    have HB := hide (leNat_drop_lt (s.data.toList.take size) i (by omega))
    have HK : Hid (IntKind.u64.wrap (IntKind.u64.wrap (256 * ((leNat ((s.data.toList.take size).drop (i + 1)) : Nat) : Int)) + IntKind.u64.wrap (s[i].toNat : Int)) = ((leNat ((s.data.toList.take size).drop i) : Nat) : Int)) := hide (by
     have := HD.out
     have hb := HB.out
     rw [HE.out] at this
     rw [u64_back _ _ (by omega), this])
    go_wp2
    exact ⟨⟨i, by omega, rfl, by rw [HK.out]⟩, by simp [intOf]⟩
theorem number_short (eb size : Nat) (s : ByteArray) (bad : Bool) (w : World) (h : EyeAt w eb s bad) (hs : s.size < size) (_h8 : size <= 8) :
 Calls Tryz.prog 68 #[.pointer (some ⟨eb, 0, none⟩), .bool true, .int .i64 size] w fun e w' => e = .returned (.int .i64 0) /\ EyeAt w' eb s true /\ w.grownBy w' (some eb) := by
 obtain ⟨c0, c1, f0, f1⟩ := h.cell
 go_enter Tryz.func68, Tryz.ntmps68
 go_wp2
 go_ret
 refine ⟨rfl, ?_, grown_set _ _ _ _⟩
 unfold EyeAt at h ⊢
 rw [set_block h]; rfl
theorem number_none (p : Value) (size : Int) (w : World) :
 Calls Tryz.prog 68 #[p, .bool false, .int .i64 size] w fun e w' => e = .returned (.int .i64 0) /\ w = w' := by
 go_enter Tryz.func68, Tryz.ntmps68
 go_wp2
 go_ret
 exact ⟨rfl, rfl⟩
theorem number_any (eb size : Nat) (nd : Bool) (s : ByteArray) (bad : Bool) (w : World) (h : EyeAt w eb s bad) (h1 : nd = true -> 1 <= size) (h8 : size <= 8) :
 Calls Tryz.prog 68 #[.pointer (some ⟨eb, 0, none⟩), .bool nd, .int .i64 size] w fun e w' => e = .returned (.int .i64 (eyeN s.data.toList nd size)) /\ (∃ s', s'.data.toList = eyeRest s.data.toList nd size /\ EyeAt w' eb s' (eyeBad s.data.toList bad nd size)) /\ w.grownBy w' (some eb) := by
 have hlen : s.data.toList.length = s.size := by rw [Array.length_toList]; rfl
 cases nd
 · refine (number_none _ _ w).mono ?_
   rintro e w' ⟨rfl, rfl⟩
   refine ⟨ret_int (by simp [eyeN]), ⟨s, by simp [eyeRest], by simpa [eyeBad] using h⟩, ⟨rfl, rfl, rfl, Nat.le_refl _, fun _ _ _ => rfl⟩⟩
 · by_cases hs : size <= s.size
   · refine (number_yes eb size s bad w h (h1 rfl) h8 hs).mono ?_
     rintro e w' ⟨rfl, he, hg⟩
     refine ⟨ret_int (by unfold eyeN; rw [if_pos ⟨rfl, by omega⟩]), ⟨s.extract size s.size, ?_, ?_⟩, hg⟩
     · rw [Lib.extract_to_end]; unfold eyeRest; rw [if_pos ⟨rfl, by omega⟩]
     · have : eyeBad s.data.toList bad true size = bad := by unfold eyeBad; rw [if_neg (fun hh => hh.2 (by omega))]
       rw [this]; exact he
   · refine (number_short eb size s bad w h (by omega) h8).mono ?_
     rintro e w' ⟨rfl, he, hg⟩
     refine ⟨ret_int (by unfold eyeN; rw [if_neg (fun hh => by have := hh.2; omega)]), ⟨s, ?_, ?_⟩, hg⟩
     · unfold eyeRest; rw [if_neg (fun hh => by have := hh.2; omega)]
     · have : eyeBad s.data.toList bad true size = true := by unfold eyeBad; rw [if_pos ⟨rfl, by omega⟩]
       rw [this]; exact he
def mrkI (n : Nat) : Int := -1000 - ((n / 4 : Nat) : Int)
theorem mark_any (n : Nat) (w : World) (h : n < 1000000000000000) :
 Calls Tryz.prog 23 #[.int .i64 n] w fun e w' => e = .returned (.int .i64 (mrkI n)) /\ w = w' := by
 go_enter Tryz.func23, Tryz.ntmps23
 go_wp2
 go_ret
 exact ⟨rfl, rfl⟩
theorem Slc.pos {w : World} {v : Value} {l : List I5} (h : Slc w v l) (hl : 0 < l.length) : ∃ b off cap, v = .slice (some ⟨b, off, none⟩) l.length cap /\ b < w.heap.size /\ ∀ i (h : i < l.length), InsAt w b (off + i * 5) l[i] := by
 rcases h with ⟨_, rfl⟩ | h
 · simp at hl
 · exact h
theorem sameProgram_nil (a1 a2 : Option Addr) (c1 c2 : Nat) (w : World) :
 Calls Tryz.prog 41 #[.slice a1 0 c1, .slice a2 0 c2] w fun e w' => e = .returned (.bool true) /\ Below w.heap.size w w' := by
 go_enter Tryz.func41, Tryz.ntmps41
 go_wp2_with fail
 refine wp_loop_rounds 1 ?_
 rw [rounds_succ]
 go_wp2
 go_ret
 exact ⟨rfl, Below.refl _ _⟩
theorem sameProgram_eq (l : List I5) (va vb : Value) (w : World) (ha : Slc w va l) (hb : Slc w vb l) (hl : l.length < 9223372036854775808) :
 Calls Tryz.prog 41 #[va, vb] w fun e w' => e = .returned (.bool true) /\ Below w.heap.size w w' := by
 by_cases h0 : l.length = 0
 · obtain ⟨a1, c1, rfl⟩ := ha.len
   obtain ⟨a2, c2, rfl⟩ := hb.len
   rw [h0]
   exact sameProgram_nil a1 a2 c1 c2 w
 · obtain ⟨b1, o1, c1, rfl, hb1, hi1⟩ := ha.pos (by omega)
   obtain ⟨b2, o2, c2, rfl, hb2, hi2⟩ := hb.pos (by omega)
   have d1 : ((l.length : Int) != l.length) = false := by simp
   go_enter Tryz.func41, Tryz.ntmps41
   go_wp2_with fail
   go_loopw [5] (fun j wr => ∃ n : Nat, n <= l.length /\ j = .int .i64 n /\ Below w.heap.size w wr) (fun j _ => l.length - (intOf j).toNat)
   case atStart => exact ⟨0, by omega, rfl, Below.refl _ _⟩
   case round =>
    obtain ⟨n, hn, rfl, hbl⟩ := hrel
    by_cases hlt : n < l.length
    · obtain ⟨a0, a1, a2, a3, a4⟩ := (hi1 n hlt).below hbl hb1
      obtain ⟨e0, e1, e2, e3, e4⟩ := (hi2 n hlt).below hbl hb2
      go_wp2_with fail
      go_quiet (fail)
      go_wp2
      exact ⟨⟨n + 1, by omega, by go_num, below_drewN hbl _⟩, by simp [intOf]; omega⟩
    · go_wp2
      go_ret
      exact ⟨rfl, hbl⟩
end Go.Proofs.YtamiichlbmllcabGreatDoor
