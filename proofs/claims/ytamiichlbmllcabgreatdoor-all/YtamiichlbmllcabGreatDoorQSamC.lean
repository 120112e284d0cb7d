import Derived.Test.YtamiichlbmllcabGreatDoorQRpI
import Derived.Test.YtamiichlbmllcabGreatDoorQThrA
import Derived.Test.YtamiichlbmllcabGreatDoorQPrB
import Derived.Test.YtamiichlbmllcabGreatDoorQArmW
set_option maxRecDepth 100000
set_option maxHeartbeats 32000000
namespace Go.Proofs.YtamiichlbmllcabGreatDoor
open Go.RowKit
theorem rf_Prove_err (l : List I5) (e : St) (p q : Int) (hp : (p == 0) = false) (v : Value) (w : World) (H : ∀ w1, Below w.heap.size w w1 -> Calls Tryz.prog 70 #[v, .agg (stC e)] w1 fun r w' => r = .returned (.tuple #[.int .i64 p, .int .i64 q]) /\ Below w1.heap.size w1 w') (hv : ∃ a cap, v = .slice a l.length cap) :
 Calls Tryz.prog 52 #[v, .agg (stC e)] w fun r w' => r = .returned (.tuple #[.slice none 0 0, .int .i64 p, .int .i64 q]) /\ Below w.heap.size w w' := by
 obtain ⟨a, cap, rfl⟩ := hv
 have hk := Kn.nil [] w
 have HH := hide H
 clear H
 go_enter Tryz.func52, Tryz.ntmps52
 go_wp2_with (first | (go_at_call 70; refine (HH.out _ hk.mod.below).mono ?_; rintro x w1 ⟨rfl, hb⟩; replace hk := hk.call hb; clear hb) | ((with_reducible apply gL); (first | refine wS hk ?_ | (refine wN hk ?_; clear hk; intro w1 hk)); simp only [pw]))
 exact post_3 rfl rfl rfl rfl rfl ⟨rfl, hk.mod.below⟩
theorem rf_Prove (l : List I5) (h64 : ∀ i, i < l.length -> I64 (insAt l i).k) (e : St) (he : e.in64) (v : Value) (w : World) (h : Slc w v l) : Calls Tryz.prog 52 #[v, .agg (stC e)] w fun r w' => SProveV l e r w w' := by
 rcases rightR_or l with hr | hr
 · cases hst : isStR e with
   | true =>
     have hne := (right_fit hr).1
     obtain ⟨pb, poff, pcap, rfl, hpb, hI⟩ : ∃ b off cap, v = .slice (some ⟨b, off, none⟩) l.length cap /\ b < w.heap.size /\ ∀ i (h : i < l.length), InsAt w b (off + i * 5) l[i] := by
      rcases h with ⟨_, rfl⟩ | h
      · simp at hne
      · exact h
     refine (rf_Prove_st l hr h64 e he hst pb poff pcap w hpb hI).mono ?_
     rintro r w' ⟨cv, er, pl, cl, rfl, hP, ho, hb⟩
     exact ⟨cv, er, pl, cl, rfl, Or.inr ⟨hr, hP⟩, ho, hb⟩
   | false =>
     refine (rf_Prove_err l e 3 0 rfl v w (fun w1 hb => rf_first_st l e hr false hst v w1 (h.below hb (Nat.le_refl _))) h.len).mono ?_
     rintro r w' ⟨rfl, hb⟩
     exact ⟨_, _, _, [], rfl, Or.inr ⟨hr, Or.inl ⟨hst, rfl, rfl, rfl⟩⟩, World.ownsRow_nil _ _ _ _, hb⟩
 · obtain ⟨p, q, hpq⟩ : ∃ p q, rightR l = (p, q) := ⟨_, _, rfl⟩
   rw [hpq] at hr
   simp only at hr
   subst hr
   refine (rf_Prove_err l e 1 q rfl v w (fun w1 hb => rf_first_no l e 1 q hpq (by decide) v w1 (h.below hb (Nat.le_refl _))) h.len).mono ?_
   rintro r w' ⟨rfl, hb⟩
   exact ⟨_, _, _, [], rfl, Or.inl ⟨by rw [hpq]; simp, rfl, by rw [hpq], by rw [hpq]⟩, World.ownsRow_nil _ _ _ _, hb⟩
theorem ProveP_det {l : List I5} {e : St} {c1 c2 : List C2} {a1 a2 b1 b2 : Int} (h : ProveP l e c1 a1 b1) (k : ProveP l e c2 a2 b2) : c1 = c2 /\ a1 = a2 /\ b1 = b2 := by
 rcases h with ⟨h0, rfl, rfl, rfl⟩ | ⟨h0, vf, hs, h⟩
 · rcases k with ⟨_, rfl, rfl, rfl⟩ | ⟨k0, _⟩
   · exact ⟨rfl, rfl, rfl⟩
   · rw [h0] at k0; cases k0
 · rcases k with ⟨k0, _⟩ | ⟨_, vg, ht, k⟩
   · rw [h0] at k0; cases k0
   · obtain rfl := hs.det ht
     rcases h with ⟨h1, rfl, rfl, rfl⟩ | ⟨h1, rfl, rfl, rfl⟩
     · rcases k with ⟨_, rfl, rfl, rfl⟩ | ⟨k1, _⟩
       · exact ⟨rfl, rfl, rfl⟩
       · exact absurd k1 h1
     · rcases k with ⟨k1, _⟩ | ⟨_, rfl, rfl, rfl⟩
       · exact absurd h1 k1
       · exact ⟨rfl, rfl, rfl⟩
theorem SProveP_det {l : List I5} {e : St} {c1 c2 : List C2} {a1 a2 b1 b2 : Int} (h : SProveP l e c1 a1 b1) (k : SProveP l e c2 a2 b2) : c1 = c2 /\ a1 = a2 /\ b1 = b2 := by
 rcases h with ⟨h0, rfl, rfl, rfl⟩ | ⟨h0, h⟩
 · rcases k with ⟨_, rfl, rfl, rfl⟩ | ⟨k0, _⟩
   · exact ⟨rfl, rfl, rfl⟩
   · exact absurd k0 h0
 · rcases k with ⟨k0, _⟩ | ⟨_, k⟩
   · exact absurd h0 k0
   · exact ProveP_det h k
theorem SProveP_len {l : List I5} {e : St} {cl : List C2} {a b : Int} (h : SProveP l e cl a b) : cl.length <= 64 := by
 rcases h with ⟨_, rfl, _⟩ | ⟨hr, h⟩
 · simp
 · rcases h with ⟨_, rfl, _⟩ | ⟨_, vf, _, h⟩
   · simp
   · rcases h with ⟨_, rfl, _⟩ | ⟨_, rfl, _⟩
     · simp
     · exact Nat.le_trans (clsW_len _ _) (right_fit hr).2.1
theorem neq_cl (ρ : Operand -> Value) (d : Option Tmp) (x y : Operand) (tt : TypeId) (pos : String) (aft : Array Edge) (g : Option (Nat × Bool)) (p : Int) (s : Nat -> R2) (w : World) (hx : ρ x = .agg (clC p s)) (hy : ρ y = .agg (clC p s)) :
 (execOp ρ ⟨d, .binOp .neq 71 x y 71, tt, pos, aft, g⟩).run Tryz.prog w = .ok (.value (.bool false)) w := by
 have hself : eqS s s = true := by unfold eqS; rw [List.all_eq_true]; intro j _; unfold eqR; simp
 unfold execOp
 simp only [hx, hy]
 have := fun w => eqIn_st2 s s w
 unfold stC at this
 unfold clC
 simp [go_sem, this, hself]
section
variable {l : List Oper} {Q : Exit -> Act -> World -> Prop} {F : Nat -> Bool} {S : World -> Prop} {i : Nat} {r : OT} {a : Act} {w : World} {d : Option Tmp} {x y : Operand} {t tt : TypeId} {pos : String} {aft : Array Edge} {g : Option (Nat × Bool)}
theorem sNeqCl {p : Int} {s : Nat -> R2} (hk : S w) (h : wpT Tryz.prog l Q F S r (a.put d (.bool false)) w) (ho : nthO i l = some ⟨d, .binOp .neq 71 x y 71, tt, pos, aft, g⟩ := by rfl) (hw : Region.wanted ⟨d, .binOp .neq 71 x y 71, tt, pos, aft, g⟩ (yielded l.toArray a.tmps) = true := by rfl) (hx : a.eval x = .agg (clC p s) := by rfl) (hy : a.eval y = .agg (clC p s) := by rfl) : wpT Tryz.prog l Q F S (.op i r) a w :=
 tRun ho rfl hw hk (fun wx => neq_cl _ _ _ _ _ _ _ _ p s wx hx hy) h
end
theorem SlcC.row {w : World} {a : Option Addr} {c : Nat} {cl : List C2} (h : SlcC w (.slice a cl.length c) cl) (hp : 0 < cl.length) : ∃ b off, a = some ⟨b, off, none⟩ /\ b < w.heap.size /\ ∀ i, i < cl.length -> w.rangeAt b (off + i * 17) (clC (clAt cl i).pl (clAt cl i).st).toList := by
 rcases h with ⟨_, rfl⟩ | ⟨b, off, cap, e, h1, h2⟩
 · simp at hp
 · simp only [Value.slice.injEq] at e
   exact ⟨b, off, e.1, h1, h2⟩
theorem sameC_any (cl : List C2) (hcl : cl.length < 4000000000000) (a b : Option Addr) (c d : Nat) (w : World) (ha : SlcC w (.slice a cl.length c) cl) (hb : SlcC w (.slice b cl.length d) cl) :
 Calls Tryz.prog 53 #[.slice a cl.length c, .slice b cl.length d] w fun e w' => e = .returned (.bool true) /\ Below w.heap.size w w' := by
 have hk := Kn.nil [] w
 have HA := hide ha
 have HB := hide hb
 clear ha hb
 go_enter Tryz.func53, Tryz.ntmps53
 go_wp2_with ((with_reducible apply gL); (first | refine wS hk ?_ | (refine wN hk ?_; clear hk; intro w1 hk)); simp only [pw])
 go_loopw [5] (fun j wr => ∃ n : Nat, n <= cl.length /\ j = .int .i64 n /\ Kn [] w wr []) (fun j _ => cl.length - (intOf j).toNat)
 case atStart => exact ⟨0, by omega, rfl, hk⟩
 case round =>
  clear hk
  obtain ⟨n, hn, rfl, hk⟩ := hrel
  by_cases hlt : n < cl.length
  · obtain ⟨b1, o1, rfl, hb1, hr1⟩ := HA.out.row (by omega)
    obtain ⟨b2, o2, rfl, hb2, hr2⟩ := HB.out.row (by omega)
    have h1 := hr1 n hlt
    have h2 := hr2 n hlt
    obtain ⟨x, hx⟩ : ∃ x, clAt cl n = x := ⟨_, rfl⟩
    rw [hx] at h1 h2
    clear hx hr1 hr2
    go_wp2_with ((with_reducible apply gL); (first | refine wS hk ?_ | (refine wN hk ?_; clear hk; intro w1 hk)); simp only [pw])
    (refine wp_regK hk (.op 0 (.op 1 (.op 2 (.op 3 (.op 4 (.op 5 (.op 6 (.op 7 (.op 8 .nil))))))))) (fun i => decide (i < 9)) mixT (by decide) (by kernel_rfl) (by kernel_rfl) ?_; clear hk; intro w1 hk)
    (repeat (refine sU hk ?_; simp only [pw]))
    refine sNeqCl hk ?_; simp only [pw]
    refine tNil ?_
    go_wp2_with ((with_reducible apply gL); (first | refine wS hk ?_ | (refine wN hk ?_; clear hk; intro w1 hk)); simp only [pw])
    go_roundw
    case rel => exact ⟨n + 1, by omega, by go_num, hk⟩
    case measure => simp [intOf]; omega
  · go_wp2_with ((with_reducible apply gL); (first | refine wS hk ?_ | (refine wN hk ?_; clear hk; intro w1 hk)); simp only [pw])
    go_ret
    exact ⟨rfl, hk.mod.below⟩
end Go.Proofs.YtamiichlbmllcabGreatDoor
