import Derived.Test.YtamiichlbmllcabGreatDoorQSetW
import Derived.Test.YtamiichlbmllcabGreatDoorQLooksA
import Derived.Test.YtamiichlbmllcabGreatDoorQTrcA
set_option maxRecDepth 100000
set_option maxHeartbeats 32000000
namespace Go.Proofs.YtamiichlbmllcabGreatDoor
open Go.RowKit
theorem own_ty {w : World} {B e size n : Nat} {v : Value} {xs : List Value} (h : w.ownsRow B e size v n xs) : ∀ g, v.ownBlock = some g -> ∃ A, w.heap[g]? = some (.cells A e (0, 0)) := fun g hg => by
 rcases h.2 with ⟨h, _⟩ | ⟨g', cap, cur, h, _, hh, _⟩
 · rw [h] at hg; cases hg
 · rw [h] at hg
   simp [Value.ownBlock] at hg
   subst hg
   exact ⟨cur, hh⟩
theorem Fr.typed {w w' : World} {wb : Nat} {row : Option Nat} {A0 : Array Value} {T : TypeId} (hf : Fr w w' w.heap.size wb row) (hw : w.heap[wb]? = some (.cells A0 50 (0, 0))) (hr : ∀ g, row = some g -> ∃ A, w.heap[g]? = some (.cells A T (0, 0))) : ∀ (k : Nat) (A : Array Value) (t : TypeId), t ≠ 50 -> t ≠ T -> w.heap[k]? = some (.cells A t (0, 0)) -> w'.heap[k]? = w.heap[k]? := fun k A t h1 h2 hA => by
 refine hf.block k (lt_of_block hA) (fun e => ?_) (fun e => ?_)
 · subst e
   rw [hw] at hA
   simp only [Option.some.injEq, Obj.cells.injEq] at hA
   exact h1 hA.2.1.symm
 · obtain ⟨A2, hA2⟩ := hr k e.symm
   rw [hA2] at hA
   simp only [Option.some.injEq, Obj.cells.injEq] at hA
   exact h2 hA.2.1.symm
theorem DList.typed {w w' : World} {B st et size : Nat} {X : Nat -> List Value} {v : Value} {xs : List Value} (h : DList w B st et size X v xs) (hb : ∀ (k : Nat) (A : Array Value) (t : TypeId), t = st \/ t = et -> w.heap[k]? = some (.cells A t (0, 0)) -> w'.heap[k]? = w.heap[k]?) : DList w' B st et size X v xs := by
 obtain ⟨h1, h2, h3⟩ := h
 refine ⟨own_block h1 (fun k _ ⟨A, hA⟩ => hb k A st (Or.inl rfl) hA), h2, fun k hk => ?_⟩
 obtain ⟨m, hm, ho⟩ := h3 k hk
 exact ⟨m, hm, own_block ho (fun b _ ⟨A, hA⟩ => hb b A et (Or.inr rfl) hA)⟩
structure Held (w : World) (wb n : Nat) (lv vi vv vd : Value) (ts : List TRec) (xi xv xc : List Value) : Prop where
 row : At w wb #[lv, vi, vv, vd] 50
 thr : TInv w wb lv ts
 ins : DList w wb 36 35 5 markC vi xi
 vis : DList w wb 67 69 9 markV vv xv
 cls : DList w wb 51 71 17 markL vd xc
 nt : ts.length <= n
 ni : xi.length <= 4 * n
 nv : xv.length <= 4 * n
 nc : xc.length <= 4 * n
def WAll (w : World) (wb n : Nat) : Prop := ∃ lv vi vv vd ts xi xv xc, Held w wb n lv vi vv vd ts xi xv xc
theorem Held.below {w w' : World} {wb n : Nat} {lv vi vv vd : Value} {ts : List TRec} {xi xv xc : List Value} (h : Held w wb n lv vi vv vd ts xi xv xc) (hb : Below w.heap.size w w') : Held w' wb n lv vi vv vd ts xi xv xc := ⟨h.row.of (hb.block wb (lt_of_block h.row)), h.thr.below hb, h.ins.below hb, h.vis.below hb, h.cls.below hb, h.nt, h.ni, h.nv, h.nc⟩
theorem Held.all {w : World} {wb n : Nat} {lv vi vv vd : Value} {ts : List TRec} {xi xv xc : List Value} (h : Held w wb n lv vi vv vd ts xi xv xc) : WAll w wb (n + 1) := ⟨lv, vi, vv, vd, ts, xi, xv, xc, h.row, h.thr, h.ins, h.vis, h.cls, by have := h.nt; omega, by have := h.ni; omega, by have := h.nv; omega, by have := h.nc; omega⟩
theorem Held.putI {w w1 : World} {wb n : Nat} {lv vi vv vd : Value} {ts : List TRec} {xi xv xc : List Value} (h : Held w wb n lv vi vv vd ts xi xv xc) {v' : Value} {x' : List Value} (hx : x'.length = xi.length + 4) (hr : w1.heap[wb]? = some (.cells #[lv, v', vv, vd] 50 (0, 0))) (hd : DList w1 wb 36 35 5 markC v' x') (hf : Fr w w1 w.heap.size wb vi.ownBlock) : WAll w1 wb (n + 1) /\ Below wb w w1 := by
 have hwl := lt_of_block h.row
 refine ⟨⟨lv, v', vv, vd, ts, x', xv, xc, hr, h.thr.keep hf.size (fun k A t ht hA => hf.typed h.row (own_ty h.ins.1) k A t (by rcases ht with rfl | rfl | rfl | rfl <;> decide) (by rcases ht with rfl | rfl | rfl | rfl <;> decide) hA), hd, h.vis.typed (fun k A t ht hA => hf.typed h.row (own_ty h.ins.1) k A t (by rcases ht with rfl | rfl <;> decide) (by rcases ht with rfl | rfl <;> decide) hA), h.cls.typed (fun k A t ht hA => hf.typed h.row (own_ty h.ins.1) k A t (by rcases ht with rfl | rfl <;> decide) (by rcases ht with rfl | rfl <;> decide) hA), by have := h.nt; omega, by have := h.ni; omega, by have := h.nv; omega, by have := h.nc; omega⟩, hf.belowB (by omega) (Nat.le_refl _) (fun k hk => (World.ownsRow.lt h.ins.1 k hk).1)⟩
theorem Held.putV {w w1 : World} {wb n : Nat} {lv vi vv vd : Value} {ts : List TRec} {xi xv xc : List Value} (h : Held w wb n lv vi vv vd ts xi xv xc) {v' : Value} {x' : List Value} (hx : x'.length = xv.length + 4) (hr : w1.heap[wb]? = some (.cells #[lv, vi, v', vd] 50 (0, 0))) (hd : DList w1 wb 67 69 9 markV v' x') (hf : Fr w w1 w.heap.size wb vv.ownBlock) : WAll w1 wb (n + 1) /\ Below wb w w1 := by
 have hwl := lt_of_block h.row
 refine ⟨⟨lv, vi, v', vd, ts, xi, x', xc, hr, h.thr.keep hf.size (fun k A t ht hA => hf.typed h.row (own_ty h.vis.1) k A t (by rcases ht with rfl | rfl | rfl | rfl <;> decide) (by rcases ht with rfl | rfl | rfl | rfl <;> decide) hA), h.ins.typed (fun k A t ht hA => hf.typed h.row (own_ty h.vis.1) k A t (by rcases ht with rfl | rfl <;> decide) (by rcases ht with rfl | rfl <;> decide) hA), hd, h.cls.typed (fun k A t ht hA => hf.typed h.row (own_ty h.vis.1) k A t (by rcases ht with rfl | rfl <;> decide) (by rcases ht with rfl | rfl <;> decide) hA), by have := h.nt; omega, by have := h.ni; omega, by have := h.nv; omega, by have := h.nc; omega⟩, hf.belowB (by omega) (Nat.le_refl _) (fun k hk => (World.ownsRow.lt h.vis.1 k hk).1)⟩
theorem Held.putC {w w1 : World} {wb n : Nat} {lv vi vv vd : Value} {ts : List TRec} {xi xv xc : List Value} (h : Held w wb n lv vi vv vd ts xi xv xc) {v' : Value} {x' : List Value} (hx : x'.length = xc.length + 4) (hr : w1.heap[wb]? = some (.cells #[lv, vi, vv, v'] 50 (0, 0))) (hd : DList w1 wb 51 71 17 markL v' x') (hf : Fr w w1 w.heap.size wb vd.ownBlock) : WAll w1 wb (n + 1) /\ Below wb w w1 := by
 have hwl := lt_of_block h.row
 refine ⟨⟨lv, vi, vv, v', ts, xi, xv, x', hr, h.thr.keep hf.size (fun k A t ht hA => hf.typed h.row (own_ty h.cls.1) k A t (by rcases ht with rfl | rfl | rfl | rfl <;> decide) (by rcases ht with rfl | rfl | rfl | rfl <;> decide) hA), h.ins.typed (fun k A t ht hA => hf.typed h.row (own_ty h.cls.1) k A t (by rcases ht with rfl | rfl <;> decide) (by rcases ht with rfl | rfl <;> decide) hA), h.vis.typed (fun k A t ht hA => hf.typed h.row (own_ty h.cls.1) k A t (by rcases ht with rfl | rfl <;> decide) (by rcases ht with rfl | rfl <;> decide) hA), hd, by have := h.nt; omega, by have := h.ni; omega, by have := h.nv; omega, by have := h.nc; omega⟩, hf.belowB (by omega) (Nat.le_refl _) (fun k hk => (World.ownsRow.lt h.cls.1 k hk).1)⟩
theorem Held.putT {w w1 : World} {wb n : Nat} {lv vi vv vd : Value} {ts : List TRec} {xi xv xc : List Value} (h : Held w wb n lv vi vv vd ts xi xv xc) (hc : CompP wb wb lv vi vv vd ts w w1) : WAll w1 wb (n + 1) /\ Below wb w w1 := by
 have hwl := lt_of_block h.row
 obtain ⟨lv', ts', _, h2, hr, hT, hf⟩ := hc
 refine ⟨⟨lv', vi, vv, vd, ts', xi, xv, xc, hr, hT, h.ins.typed (fun k A t ht hA => hf.typed h.row (own_ty h.thr.1) k A t (by rcases ht with rfl | rfl <;> decide) (by rcases ht with rfl | rfl <;> decide) hA), h.vis.typed (fun k A t ht hA => hf.typed h.row (own_ty h.thr.1) k A t (by rcases ht with rfl | rfl <;> decide) (by rcases ht with rfl | rfl <;> decide) hA), h.cls.typed (fun k A t ht hA => hf.typed h.row (own_ty h.thr.1) k A t (by rcases ht with rfl | rfl <;> decide) (by rcases ht with rfl | rfl <;> decide) hA), by have := h.nt; omega, by have := h.ni; omega, by have := h.nv; omega, by have := h.nc; omega⟩, hf.belowB (by omega) (Nat.le_refl _) (fun k hk => (World.ownsRow.lt h.thr.1 k hk).1)⟩
def eSt (s : St) : Nat -> Value := fun j => (stC s).getD j undef
theorem opC_cells (k on fu pv sv : Value) (s : St) (cv : Value) (r : Nat -> Value) : opC k on fu pv sv s cv r = opCells k on fu pv sv (eSt s) cv r := rfl
theorem step_1 (o : OpX) (hk1 : o.k = 1) (wb n : Nat) (w : World) (hs : Shapes w) (ho : o.ok w) (h : WAll w wb n) (_hn : n < 600000000000) :
 Calls Tryz.prog 8 #[.pointer (some ⟨wb, 0, none⟩), .agg o.arr] w fun x w' => x = .returned (.bool true) /\ WAll w' wb (n + 1) /\ Below wb w w' := by
 obtain ⟨lv, vi, vv, vd, ts, xi, xv, xc, h⟩ := h
 obtain ⟨k, on, f, pv, p, s, e, cv, cl, rg⟩ := o
 simp only at hk1
 subst hk1
 unfold OpX.arr
 simp only
 have hk := Kn.nil [] w
 have HS := hide hs
 have HO := hide ho
 have HH := hide h
 have hwl := lt_of_block h.row
 clear hs ho h
 go_enter Tryz.func8, Tryz.ntmps8
 go_wp2_with (first | (refine wLoad1 hk ?_ (hv := op_0 _ _ _ _ _ _ _ _); simp only [pw]) | (refine wLoadRY rOp hk ?_ (hc := ex_all _ _ _ _ _ _ _ _); simp only [pw]) | ((with_reducible apply gL); (first | refine wS hk ?_ | (refine wN hk ?_; clear hk; intro w1 hk)); simp only [pw]))
 go_at_call 15
 have hb := hk.mod.below
 have hH := HH.out.below hb
 have hO := HO.out.below hb (Nat.le_refl _)
 have hz := hb.size
 rw [opC_cells]
 refine (righted_any p _ _ _ pv _ cv _ _ _ (HS.out.below hb HS.out.1) hO.arg hO.len).mono ?_
 rintro x w2 ⟨rfl, hb2⟩
 replace hk := hk.call hb2
 clear hb hb2 hH hO
 go_wp2_with ((with_reducible apply gL); (first | refine wS hk ?_ | (refine wN hk ?_; clear hk; intro w1 hk)); simp only [pw])
 go_ret
 exact ⟨rfl, (HH.out.below hk.mod.below).all, hk.mod.below.mono (by omega)⟩
theorem step_2 (o : OpX) (hk2 : o.k = 2) (wb n : Nat) (w : World) (hs : Shapes w) (ho : o.ok w) (h : WAll w wb n) (hn : n < 600000000000) :
 Calls Tryz.prog 8 #[.pointer (some ⟨wb, 0, none⟩), .agg o.arr] w fun x w' => x = .returned (.bool true) /\ WAll w' wb (n + 1) /\ Below wb w w' := by
 obtain ⟨lv, vi, vv, vd, ts, xi, xv, xc, h⟩ := h
 obtain ⟨k, on, f, pv, p, s, e, cv, cl, rg⟩ := o
 simp only at hk2
 subst hk2
 unfold OpX.arr
 simp only
 have hk := Kn.nil [] w
 have HS := hide hs
 have HO := hide ho
 have HH := hide h
 have hwl := lt_of_block h.row
 clear hs ho h
 go_enter Tryz.func8, Tryz.ntmps8
 go_wp2_with (first | (refine wLoad1 hk ?_ (hv := op_0 _ _ _ _ _ _ _ _); simp only [pw]) | (refine wLoadRY rOp hk ?_ (hc := ex_all _ _ _ _ _ _ _ _); simp only [pw]) | ((with_reducible apply gL); (first | refine wS hk ?_ | (refine wN hk ?_; clear hk; intro w1 hk)); simp only [pw]))
 go_at_call 16
 have hb := hk.mod.below
 have hH := HH.out.below hb
 have hO := HO.out.below hb (Nat.le_refl _)
 have hz := hb.size
 rw [opC_cells]
 refine (decoded_all s wb wb lv vi vv vd xi _ _ _ pv cv _ _ _ (HS.out.below hb HS.out.1) hH.row hH.ins (by omega) (by have := HH.out.ni; omega)).mono ?_
 rintro x w2 ⟨rfl, v', x', hx, hr, hd, hf⟩
 have hres := hH.putI hx hr hd hf
 have HR : Hid (WAll w2 wb (n + 1) /\ Below wb w w2) := hide ⟨hres.1, (hb.mono (by omega)).trans hres.2⟩
 clear hb hH hO hk hres
 have hk := Kn.nil [] w2
 go_wp2_with ((with_reducible apply gL); (first | refine wS hk ?_ | (refine wN hk ?_; clear hk; intro w1 hk)); simp only [pw])
 go_ret
 exact ⟨rfl, HR.out⟩
theorem step_3 (o : OpX) (hk3 : o.k = 3) (wb n : Nat) (w : World) (hs : Shapes w) (ho : o.ok w) (h : WAll w wb n) (_hn : n < 600000000000) :
 Calls Tryz.prog 8 #[.pointer (some ⟨wb, 0, none⟩), .agg o.arr] w fun x w' => x = .returned (.bool true) /\ WAll w' wb (n + 1) /\ Below wb w w' := by
 obtain ⟨lv, vi, vv, vd, ts, xi, xv, xc, h⟩ := h
 obtain ⟨k, on, f, pv, p, s, e, cv, cl, rg⟩ := o
 simp only at hk3
 subst hk3
 unfold OpX.arr
 simp only
 have hk := Kn.nil [] w
 have HS := hide hs
 have HO := hide ho
 have HH := hide h
 have hwl := lt_of_block h.row
 clear hs ho h
 go_enter Tryz.func8, Tryz.ntmps8
 go_wp2_with (first | (refine wLoad1 hk ?_ (hv := op_0 _ _ _ _ _ _ _ _); simp only [pw]) | (refine wLoadRY rOp hk ?_ (hc := ex_all _ _ _ _ _ _ _ _); simp only [pw]) | ((with_reducible apply gL); (first | refine wS hk ?_ | (refine wN hk ?_; clear hk; intro w1 hk)); simp only [pw]))
 go_at_call 17
 have hb := hk.mod.below
 have hH := HH.out.below hb
 have hO := HO.out.below hb (Nat.le_refl _)
 have hz := hb.size
 rw [opC_cells]
 refine (ran_any p _ _ pv _ cv f _ rg _ (HS.out.below hb HS.out.1) hO.arg hO.len).mono ?_
 rintro x w2 ⟨rfl, hb2⟩
 replace hk := hk.call hb2
 clear hb hb2 hH hO
 go_wp2_with ((with_reducible apply gL); (first | refine wS hk ?_ | (refine wN hk ?_; clear hk; intro w1 hk)); simp only [pw])
 go_ret
 exact ⟨rfl, (HH.out.below hk.mod.below).all, hk.mod.below.mono (by omega)⟩
theorem step_4 (o : OpX) (hk4 : o.k = 4) (wb n : Nat) (w : World) (hs : Shapes w) (ho : o.ok w) (h : WAll w wb n) (hn : n < 600000000000) :
 Calls Tryz.prog 8 #[.pointer (some ⟨wb, 0, none⟩), .agg o.arr] w fun x w' => x = .returned (.bool true) /\ WAll w' wb (n + 1) /\ Below wb w w' := by
 obtain ⟨lv, vi, vv, vd, ts, xi, xv, xc, h⟩ := h
 obtain ⟨k, on, f, pv, p, s, e, cv, cl, rg⟩ := o
 simp only at hk4
 subst hk4
 unfold OpX.arr
 simp only
 have hk := Kn.nil [] w
 have HS := hide hs
 have HO := hide ho
 have HH := hide h
 have hwl := lt_of_block h.row
 clear hs ho h
 go_enter Tryz.func8, Tryz.ntmps8
 go_wp2_with (first | (refine wLoad1 hk ?_ (hv := op_0 _ _ _ _ _ _ _ _); simp only [pw]) | (refine wLoadRY rOp hk ?_ (hc := ex_all _ _ _ _ _ _ _ _); simp only [pw]) | ((with_reducible apply gL); (first | refine wS hk ?_ | (refine wN hk ?_; clear hk; intro w1 hk)); simp only [pw]))
 go_at_call 18
 have hb := hk.mod.below
 have hH := HH.out.below hb
 have hO := HO.out.below hb (Nat.le_refl _)
 have hz := hb.size
 rw [opC_cells]
 refine (traced_all p wb wb lv vi vv vd xv _ _ pv _ cv f _ rg _ (HS.out.below hb HS.out.1) hO.arg hO.len hH.row hH.vis (by omega) (by have := HH.out.nv; omega)).mono ?_
 rintro x w2 ⟨rfl, v', x', hx, hr, hd, hf⟩
 have hres := hH.putV hx hr hd hf
 have HR : Hid (WAll w2 wb (n + 1) /\ Below wb w w2) := hide ⟨hres.1, (hb.mono (by omega)).trans hres.2⟩
 clear hb hH hO hk hres
 have hk := Kn.nil [] w2
 go_wp2_with ((with_reducible apply gL); (first | refine wS hk ?_ | (refine wN hk ?_; clear hk; intro w1 hk)); simp only [pw])
 go_ret
 exact ⟨rfl, HR.out⟩
theorem step_5 (o : OpX) (hk5 : o.k = 5) (wb n : Nat) (w : World) (hs : Shapes w) (ho : o.ok w) (h : WAll w wb n) (_hn : n < 600000000000) :
 Calls Tryz.prog 8 #[.pointer (some ⟨wb, 0, none⟩), .agg o.arr] w fun x w' => x = .returned (.bool true) /\ WAll w' wb (n + 1) /\ Below wb w w' := by
 obtain ⟨lv, vi, vv, vd, ts, xi, xv, xc, h⟩ := h
 obtain ⟨k, on, f, pv, p, s, e, cv, cl, rg⟩ := o
 simp only at hk5
 subst hk5
 unfold OpX.arr
 simp only
 have hk := Kn.nil [] w
 have HS := hide hs
 have HO := hide ho
 have HH := hide h
 have hwl := lt_of_block h.row
 clear hs ho h
 go_enter Tryz.func8, Tryz.ntmps8
 go_wp2_with (first | (refine wLoad1 hk ?_ (hv := op_0 _ _ _ _ _ _ _ _); simp only [pw]) | (refine wLoadRY rOp hk ?_ (hc := ex_all _ _ _ _ _ _ _ _); simp only [pw]) | ((with_reducible apply gL); (first | refine wS hk ?_ | (refine wN hk ?_; clear hk; intro w1 hk)); simp only [pw]))
 go_at_call 19
 have hb := hk.mod.below
 have hH := HH.out.below hb
 have hO := HO.out.below hb (Nat.le_refl _)
 have hz := hb.size
 refine (checked_any p e cl hO.in64 _ _ _ _ _ pv cv _ (HS.out.below hb HS.out.1) hO.arg hO.len hO.argC hO.lenC).mono ?_
 rintro x w2 ⟨rfl, hb2⟩
 replace hk := hk.call hb2
 clear hb hb2 hH hO
 go_wp2_with ((with_reducible apply gL); (first | refine wS hk ?_ | (refine wN hk ?_; clear hk; intro w1 hk)); simp only [pw])
 go_ret
 exact ⟨rfl, (HH.out.below hk.mod.below).all, hk.mod.below.mono (by omega)⟩
theorem step_6 (o : OpX) (hk6 : o.k = 6) (wb n : Nat) (w : World) (hs : Shapes w) (ho : o.ok w) (h : WAll w wb n) (hn : n < 600000000000) :
 Calls Tryz.prog 8 #[.pointer (some ⟨wb, 0, none⟩), .agg o.arr] w fun x w' => x = .returned (.bool true) /\ WAll w' wb (n + 1) /\ Below wb w w' := by
 obtain ⟨lv, vi, vv, vd, ts, xi, xv, xc, h⟩ := h
 obtain ⟨k, on, f, pv, p, s, e, cv, cl, rg⟩ := o
 simp only at hk6
 subst hk6
 unfold OpX.arr
 simp only
 have hk := Kn.nil [] w
 have HS := hide hs
 have HO := hide ho
 have HH := hide h
 have hwl := lt_of_block h.row
 clear hs ho h
 go_enter Tryz.func8, Tryz.ntmps8
 go_wp2_with (first | (refine wLoad1 hk ?_ (hv := op_0 _ _ _ _ _ _ _ _); simp only [pw]) | (refine wLoadRY rOp hk ?_ (hc := ex_all _ _ _ _ _ _ _ _); simp only [pw]) | ((with_reducible apply gL); (first | refine wS hk ?_ | (refine wN hk ?_; clear hk; intro w1 hk)); simp only [pw]))
 go_at_call 20
 have hb := hk.mod.below
 have hH := HH.out.below hb
 have hO := HO.out.below hb (Nat.le_refl _)
 have hz := hb.size
 refine (proved_any p e hO.in64.k hO.in64.e _ _ _ _ _ pv cv wb wb lv vi vv vd xc _ (HS.out.below hb HS.out.1) hO.arg hO.len hH.row hH.cls (by omega) (by have := HH.out.nc; omega)).mono ?_
 rintro x w2 ⟨rfl, v', x', hx, hr, hd, hf⟩
 have hres := hH.putC hx hr hd hf
 have HR : Hid (WAll w2 wb (n + 1) /\ Below wb w w2) := hide ⟨hres.1, (hb.mono (by omega)).trans hres.2⟩
 clear hb hH hO hk hres
 have hk := Kn.nil [] w2
 go_wp2_with ((with_reducible apply gL); (first | refine wS hk ?_ | (refine wN hk ?_; clear hk; intro w1 hk)); simp only [pw])
 go_ret
 exact ⟨rfl, HR.out⟩
theorem step_7 (o : OpX) (hk7 : o.k = 7) (wb n : Nat) (w : World) (hs : Shapes w) (ho : o.ok w) (h : WAll w wb n) (hn : n < 600000000000) :
 Calls Tryz.prog 8 #[.pointer (some ⟨wb, 0, none⟩), .agg o.arr] w fun x w' => x = .returned (.bool true) /\ WAll w' wb (n + 1) /\ Below wb w w' := by
 obtain ⟨lv, vi, vv, vd, ts, xi, xv, xc, h⟩ := h
 obtain ⟨k, on, f, pv, p, s, e, cv, cl, rg⟩ := o
 simp only at hk7
 subst hk7
 unfold OpX.arr
 simp only
 have hk := Kn.nil [] w
 have HS := hide hs
 have HO := hide ho
 have HH := hide h
 have hwl := lt_of_block h.row
 clear hs ho h
 go_enter Tryz.func8, Tryz.ntmps8
 go_wp2_with (first | (refine wLoad1 hk ?_ (hv := op_0 _ _ _ _ _ _ _ _); simp only [pw]) | (refine wLoadRY rOp hk ?_ (hc := ex_all _ _ _ _ _ _ _ _); simp only [pw]) | ((with_reducible apply gL); (first | refine wS hk ?_ | (refine wN hk ?_; clear hk; intro w1 hk)); simp only [pw]))
 go_at_call 21
 have hb := hk.mod.below
 have hH := HH.out.below hb
 have hO := HO.out.below hb (Nat.le_refl _)
 have hz := hb.size
 refine (compiled_any p e cl hO.in64 _ _ _ _ _ pv cv wb wb lv vi vv vd ts _ (HS.out.below hb HS.out.1) hO.arg hO.len hO.argC hO.lenC hH.row hH.thr (by omega) (by have := HH.out.nt; omega)).mono ?_
 rintro x w2 ⟨rfl, hc⟩
 have hres := hH.putT hc
 have HR : Hid (WAll w2 wb (n + 1) /\ Below wb w w2) := hide ⟨hres.1, (hb.mono (by omega)).trans hres.2⟩
 clear hb hH hO hk hres
 have hk := Kn.nil [] w2
 go_wp2_with ((with_reducible apply gL); (first | refine wS hk ?_ | (refine wN hk ?_; clear hk; intro w1 hk)); simp only [pw])
 go_ret
 exact ⟨rfl, HR.out⟩
theorem step_8 (o : OpX) (hk8 : o.k = 8) (wb n : Nat) (w : World) (hs : Shapes w) (ho : o.ok w) (h : WAll w wb n) (hn : n < 600000000000) :
 Calls Tryz.prog 8 #[.pointer (some ⟨wb, 0, none⟩), .agg o.arr] w fun x w' => x = .returned (.bool true) /\ WAll w' wb (n + 1) /\ Below wb w w' := by
 obtain ⟨lv, vi, vv, vd, ts, xi, xv, xc, h⟩ := h
 obtain ⟨k, on, f, pv, p, s, e, cv, cl, rg⟩ := o
 simp only at hk8
 subst hk8
 unfold OpX.arr
 simp only
 have hk := Kn.nil [] w
 have HS := hide hs
 have HO := hide ho
 have HH := hide h
 have hwl := lt_of_block h.row
 clear hs ho h
 go_enter Tryz.func8, Tryz.ntmps8
 go_wp2_with (first | (refine wLoad1 hk ?_ (hv := op_0 _ _ _ _ _ _ _ _); simp only [pw]) | (refine wLoadRY rOp hk ?_ (hc := ex_all _ _ _ _ _ _ _ _); simp only [pw]) | ((with_reducible apply gL); (first | refine wS hk ?_ | (refine wN hk ?_; clear hk; intro w1 hk)); simp only [pw]))
 go_at_call 22
 have hb := hk.mod.below
 have hH := HH.out.below hb
 have hO := HO.out.below hb (Nat.le_refl _)
 have hz := hb.size
 refine (threaded_any rg f on hO.on64 _ _ pv cv e wb wb lv vi vv vd ts _ hH.row hH.thr (by have := HH.out.nt; omega)).mono ?_
 rintro x w2 ⟨rfl, hb2⟩
 replace hk := hk.call hb2
 clear hb hb2 hH hO
 go_wp2_with ((with_reducible apply gL); (first | refine wS hk ?_ | (refine wN hk ?_; clear hk; intro w1 hk)); simp only [pw])
 go_ret
 exact ⟨rfl, (HH.out.below hk.mod.below).all, hk.mod.below.mono (by omega)⟩
theorem step_all (o : OpX) (h1 : ¬ o.k < 1) (h8 : ¬ 8 < o.k) (wb n : Nat) (w : World) (hs : Shapes w) (ho : o.ok w) (h : WAll w wb n) (hn : n < 600000000000) :
 Calls Tryz.prog 8 #[.pointer (some ⟨wb, 0, none⟩), .agg o.arr] w fun x w' => x = .returned (.bool true) /\ WAll w' wb (n + 1) /\ Below wb w w' := by
 have : o.k = 1 \/ o.k = 2 \/ o.k = 3 \/ o.k = 4 \/ o.k = 5 \/ o.k = 6 \/ o.k = 7 \/ o.k = 8 := by omega
 rcases this with h | h | h | h | h | h | h | h
 · exact step_1 o h wb n w hs ho (by assumption) hn
 · exact step_2 o h wb n w hs ho (by assumption) hn
 · exact step_3 o h wb n w hs ho (by assumption) hn
 · exact step_4 o h wb n w hs ho (by assumption) hn
 · exact step_5 o h wb n w hs ho (by assumption) hn
 · exact step_6 o h wb n w hs ho (by assumption) hn
 · exact step_7 o h wb n w hs ho (by assumption) hn
 · exact step_8 o h wb n w hs ho (by assumption) hn
theorem dl_new (w : World) (B st et size : Nat) (X : Nat -> List Value) : DList w B st et size X (.slice none 0 0) [] := ⟨World.ownsRow_nil _ _ _ _, rfl, fun k h => by simp at h⟩
theorem wall_below {w w' : World} {wb n : Nat} (h : WAll w wb n) (hb : Below w.heap.size w w') : WAll w' wb n := by
 obtain ⟨lv, vi, vv, vd, ts, xi, xv, xc, h⟩ := h
 exact ⟨lv, vi, vv, vd, ts, xi, xv, xc, h.below hb⟩
theorem wall_next {w : World} {wb n : Nat} (h : WAll w wb n) : WAll w wb (n + 1) := by
 obtain ⟨lv, vi, vv, vd, ts, xi, xv, xc, h⟩ := h
 exact h.all
theorem plays_all (l : List OpX) (b off cap : Nat) (w : World) (hs : Shapes w) (hb : b < w.heap.size) (hl : l.length < 600000000000) (hi : ∀ i (h : i < l.length), w.rangeAt b (off + i * 30) l[i].arr.toList /\ l[i].ok w) :
 Calls Tryz.prog 5 #[.slice (some ⟨b, off, none⟩) l.length cap, .int .i64 1, .int .i64 8] w fun e w' => e = .returned (.bool true) /\ Below w.heap.size w w' := by
 have HI := hide hi
 have HS := hide hs
 clear hi hs
 have hk := Kn.nil [] w
 go_enter Tryz.func5, Tryz.ntmps5
 go_wp2_with (first | (refine wBuild hk ?_ (hb := build_wd0 _); simp only [pw]) | ((with_reducible apply gL); (first | refine wS hk ?_ | (refine wN hk ?_; clear hk; intro w1 hk)); simp only [pw]))
 have hrow := hk.at (A := #[.slice none 0 0, .slice none 0 0, .slice none 0 0, .slice none 0 0]) (t := 50) mm
 have hbl0 := hk.mod.below
 clear hk
 go_loopw [8] (fun j wr => ∃ n : Nat, n <= l.length /\ j = .int .i64 n /\ WAll wr w.heap.size n /\ Below w.heap.size w wr) (fun j _ => l.length - (intOf j).toNat)
 case atStart => exact ⟨0, by omega, rfl, ⟨.slice none 0 0, .slice none 0 0, .slice none 0 0, .slice none 0 0, [], [], [], [], hrow, ⟨World.ownsRow_nil _ _ _ _, fun x hx => by simp at hx⟩, dl_new _ _ _ _ _ _, dl_new _ _ _ _ _ _, dl_new _ _ _ _ _ _, by simp, by simp, by simp, by simp⟩, hbl0⟩
 case round =>
  clear hrow hbl0
  obtain ⟨n, hn, rfl, hA, hbl⟩ := hrel
  have HBL := hide hbl
  have HA := hide hA
  have hk := Kn.nil [] wr
  by_cases hlt : n < l.length
  · obtain ⟨hc, hok⟩ := HI.out n hlt
    obtain ⟨o, ho⟩ : ∃ o, o = l[n] := ⟨_, rfl⟩
    rw [<- ho] at hc hok
    have hbr : b < wr.heap.size := Nat.lt_of_lt_of_le hb hbl.size
    have HC : Hid (wr.rangeAt b (off + n * 30) o.arr.toList) := hide fun f u hf => by rw [hbl.cell (p := ⟨b, _, none⟩) hb]; exact hc f u hf
    have HOK := hide (hok.below hbl (Nat.le_refl _))
    have q0 : wr.cell? ⟨b, off + n * 30, none⟩ = some (.int .i64 o.k) := HC.out 0 _ rfl
    have HBR := hide hbr
    clear hc hok ho hA hbl hbr
    by_cases h12 : ¬ o.k < 1 /\ ¬ 8 < o.k
    · have HK := hide h12
      have hk1 : decide (o.k < 1) = false := by rw [decide_eq_false_iff_not]; exact h12.1
      have hk2 : decide (8 < o.k) = false := by rw [decide_eq_false_iff_not]; exact h12.2
      clear h12
      go_wp2_with (first | (refine wOldGY rOp hk ?_ HC.out HBR.out List.not_mem_nil; simp only [pw]) | ((with_reducible apply gL); (first | (refine wS hk ?_; simp only [pw]; (try rw [hk1]); (try rw [hk2])) | (refine wN hk ?_; clear hk; intro w1 hk; simp only [pw]))))
      go_at_call 8
      refine (step_all o (by have := HK.out; omega) (by have := HK.out; omega) w.heap.size n wr (HS.out.below HBL.out HS.out.1) HOK.out HA.out (by omega)).mono ?_
      rintro x w2 ⟨rfl, hA2, hb2⟩
      have HB2 := hide (HBL.out.trans hb2)
      have HA2 := hide hA2
      obtain ⟨lv, vi, vv, vd, ts, xi, xv, xc, hh⟩ := hA2
      have HH := hide hh
      clear hh hb2 hk q0
      have hk := Kn.nil [] w2
      go_wp2_with ((with_reducible apply gL); (first | refine wS hk ?_ | (refine wN hk ?_; clear hk; intro w1 hk)); simp only [pw])
      go_at_call 9
      have hh := HH.out.below hk.mod.below
      refine (looks_all w.heap.size w.heap.size lv vi vv vd xi xv xc _ hh.row hh.ins hh.vis hh.cls (by have := hh.ni; omega) (by have := hh.nv; omega) (by have := hh.nc; omega)).mono ?_
      rintro x w3 ⟨rfl, hb3⟩
      replace hk := hk.call hb3
      clear hb3 hh
      go_wp2_with ((with_reducible apply gL); (first | refine wS hk ?_ | (refine wN hk ?_; clear hk; intro w1 hk)); simp only [pw])
      go_roundw
      case rel => exact ⟨n + 1, by omega, by go_num, wall_below HA2.out hk.mod.below, HB2.out.trans (hk.mod.below.mono HB2.out.size)⟩
      case measure => simp [intOf]; omega
    · by_cases h1 : o.k < 1
      · have hk1 : decide (o.k < 1) = true := by rw [decide_eq_true_eq]; exact h1
        clear h12
        go_wp2_with ((with_reducible apply gL); (first | (refine wS hk ?_; simp only [pw]; (try rw [hk1])) | (refine wN hk ?_; clear hk; intro w1 hk; simp only [pw])))
        go_roundw
        case rel => exact ⟨n + 1, by omega, by go_num, wall_next (wall_below HA.out hk.mod.below), HBL.out.trans (hk.mod.below.mono HBL.out.size)⟩
        case measure => simp [intOf]; omega
      · have hk1 : decide (o.k < 1) = false := by rw [decide_eq_false_iff_not]; exact h1
        have hk2 : decide (8 < o.k) = true := by rw [decide_eq_true_eq]; omega
        clear h12
        go_wp2_with ((with_reducible apply gL); (first | (refine wS hk ?_; simp only [pw]; (try rw [hk1]); (try rw [hk2])) | (refine wN hk ?_; clear hk; intro w1 hk; simp only [pw])))
        go_roundw
        case rel => exact ⟨n + 1, by omega, by go_num, wall_next (wall_below HA.out hk.mod.below), HBL.out.trans (hk.mod.below.mono HBL.out.size)⟩
        case measure => simp [intOf]; omega
  · go_wp2_with ((with_reducible apply gL); (first | refine wS hk ?_ | (refine wN hk ?_; clear hk; intro w1 hk)); simp only [pw])
    go_ret
    exact ⟨rfl, HBL.out.trans (hk.mod.below.mono HBL.out.size)⟩
theorem lawAll_any (l : List OpX) (v : Value) (w : World) (hs : Shapes w) (h : ScrX w v l) (hl : l.length < 600000000000) :
 Calls Tryz.prog 3 #[v] w fun e w' => e = .returned (.bool true) /\ Below w.heap.size w w' := by
 have HP : Hid (∀ wx, Below w.heap.size w wx -> Calls Tryz.prog 5 #[v, .int .i64 1, .int .i64 8] wx fun e w' => e = .returned (.bool true) /\ Below wx.heap.size wx w') := hide (by
  intro wx hb
  rcases h.below hb with ⟨⟨a, cap, rfl⟩, rfl⟩ | ⟨b, off, cap, rfl, hb', hi⟩
  · exact plays_none a cap 1 8 wx
  · exact plays_all l b off cap wx (hs.below hb hs.1) hb' hl hi)
 have HS := hide hs
 clear hs h
 have hk := Kn.nil [] w
 go_enter Tryz.func3, Tryz.ntmps3
 go_wp2_with (first | (go_at_call 4; refine (halts_any _ (HS.out.below hk.mod.below HS.out.1)).mono ?_; rintro x w1 ⟨rfl, hb⟩; replace hk := hk.call hb; clear hb) | (go_at_call 5; refine (HP.out _ hk.mod.below).mono ?_; rintro x w1 ⟨rfl, hb⟩; replace hk := hk.call hb; clear hb) | ((with_reducible apply gL); (first | refine wS hk ?_ | (refine wN hk ?_; clear hk; intro w1 hk)); simp only [pw]))
 go_ret
 exact ⟨rfl, hk.mod.below⟩
end Go.Proofs.YtamiichlbmllcabGreatDoor
