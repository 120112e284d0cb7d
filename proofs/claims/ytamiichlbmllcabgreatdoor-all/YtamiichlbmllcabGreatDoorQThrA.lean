import Derived.Test.YtamiichlbmllcabGreatDoorQPrI
import Derived.Test.YtamiichlbmllcabGreatDoorQMthC
import Derived.Test.YtamiichlbmllcabGreatDoorQStepA
set_option maxRecDepth 100000
set_option maxHeartbeats 32000000
namespace Go.Proofs.YtamiichlbmllcabGreatDoor
open Go.RowKit
section inv
variable {P : Program} {ops : Array Oper} {Q : Exit -> Act -> World -> Prop}
def unl (ls : Array Bool) : Nat := ls.toList.countP (· == false)
theorem countP_set : ∀ (l : List Bool) (i : Nat), l[i]? = some false -> (l.set i true).countP (· == false) + 1 = l.countP (· == false)
 | [], _, h => by simp at h
 | x :: r, 0, h => by
   simp only [List.getElem?_cons_zero, Option.some.injEq] at h
   subst h
   simp
 | x :: r, i + 1, h => by
   have ih := countP_set r i (by simpa using h)
   simp only [List.set_cons_succ, List.countP_cons]
   omega
theorem unl_set {ls : Array Bool} {i : Nat} (h : ls.getD i true = false) : unl (ls.setIfInBounds i true) + 1 = unl ls := by
 unfold unl
 rw [Array.toList_setIfInBounds]
 apply countP_set
 rw [Array.getD_eq_getD_getElem?] at h
 rw [Array.getElem?_toList]
 cases hx : ls[i]? with
 | none => rw [hx] at h; cases h
 | some b => rw [hx] at h; simp at h; rw [h]
theorem wpAny_inv (Inv : Array Bool -> Act -> World -> Prop) (hend : ∀ ls a w, Inv ls a w -> Region.ready .any ops ls = [] -> Q .normal a w) (hstep : ∀ ls a w i, Inv ls a w -> i ∈ Region.ready .any ops ls -> wpOp P ops Q i (fun a' w' => Inv (ls.setIfInBounds i true) a' w') a w) :
 ∀ (fuel : Nat) (ls : Array Bool) (a : Act) (w : World), unl ls <= fuel -> Inv ls a w -> wpAny P .any ops Q fuel ls a w
 | 0, ls, a, w, hf, h => by
   have hr : Region.ready .any ops ls = [] := by
    apply Classical.byContradiction
    intro hne
    obtain ⟨i, hi⟩ := List.exists_mem_of_ne_nil _ hne
    have := unl_set (mem_ready.1 hi).1
    omega
   exact ⟨hr, hend ls a w h hr⟩
 | fuel + 1, ls, a, w, hf, h => by
   refine ⟨fun hr => hend ls a w h hr, fun i hi => ?_⟩
   have hu := unl_set (mem_ready.1 hi).1
   exact wpOp_mono (fun a' w' h' => wpAny_inv Inv hend hstep fuel _ a' w' (by omega) h') (hstep ls a w i h hi)
theorem wpOp_act {i : Nat} {o : Oper} {K : Act -> World -> Prop} {a : Act} {w : World} (ho : ops[i]? = some o) (hg : o.guard = none) (h : o.wp P a w K Q) : wpOp P ops Q i K a w := by
 unfold wpOp
 simp only [ho, Region.wanted, hg, if_true]
 exact Or.inl h
theorem wpOp_actK {i : Nat} {o : Oper} {K : Act -> World -> Prop} {a : Act} {w : World} (ho : ops[i]? = some o) (hg : o.guard = none) (h : ∀ K' : Act -> World -> Prop, (∀ a' w', K a' w' -> K' a' w') -> o.wp P a w K' Q) : wpOp P ops Q i K a w := wpOp_act ho hg (h K fun _ _ h => h)
end inv
def dstP (i : Nat) : Nat := [6, 7, 8, 9, 10, 11, 12, 13, 14, 15, 16, 17, 18, 19, 2].getD i 0
def valP (pb pc n : Nat) (G : Nat -> Nat) (i : Nat) : Value := [.slice (some ⟨pb, 0, none⟩) n pc, .slice (some ⟨pb, 0, none⟩) n pc, .slice (some ⟨G 2, 0, none⟩) n n, .int .i64 n, .slice (some ⟨G 4, 0, none⟩) n n, .agg (rtC pb pc (G 2) (G 4) n), .slice (some ⟨pb, 0, none⟩) n pc, .slice (some ⟨G 7, 0, none⟩) n n, .int .i64 n, .slice (some ⟨G 9, 0, none⟩) n n, .int .i64 n, .slice (some ⟨G 11, 0, none⟩) n n, .agg (prC pb pc (G 2) (G 4) (G 7) (G 9) (G 11) n), .pointer (some ⟨G 13, 0, none⟩), .pointer (some ⟨G 13, 0, none⟩)].getD i undef
def isA (i : Nat) : Bool := [2, 4, 7, 9, 11, 13].contains i
def rowP (l : List I5) (pb pc : Nat) (G : Nat -> Nat) (i : Nat) : Array Value × TypeId := if i = 2 then (bosA l.length (markB l), 4) else if i = 4 then (plsA l.length (fun _ => none), 190) else if i = 7 then (bosA l.length (backB l), 4) else if i = 9 then (intA l.length (fun _ => 0), 3) else if i = 11 then (bosA l.length (fun _ => false), 4) else (prC pb pc (G 2) (G 4) (G 7) (G 9) (G 11) l.length, 209)
def actP (p : Value) (n : Nat) (y : Nat -> Value) : Act := ⟨#[p, y 1, y 2, .int .i64 n, y 4, y 5, y 6, y 7, y 8, y 9, y 10, y 11, y 12, y 13, y 14, y 15, y 16, y 17, y 18, y 19], []⟩
def updV (y : Nat -> Value) (s : Nat) (v : Value) : Nat -> Value := fun k => if k = s then v else y k
theorem lt15 {i : Nat} (h : i < 15) : i = 0 \/ i = 1 \/ i = 2 \/ i = 3 \/ i = 4 \/ i = 5 \/ i = 6 \/ i = 7 \/ i = 8 \/ i = 9 \/ i = 10 \/ i = 11 \/ i = 12 \/ i = 13 \/ i = 14 := by omega
theorem put_act (p : Value) (n : Nat) (y : Nat -> Value) (v : Value) {i : Nat} (hi : i < 15) : (actP p n y).put (some (dstP i)) v = actP p n (updV y (dstP i) v) := by
 rcases lt15 hi with rfl | rfl | rfl | rfl | rfl | rfl | rfl | rfl | rfl | rfl | rfl | rfl | rfl | rfl | rfl <;> rfl
theorem dst_inj {i j : Nat} (hi : i < 15) (hj : j < 15) (h : dstP i = dstP j) : i = j := by
 rcases lt15 hi with rfl | rfl | rfl | rfl | rfl | rfl | rfl | rfl | rfl | rfl | rfl | rfl | rfl | rfl | rfl <;> rcases lt15 hj with rfl | rfl | rfl | rfl | rfl | rfl | rfl | rfl | rfl | rfl | rfl | rfl | rfl | rfl | rfl <;> first | rfl | (exact absurd h (by decide))
structure PIr (l : List I5) (pb pc : Nat) (w0 : World) (y : Nat -> Value) (G : Nat -> Nat) (ls : Array Bool) (w : World) : Prop where
 sz : ls.size = 15
 mod : Mod [] w0 w
 val : ∀ i, i < 15 -> ls.getD i false = true -> y (dstP i) = valP pb pc l.length G i
 row : ∀ i, isA i = true -> ls.getD i false = true -> At w (G i) (rowP l pb pc G i).1 (rowP l pb pc G i).2 /\ w0.heap.size <= G i
 ne : ∀ i j, isA i = true -> isA j = true -> i ≠ j -> ls.getD i false = true -> ls.getD j false = true -> G i ≠ G j
 d5 : ls.getD 5 false = true -> ls.getD 2 false = true /\ ls.getD 4 false = true
 d12 : ls.getD 12 false = true -> ls.getD 5 false = true /\ ls.getD 7 false = true /\ ls.getD 9 false = true /\ ls.getD 11 false = true
 d13 : ls.getD 13 false = true -> ls.getD 12 false = true
 d14 : ls.getD 14 false = true -> ls.getD 13 false = true
theorem getD_set {ls : Array Bool} {i j : Nat} (hs : ls.size = 15) (hi : i < 15) : (ls.setIfInBounds i true).getD j false = (decide (i = j) || ls.getD j false) := by
 rw [Array.getD_eq_getD_getElem?, Array.getD_eq_getD_getElem?, Array.getElem?_setIfInBounds]
 by_cases h : i = j
 · subst h; simp [hs, hi]
 · simp [h]
theorem not_done {ls : Array Bool} {i : Nat} (h : ls.getD i true = false) : ls.getD i false = false := by
 rw [Array.getD_eq_getD_getElem?] at *
 cases hx : ls[i]? with
 | none => rw [hx] at h; cases h
 | some b => rw [hx] at h; simpa using h
theorem At.ltE {w : World} {b : Nat} {A : Array Value} {t : TypeId} (h : At w b A t) : b < w.heap.size := lt_of_block h
theorem valP_eq {pb pc n : Nat} {G G' : Nat -> Nat} {j : Nat} (hj : j < 15) (h2 : j = 2 \/ j = 5 \/ j = 12 -> G' 2 = G 2) (h4 : j = 4 \/ j = 5 \/ j = 12 -> G' 4 = G 4) (h7 : j = 7 \/ j = 12 -> G' 7 = G 7) (h9 : j = 9 \/ j = 12 -> G' 9 = G 9) (h11 : j = 11 \/ j = 12 -> G' 11 = G 11) (h13 : j = 13 \/ j = 14 -> G' 13 = G 13) : valP pb pc n G' j = valP pb pc n G j := by
 unfold valP
 rcases lt15 hj with rfl | rfl | rfl | rfl | rfl | rfl | rfl | rfl | rfl | rfl | rfl | rfl | rfl | rfl | rfl
 · rfl
 · rfl
 · simp [h2]
 · rfl
 · simp [h4]
 · simp [h2, h4]
 · rfl
 · simp [h7]
 · rfl
 · simp [h9]
 · rfl
 · simp [h11]
 · simp [h2, h4, h7, h9, h11]
 · simp [h13]
 · simp [h13]
theorem PIr.step {l : List I5} {pb pc : Nat} {w0 w w' : World} {y : Nat -> Value} {G G' : Nat -> Nat} {ls : Array Bool} {i : Nat} (h : PIr l pb pc w0 y G ls w) (hi : i < 15) (hun : ls.getD i true = false) (hG : ∀ j, j ≠ i -> G' j = G j) (hm : Mod [] w w') (hnew : isA i = true -> At w' (G' i) (rowP l pb pc G' i).1 (rowP l pb pc G' i).2 /\ w.heap.size <= G' i)
 (e5 : i = 5 -> ls.getD 2 false = true /\ ls.getD 4 false = true) (e12 : i = 12 -> ls.getD 5 false = true /\ ls.getD 7 false = true /\ ls.getD 9 false = true /\ ls.getD 11 false = true) (e13 : i = 13 -> ls.getD 12 false = true) (e14 : i = 14 -> ls.getD 13 false = true) :
 PIr l pb pc w0 (updV y (dstP i) (valP pb pc l.length G' i)) G' (ls.setIfInBounds i true) w' := by
 have hnd := not_done hun
 have hold : ∀ j, ls.getD j false = true -> j ≠ i := fun j hj e => by subst e; rw [hnd] at hj; cases hj
 have hset := fun j => getD_set (ls := ls) (i := i) (j := j) h.sz hi
 have hd : ∀ j, (ls.setIfInBounds i true).getD j false = true -> i = j \/ ls.getD j false = true := fun j hj => by rw [hset j] at hj; simpa using hj
 have hup : ∀ j, ls.getD j false = true -> (ls.setIfInBounds i true).getD j false = true := fun j hj => by rw [hset j, hj]; simp
 have gsame : ∀ k, ls.getD k false = true -> G' k = G k := fun k hk => hG k (hold k hk)
 have hrow : ∀ j, isA j = true -> ls.getD j false = true -> rowP l pb pc G' j = rowP l pb pc G j := fun j hj hjd => by
  unfold rowP
  by_cases e13' : j = 13
  · subst e13'
    have q := h.d12 (h.d13 hjd)
    have q5 := h.d5 q.1
    rw [gsame 2 q5.1, gsame 4 q5.2, gsame 7 q.2.1, gsame 9 q.2.2.1, gsame 11 q.2.2.2]
  · have : j = 2 \/ j = 4 \/ j = 7 \/ j = 9 \/ j = 11 := by unfold isA at hj; simp at hj; omega
    rcases this with rfl | rfl | rfl | rfl | rfl <;> simp
 refine ⟨by simp [h.sz], h.mod.trans hm, fun j hj hjd => ?_, fun j hj hjd => ?_, fun j k hj hk hjk hjd hkd => ?_, fun h5 => ?_, fun h12 => ?_, fun h13 => ?_, fun h14 => ?_⟩
 · rcases hd j hjd with rfl | hjd
   · unfold updV; rw [if_pos rfl]
   · have hne : dstP j ≠ dstP i := fun e => hold j hjd (dst_inj hj hi e)
     have : updV y (dstP i) (valP pb pc l.length G' i) (dstP j) = y (dstP j) := by unfold updV; rw [if_neg hne]
     rw [this, h.val j hj hjd]
     refine (valP_eq hj ?_ ?_ ?_ ?_ ?_ ?_).symm
     · rintro (rfl | rfl | rfl)
       · exact gsame 2 hjd
       · exact gsame 2 (h.d5 hjd).1
       · exact gsame 2 (h.d5 (h.d12 hjd).1).1
     · rintro (rfl | rfl | rfl)
       · exact gsame 4 hjd
       · exact gsame 4 (h.d5 hjd).2
       · exact gsame 4 (h.d5 (h.d12 hjd).1).2
     · rintro (rfl | rfl)
       · exact gsame 7 hjd
       · exact gsame 7 (h.d12 hjd).2.1
     · rintro (rfl | rfl)
       · exact gsame 9 hjd
       · exact gsame 9 (h.d12 hjd).2.2.1
     · rintro (rfl | rfl)
       · exact gsame 11 hjd
       · exact gsame 11 (h.d12 hjd).2.2.2
     · rintro (rfl | rfl)
       · exact gsame 13 hjd
       · exact gsame 13 (h.d14 hjd)
 · rcases hd j hjd with rfl | hjd
   · exact ⟨(hnew hj).1, Nat.le_trans h.mod.size (hnew hj).2⟩
   · rw [hrow j hj hjd, gsame j hjd]
     exact ⟨(h.row j hj hjd).1.mod hm (by simp), (h.row j hj hjd).2⟩
 · rcases hd j hjd with rfl | hjd
   · rcases hd k hkd with rfl | hkd
     · exact absurd rfl hjk
     · rw [gsame k hkd]
       have h1 := (hnew hj).2
       have h2 := (h.row k hk hkd).1.ltE
       omega
   · rcases hd k hkd with rfl | hkd
     · rw [gsame j hjd]
       have h1 := (hnew hk).2
       have h2 := (h.row j hj hjd).1.ltE
       omega
     · rw [gsame j hjd, gsame k hkd]; exact h.ne j k hj hk hjk hjd hkd
 · rcases hd 5 h5 with e | h5
   · exact ⟨hup _ (e5 e).1, hup _ (e5 e).2⟩
   · exact ⟨hup _ (h.d5 h5).1, hup _ (h.d5 h5).2⟩
 · rcases hd 12 h12 with e | h12
   · have q := e12 e; exact ⟨hup _ q.1, hup _ q.2.1, hup _ q.2.2.1, hup _ q.2.2.2⟩
   · have q := h.d12 h12; exact ⟨hup _ q.1, hup _ q.2.1, hup _ q.2.2.1, hup _ q.2.2.2⟩
 · rcases hd 13 h13 with e | h13
   · exact hup _ (e13 e)
   · exact hup _ (h.d13 h13)
 · rcases hd 14 h14 with e | h14
   · exact hup _ (e14 e)
   · exact hup _ (h.d14 h14)
theorem int_zero (n : Nat) : intA n (fun _ => 0) = rowsA n 1 (fun _ => #[.int .i64 0]) := rows_congr fun _ _ => by rw [show wrap64 ((0 : Nat) : Int) = 0 by unfold wrap64; omega]
theorem PIr.same {l : List I5} {pb pc : Nat} {w0 w : World} {y : Nat -> Value} {G : Nat -> Nat} {ls : Array Bool} {k : Nat} {v : Value} (h : PIr l pb pc w0 y G ls w) (hv : y k = v) : PIr l pb pc w0 (updV y k v) G ls w := by
 have e : updV y k v = y := by funext j; unfold updV; split; (rename_i e; rw [e, hv]); rfl
 rw [e]; exact h
theorem all_done {ops : Array Oper} {ls : Array Bool} (hr : Region.ready .any ops ls = []) {i : Nat} {o : Oper} (hi : i < ls.size) (ho : ops[i]? = some o) (hd : ∀ e ∈ o.after, Region.binds .any e = true -> ls.getD e.on false = true) : ls.getD i false = true := by
 cases hx : ls.getD i true with
 | true =>
   rw [Array.getD_eq_getD_getElem?, Array.getElem?_eq_getElem hi] at hx ⊢
   simpa using hx
 | false =>
   have : i ∈ Region.ready .any ops ls := mem_ready.2 ⟨hx, o, ho, hd⟩
   rw [hr] at this
   cases this
structure NewP (l : List I5) (V pb pc mb sb kb cb hb : Nat) (w w' : World) : Prop where
 blk : PrvB l V pb pc mb sb kb cb hb w'
 states : At w' sb (plsA l.length (fun _ => none)) 190
 passes : At w' cb (intA l.length (fun _ => 0)) 3
 changed : At w' hb (bosA l.length (fun _ => false)) 4
 low : w.heap.size <= V /\ w.heap.size <= mb /\ w.heap.size <= sb /\ w.heap.size <= kb /\ w.heap.size <= cb /\ w.heap.size <= hb
theorem oVal {P : Program} {o : Oper} {v : Value} {a : Act} {w : World} {K : Act -> World -> Prop} {Q : Exit -> Act -> World -> Prop} (hr : (execOp a.eval o).run P w = .ok (.value v) w) (h : K (a.put o.dst v) w) : o.wp P a w K Q := by
 unfold Oper.wp
 rw [hr]
 exact h
theorem build_prv (a b c d e f : Option Addr) (n1 n2 n3 n4 n5 n6 c1 c2 c3 c4 c5 c6 : Nat) (w : World) : (Instr.build 209 [(0, .agg #[.slice a n1 c1, .slice b n2 c2, .slice c n3 c3]), (1, .slice d n4 c4), (2, .slice e n5 c5), (3, .slice f n6 c6)].toArray).run Tryz.prog w = .ok (.agg #[.slice a n1 c1, .slice b n2 c2, .slice c n3 c3, .slice d n4 c4, .slice e n5 c5, .slice f n6 c6]) w := run_build w _ _ _ (by kernel_rfl)
theorem proverOf_any (l : List I5) (hl : AllFit l) (pb pc : Nat) (w : World) (hp : ProgC w pb iVal l) : Calls Tryz.prog 93 #[.slice (some ⟨pb, 0, none⟩) l.length pc] w fun e w' => ∃ V mb sb kb cb hb, e = .returned (.pointer (some ⟨V, 0, none⟩)) /\ NewP l V pb pc mb sb kb cb hb w w' /\ Below w.heap.size w w' := by
 have hk := Kn.nil [] w
 have hL : l.length <= 64 := hl.2.1
 go_enter Tryz.func93, Tryz.ntmps93
 go_wp2_with ((with_reducible apply gL); (first | refine wS hk ?_ | (refine wN hk ?_; clear hk; intro w1 hk)); simp only [pw])
 refine wp_region_noPanic (wp_region_any mixT (wpAny_inv (Inv := fun ls a wx => ∃ y G, a = actP (.slice (some ⟨pb, 0, none⟩) l.length pc) l.length y /\ PIr l pb pc w y G ls wx) ?hend ?hstep _ _ _ _ (by decide) ?hinit))
 case hinit =>
  refine ⟨fun k => [.slice (some ⟨pb, 0, none⟩) l.length pc, undef, .pointer none, .int .i64 l.length, .slice (some ⟨pb, 0, none⟩) l.length pc, .int .i64 l.length].getD k undef, fun _ => 0, rfl, ?_⟩
  have hno : ∀ i, (Array.replicate 15 false).getD i false = true -> False := fun i h => by
   rw [Array.getD_eq_getD_getElem?, Array.getElem?_replicate] at h
   split at h <;> simp at h
  exact ⟨by simp, Mod.drew _ _, fun i _ h => (hno i h).elim, fun i _ h => (hno i h).elim, fun i _ _ _ _ h _ => (hno i h).elim, fun h => (hno 5 h).elim, fun h => (hno 12 h).elim, fun h => (hno 13 h).elim, fun h => (hno 14 h).elim⟩
 case hstep =>
  clear hk
  rintro ls a w3 i ⟨y, G, rfl, h⟩ hi
  obtain ⟨hun, o, ho, hdep⟩ := mem_ready.1 hi
  have hi15 : i < 15 := by
   have := (Array.getElem?_eq_some_iff.1 ho).1
   simpa using this
  rcases lt15 hi15 with rfl | rfl | rfl | rfl | rfl | rfl | rfl | rfl | rfl | rfl | rfl | rfl | rfl | rfl | rfl
  · refine wpOp_act rfl rfl (oVal (v := valP pb pc l.length G 0) (by rfl) ?_)
    exact ⟨_, G, put_act _ _ _ _ (by omega), h.step (by omega) hun (fun _ _ => rfl) (Mod.refl _ _) (fun h => by cases h) (fun h => by cases h) (fun h => by cases h) (fun h => by cases h) (fun h => by cases h)⟩
  · refine wpOp_act rfl rfl (oVal (v := valP pb pc l.length G 1) (by rfl) ?_)
    exact ⟨_, G, put_act _ _ _ _ (by omega), h.step (by omega) hun (fun _ _ => rfl) (Mod.refl _ _) (fun h => by cases h) (fun h => by cases h) (fun h => by cases h) (fun h => by cases h) (fun h => by cases h)⟩
  · have _h0 := hun
    obtain rfl := Option.some.inj ((rfl : some _ = _).trans ho)
    have hd1 : ls.getD 1 false = true := hdep ⟨1, .data⟩ (by simp) rfl
    have hv : y 7 = .slice (some ⟨pb, 0, none⟩) l.length pc := h.val 1 (by omega) hd1
    refine wpOp_actK rfl rfl ?_
    intro K' hK'
    unfold actP
    rw [hv]
    go_step; go_at_call 59
    refine (marksOf_any l hl pb pc w3 (hp.mod h.mod List.not_mem_nil)).mono ?_
    rintro e w4 ⟨mb, rfl, hat, hge, hb⟩
    refine hK' _ _ ⟨updV (updV y 7 (.slice (some ⟨pb, 0, none⟩) l.length pc)) (dstP 2) (valP pb pc l.length (fun j => if j = 2 then mb else G j) 2), fun j => if j = 2 then mb else G j, rfl, (h.same hv).step (G' := fun j => if j = 2 then mb else G j) (by omega) hun (fun j hj => if_neg hj) (Mod.ofBelow hb) (fun _ => ⟨hat, hge⟩) (fun h => by cases h) (fun h => by cases h) (fun h => by cases h) (fun h => by cases h)⟩
  · refine wpOp_act rfl rfl (oVal (v := valP pb pc l.length G 3) (by rfl) ?_)
    exact ⟨_, G, put_act _ _ _ _ (by omega), h.step (by omega) hun (fun _ _ => rfl) (Mod.refl _ _) (fun h => by cases h) (fun h => by cases h) (fun h => by cases h) (fun h => by cases h) (fun h => by cases h)⟩
  · have _h0 := hun
    obtain rfl := Option.some.inj ((rfl : some _ = _).trans ho)
    have hd3 : ls.getD 3 false = true := hdep ⟨3, .data⟩ (by simp) rfl
    have hv : y (dstP 3) = .int .i64 l.length := h.val 3 (by omega) hd3
    refine wpOp_act rfl rfl (oMake (n := l.length) hv hv (Kn.nil [] _) (mkT_of (by rfl)) (by omega) (by omega) ?_)
    intro w4 hk4
    exact ⟨_, fun j => if j = 4 then w3.heap.size else G j, put_act _ _ _ _ (by omega), h.step (G' := fun j => if j = 4 then w3.heap.size else G j) (by omega) hun (fun j hj => if_neg hj) hk4.mod (fun _ => ⟨hk4.at List.mem_cons_self, Nat.le_refl _⟩) (fun h => by cases h) (fun h => by cases h) (fun h => by cases h) (fun h => by cases h)⟩
  · have _h0 := hun
    obtain rfl := Option.some.inj ((rfl : some _ = _).trans ho)
    have hd0 : ls.getD 0 false = true := hdep ⟨0, .data⟩ (by simp) rfl
    have hd2 : ls.getD 2 false = true := hdep ⟨2, .data⟩ (by simp) rfl
    have hd4 : ls.getD 4 false = true := hdep ⟨4, .data⟩ (by simp) rfl
    have hv0 := h.val 0 (by omega) hd0
    have hv2 := h.val 2 (by omega) hd2
    have hv4 := h.val 4 (by omega) hd4
    refine wpOp_act rfl rfl (oBuild (ps := [(0, valP pb pc l.length G 0), (1, valP pb pc l.length G 2), (2, valP pb pc l.length G 4)]) (by rw [<- hv0, <- hv2, <- hv4]; rfl) (build_rt _ _ _ _ _ _ _ _ _ _) ?_)
    exact ⟨_, G, put_act _ _ _ _ (by omega), h.step (by omega) hun (fun _ _ => rfl) (Mod.refl _ _) (fun h => by cases h) (fun _ => ⟨hd2, hd4⟩) (fun h => by cases h) (fun h => by cases h) (fun h => by cases h)⟩
  · refine wpOp_act rfl rfl (oVal (v := valP pb pc l.length G 6) (by rfl) ?_)
    exact ⟨_, G, put_act _ _ _ _ (by omega), h.step (by omega) hun (fun _ _ => rfl) (Mod.refl _ _) (fun h => by cases h) (fun h => by cases h) (fun h => by cases h) (fun h => by cases h) (fun h => by cases h)⟩
  · have _h0 := hun
    obtain rfl := Option.some.inj ((rfl : some _ = _).trans ho)
    have hd6 : ls.getD 6 false = true := hdep ⟨6, .data⟩ (by simp) rfl
    have hv : y 12 = .slice (some ⟨pb, 0, none⟩) l.length pc := h.val 6 (by omega) hd6
    refine wpOp_actK rfl rfl ?_
    intro K' hK'
    unfold actP
    rw [hv]
    go_step; go_at_call 105
    refine (backsOf_any l hl pb pc w3 (hp.mod h.mod List.not_mem_nil)).mono ?_
    rintro e w4 ⟨mb, rfl, hat, hge, hb⟩
    refine hK' _ _ ⟨updV (updV y 12 (.slice (some ⟨pb, 0, none⟩) l.length pc)) (dstP 7) (valP pb pc l.length (fun j => if j = 7 then mb else G j) 7), fun j => if j = 7 then mb else G j, rfl, (h.same hv).step (G' := fun j => if j = 7 then mb else G j) (by omega) hun (fun j hj => if_neg hj) (Mod.ofBelow hb) (fun _ => ⟨hat, hge⟩) (fun h => by cases h) (fun h => by cases h) (fun h => by cases h) (fun h => by cases h)⟩
  · refine wpOp_act rfl rfl (oVal (v := valP pb pc l.length G 8) (by rfl) ?_)
    exact ⟨_, G, put_act _ _ _ _ (by omega), h.step (by omega) hun (fun _ _ => rfl) (Mod.refl _ _) (fun h => by cases h) (fun h => by cases h) (fun h => by cases h) (fun h => by cases h) (fun h => by cases h)⟩
  · have _h0 := hun
    obtain rfl := Option.some.inj ((rfl : some _ = _).trans ho)
    have hd8 : ls.getD 8 false = true := hdep ⟨8, .data⟩ (by simp) rfl
    have hv : y (dstP 8) = .int .i64 l.length := h.val 8 (by omega) hd8
    refine wpOp_act rfl rfl (oMake (n := l.length) hv hv (Kn.nil [] _) (mkT_of (by rfl)) (by omega) (by omega) ?_)
    intro w4 hk4
    exact ⟨_, fun j => if j = 9 then w3.heap.size else G j, put_act _ _ _ _ (by omega), h.step (G' := fun j => if j = 9 then w3.heap.size else G j) (by omega) hun (fun j hj => if_neg hj) hk4.mod (fun _ => ⟨(by show At w4 w3.heap.size (intA l.length fun _ => 0) _; rw [int_zero]; exact hk4.at List.mem_cons_self), Nat.le_refl _⟩) (fun h => by cases h) (fun h => by cases h) (fun h => by cases h) (fun h => by cases h)⟩
  · refine wpOp_act rfl rfl (oVal (v := valP pb pc l.length G 10) (by rfl) ?_)
    exact ⟨_, G, put_act _ _ _ _ (by omega), h.step (by omega) hun (fun _ _ => rfl) (Mod.refl _ _) (fun h => by cases h) (fun h => by cases h) (fun h => by cases h) (fun h => by cases h) (fun h => by cases h)⟩
  · have _h0 := hun
    obtain rfl := Option.some.inj ((rfl : some _ = _).trans ho)
    have hd10 : ls.getD 10 false = true := hdep ⟨10, .data⟩ (by simp) rfl
    have hv : y (dstP 10) = .int .i64 l.length := h.val 10 (by omega) hd10
    refine wpOp_act rfl rfl (oMake (n := l.length) hv hv (Kn.nil [] _) (mkT_of (by rfl)) (by omega) (by omega) ?_)
    intro w4 hk4
    exact ⟨_, fun j => if j = 11 then w3.heap.size else G j, put_act _ _ _ _ (by omega), h.step (G' := fun j => if j = 11 then w3.heap.size else G j) (by omega) hun (fun j hj => if_neg hj) hk4.mod (fun _ => ⟨hk4.at List.mem_cons_self, Nat.le_refl _⟩) (fun h => by cases h) (fun h => by cases h) (fun h => by cases h) (fun h => by cases h)⟩
  · have _h0 := hun
    obtain rfl := Option.some.inj ((rfl : some _ = _).trans ho)
    have hd5 : ls.getD 5 false = true := hdep ⟨5, .data⟩ (by simp) rfl
    have hd7 : ls.getD 7 false = true := hdep ⟨7, .data⟩ (by simp) rfl
    have hd9 : ls.getD 9 false = true := hdep ⟨9, .data⟩ (by simp) rfl
    have hd11 : ls.getD 11 false = true := hdep ⟨11, .data⟩ (by simp) rfl
    have hv5 := h.val 5 (by omega) hd5
    have hv7 := h.val 7 (by omega) hd7
    have hv9 := h.val 9 (by omega) hd9
    have hv11 := h.val 11 (by omega) hd11
    refine wpOp_act rfl rfl (oBuild (ps := [(0, valP pb pc l.length G 5), (1, valP pb pc l.length G 7), (2, valP pb pc l.length G 9), (3, valP pb pc l.length G 11)]) (by rw [<- hv5, <- hv7, <- hv9, <- hv11]; rfl) (build_prv _ _ _ _ _ _ _ _ _ _ _ _ _ _ _ _ _ _ _) ?_)
    exact ⟨_, G, put_act _ _ _ _ (by omega), h.step (by omega) hun (fun _ _ => rfl) (Mod.refl _ _) (fun h => by cases h) (fun h => by cases h) (fun _ => ⟨hd5, hd7, hd9, hd11⟩) (fun h => by cases h) (fun h => by cases h)⟩
  · have _h0 := hun
    obtain rfl := Option.some.inj ((rfl : some _ = _).trans ho)
    have hd12 : ls.getD 12 false = true := hdep ⟨12, .data⟩ (by simp) rfl
    have hv12 : y 18 = .agg (prC pb pc (G 2) (G 4) (G 7) (G 9) (G 11) l.length) := h.val 12 (by omega) hd12
    refine wpOp_act rfl rfl (oBox hv12 (Kn.nil [] _) ?_)
    intro w4 hk4
    exact ⟨_, fun j => if j = 13 then w3.heap.size else G j, put_act _ _ _ _ (by omega), h.step (G' := fun j => if j = 13 then w3.heap.size else G j) (by omega) hun (fun j hj => if_neg hj) hk4.mod (fun _ => ⟨hk4.at List.mem_cons_self, Nat.le_refl _⟩) (fun h => by cases h) (fun h => by cases h) (fun _ => hd12) (fun h => by cases h)⟩
  · have _h0 := hun
    obtain rfl := Option.some.inj ((rfl : some _ = _).trans ho)
    have hd13 : ls.getD 13 false = true := hdep ⟨13, .data⟩ (by simp) rfl
    have hv13 : y 19 = .pointer (some ⟨G 13, 0, none⟩) := h.val 13 (by omega) hd13
    refine wpOp_act rfl rfl (oVal (v := y 19) (by rfl) ?_)
    rw [hv13]
    exact ⟨_, G, put_act _ _ _ _ (by omega), h.step (by omega) hun (fun _ _ => rfl) (Mod.refl _ _) (fun h => by cases h) (fun h => by cases h) (fun h => by cases h) (fun h => by cases h) (fun _ => hd13)⟩
 case hend =>
  clear hk
  rintro ls a w3 ⟨y, G, rfl, h⟩ hr
  have hs := h.sz
  have l0 : ls.getD 0 false = true := all_done hr (by omega) rfl (by intro e he hb; simp at he; (repeat' (rcases he with rfl | he)); all_goals (first | assumption | (exact absurd hb (by decide)) | (subst he; first | assumption | exact absurd hb (by decide))))
  have l1 : ls.getD 1 false = true := all_done hr (by omega) rfl (by intro e he hb; simp at he; (repeat' (rcases he with rfl | he)); all_goals (first | assumption | (exact absurd hb (by decide)) | (subst he; first | assumption | exact absurd hb (by decide))))
  have l3 : ls.getD 3 false = true := all_done hr (by omega) rfl (by intro e he hb; simp at he; (repeat' (rcases he with rfl | he)); all_goals (first | assumption | (exact absurd hb (by decide)) | (subst he; first | assumption | exact absurd hb (by decide))))
  have l6 : ls.getD 6 false = true := all_done hr (by omega) rfl (by intro e he hb; simp at he; (repeat' (rcases he with rfl | he)); all_goals (first | assumption | (exact absurd hb (by decide)) | (subst he; first | assumption | exact absurd hb (by decide))))
  have l8 : ls.getD 8 false = true := all_done hr (by omega) rfl (by intro e he hb; simp at he; (repeat' (rcases he with rfl | he)); all_goals (first | assumption | (exact absurd hb (by decide)) | (subst he; first | assumption | exact absurd hb (by decide))))
  have l10 : ls.getD 10 false = true := all_done hr (by omega) rfl (by intro e he hb; simp at he; (repeat' (rcases he with rfl | he)); all_goals (first | assumption | (exact absurd hb (by decide)) | (subst he; first | assumption | exact absurd hb (by decide))))
  have l2 : ls.getD 2 false = true := all_done hr (by omega) rfl (by intro e he hb; simp at he; (repeat' (rcases he with rfl | he)); all_goals (first | assumption | (exact absurd hb (by decide)) | (subst he; first | assumption | exact absurd hb (by decide))))
  have l4 : ls.getD 4 false = true := all_done hr (by omega) rfl (by intro e he hb; simp at he; (repeat' (rcases he with rfl | he)); all_goals (first | assumption | (exact absurd hb (by decide)) | (subst he; first | assumption | exact absurd hb (by decide))))
  have l7 : ls.getD 7 false = true := all_done hr (by omega) rfl (by intro e he hb; simp at he; (repeat' (rcases he with rfl | he)); all_goals (first | assumption | (exact absurd hb (by decide)) | (subst he; first | assumption | exact absurd hb (by decide))))
  have l9 : ls.getD 9 false = true := all_done hr (by omega) rfl (by intro e he hb; simp at he; (repeat' (rcases he with rfl | he)); all_goals (first | assumption | (exact absurd hb (by decide)) | (subst he; first | assumption | exact absurd hb (by decide))))
  have l11 : ls.getD 11 false = true := all_done hr (by omega) rfl (by intro e he hb; simp at he; (repeat' (rcases he with rfl | he)); all_goals (first | assumption | (exact absurd hb (by decide)) | (subst he; first | assumption | exact absurd hb (by decide))))
  have l5 : ls.getD 5 false = true := all_done hr (by omega) rfl (by intro e he hb; simp at he; (repeat' (rcases he with rfl | he)); all_goals (first | assumption | (exact absurd hb (by decide)) | (subst he; first | assumption | exact absurd hb (by decide))))
  have l12 : ls.getD 12 false = true := all_done hr (by omega) rfl (by intro e he hb; simp at he; (repeat' (rcases he with rfl | he)); all_goals (first | assumption | (exact absurd hb (by decide)) | (subst he; first | assumption | exact absurd hb (by decide))))
  have l13 : ls.getD 13 false = true := all_done hr (by omega) rfl (by intro e he hb; simp at he; (repeat' (rcases he with rfl | he)); all_goals (first | assumption | (exact absurd hb (by decide)) | (subst he; first | assumption | exact absurd hb (by decide))))
  have l14 : ls.getD 14 false = true := all_done hr (by omega) rfl (by intro e he hb; simp at he; (repeat' (rcases he with rfl | he)); all_goals (first | assumption | (exact absurd hb (by decide)) | (subst he; first | assumption | exact absurd hb (by decide))))
  have hy2 : y 2 = .pointer (some ⟨G 13, 0, none⟩) := h.val 14 (by omega) l14
  have hpl : pb < w.heap.size := World.block_lt_of_cell? w _ (hp 0 hl.1)
  have r2 := h.row 2 rfl l2
  have r4 := h.row 4 rfl l4
  have r7 := h.row 7 rfl l7
  have r9 := h.row 9 rfl l9
  have r11 := h.row 11 rfl l11
  have r13 := h.row 13 rfl l13
  have HN : Hid (NewP l (G 13) pb pc (G 2) (G 4) (G 7) (G 9) (G 11) w w3) := hide ⟨⟨hp.mod h.mod List.not_mem_nil, r2.1, r13.1, r7.1, h.ne 4 9 rfl rfl (by omega) l4 l9, h.ne 4 11 rfl rfl (by omega) l4 l11, h.ne 9 11 rfl rfl (by omega) l9 l11,
   by have h1 := r4.2; have h2 := r9.2; have h3 := r11.2; simp only [List.mem_cons, List.not_mem_nil, or_false, not_or]; omega,
   by simp only [List.mem_cons, List.not_mem_nil, or_false, not_or]; exact ⟨h.ne 2 4 rfl rfl (by omega) l2 l4, h.ne 2 9 rfl rfl (by omega) l2 l9, h.ne 2 11 rfl rfl (by omega) l2 l11⟩,
   by simp only [List.mem_cons, List.not_mem_nil, or_false, not_or]; exact ⟨h.ne 13 4 rfl rfl (by omega) l13 l4, h.ne 13 9 rfl rfl (by omega) l13 l9, h.ne 13 11 rfl rfl (by omega) l13 l11⟩,
   by simp only [List.mem_cons, List.not_mem_nil, or_false, not_or]; exact ⟨h.ne 7 4 rfl rfl (by omega) l7 l4, h.ne 7 9 rfl rfl (by omega) l7 l9, h.ne 7 11 rfl rfl (by omega) l7 l11⟩⟩,
   r4.1, r9.1, r11.1, r13.2, r2.2, r4.2, r7.2, r9.2, r11.2⟩
  have HM := hide h.mod
  clear r2 r4 r7 r9 r11 r13 h hr
  refine NoPanic.normal ?_
  unfold actP
  rw [hy2]
  go_wp2_with fail
  go_ret
  exact ⟨_, _, _, _, _, _, rfl, HN.out, HM.out.below⟩
theorem own_slcC {w : World} {base n : Nat} {v : Value} {cl : List C2} (h : w.ownsRow base 71 17 v n (cl.flatMap clCells)) (hn : n = cl.length) : SlcC w v cl := by
 subst hn
 rcases h.2 with ⟨rfl, h0⟩ | ⟨g, cap, cur, rfl, _, hg, _, _, _, ht⟩
 · exact Or.inl ⟨⟨_, _, rfl⟩, List.length_eq_zero_iff.1 h0⟩
 · refine Or.inr ⟨g, 0, cap, rfl, lt_of_block hg, fun i hi j u hj => ?_⟩
   have hj17 : j < 17 := (List.getElem?_eq_some_iff.1 hj).1
   have e := flatC_get cl i j hi hj17
   rw [<- ht, List.getElem?_take, if_pos (by omega), Array.getElem?_toList] at e
   rw [cell_of_row _ _ _ _ _ _ hg, show 0 + i * 17 + j = i * 17 + j by omega, e, <- Array.getElem?_toList]
   exact hj
theorem clsW_mem {n : Nat} {W : Nat -> Option St} {c : C2} (h : c ∈ clsW n W) : ∃ i, i < n /\ W i = some c.st /\ c.pl = (i : Int) := by
 unfold clsW at h
 obtain ⟨i, hi, h2⟩ := List.mem_filterMap.1 h
 obtain ⟨s, hs, rfl⟩ := Option.map_eq_some_iff.1 h2
 exact ⟨i, List.mem_range.1 hi, hs, rfl⟩
theorem zero_cb (back : Nat -> Bool) : CB back PS.zero := fun _ _ => Or.inl (by unfold PS.zero; simp)
def ProveP (l : List I5) (e : St) (cl : List C2) (er pl : Int) : Prop :=
 (isStR e = false /\ cl = [] /\ er = 3 /\ pl = 0) \/ (isStR e = true /\ ∃ vf, Settles l e PS.zero vf /\ (((checkR l e (clsW l.length vf.W)).1 ≠ 0 /\ cl = [] /\ er = (checkR l e (clsW l.length vf.W)).1 /\ pl = ((checkR l e (clsW l.length vf.W)).2 : Int)) \/ ((checkR l e (clsW l.length vf.W)).1 = 0 /\ cl = clsW l.length vf.W /\ er = 0 /\ pl = 0)))
def ProveV (l : List I5) (e : St) (r : Ending) (w w' : World) : Prop := ∃ cv er pl cl, r = .returned (.tuple #[cv, .int .i64 er, .int .i64 pl]) /\ ProveP l e cl er pl /\ w'.ownsRow w.heap.size 71 17 cv cl.length (cl.flatMap clCells) /\ Below w.heap.size w w'
theorem post_3 {P : Program} {fn : Func} {R : Ending -> World -> Prop} {a : Act} {w : World} {i j k : Nat} {x y z : Value} (hf : fn.results = #[.tmp i, .tmp j, .tmp k]) (hi : a.tmps.getD i undef = x) (hj : a.tmps.getD j undef = y) (hk : a.tmps.getD k undef = z) (hd : a.defers = []) (hR : R (.returned (.tuple #[x, y, z])) w) : bodyPost P fn R .ret a w := by
 refine bodyPost_ret (v := .tuple #[x, y, z]) ?_ hd hR
 rw [Array.getD_eq_getD_getElem?] at hi hj hk
 simp [results, hf, hi, hj, hk]
theorem prove_no (l : List I5) (e : St) (hst : isStR e = false) (v : Value) (w : World) (h : Slc w v l) : Calls Tryz.prog 77 #[v, .agg (stC e)] w fun r w' => ProveV l e r w w' := by
 have hk := Kn.nil [] w
 obtain ⟨a, cap, rfl⟩ := h.len
 have HE := hide hst
 clear h hst
 go_enter Tryz.func77, Tryz.ntmps77
 go_wp2_with (first | (go_at_call 58; refine (isState_any _ _).mono ?_; rintro x w1 ⟨rfl, hb⟩; replace hk := hk.call hb; clear hb; rw [HE.out]) | ((with_reducible apply gL); (first | refine wS hk ?_ | (refine wN hk ?_; clear hk; intro w1 hk)); simp only [pw]))
 exact post_3 rfl rfl rfl rfl rfl ⟨_, _, _, [], rfl, Or.inl ⟨HE.out, rfl, rfl, rfl⟩, World.ownsRow_nil _ _ _ _, hk.mod.below⟩
theorem prove_st (l : List I5) (hl : AllFit l) (h64 : ∀ i, i < l.length -> I64 (insAt l i).k) (e : St) (he : e.in64) (hst : isStR e = true) (v : Value) (w : World) (h : Slc w v l) : Calls Tryz.prog 77 #[v, .agg (stC e)] w fun r w' => ProveV l e r w w' := by
 have hk := Kn.nil [] w
 have HV := hide h
 obtain ⟨a, cap, rfl⟩ := h.len
 have HE := hide hst
 have HEO : Hid (e.ok /\ e.in64) := hide ⟨ok_of_st hst, he⟩
 have HL := hide hl
 have H64 := hide h64
 clear h hst hl h64 he
 go_enter Tryz.func77, Tryz.ntmps77
 go_wp2_with (first | (go_at_call 58; refine (isState_any _ _).mono ?_; rintro x w1 ⟨rfl, hb⟩; replace hk := hk.call hb; clear hb; rw [HE.out]) | ((with_reducible apply gL); (first | refine wS hk ?_ | (refine wN hk ?_; clear hk; intro w1 hk)); simp only [pw]))
 go_at_call 11
 refine (progOf_c l _ w1 (HV.out.below hk.mod.below (Nat.le_refl _)) HL.out.1 HL.out.2.1).mono ?_
 rintro x w2 ⟨pb, pc, A, rfl, hat, hpr, hge, hb2⟩
 have hb02 := hk.mod.below.trans (hb2.mono hk.mod.below.size)
 have HBOX : Hid (w.heap.size < w2.heap.size) := hide (by have := lt_of_block (hk.at (A := stC e) mm); have := hb2.size; omega)
 replace hk := hk.call hb2
 go_wp2_with ((with_reducible apply gL); (first | refine wS hk ?_ | (refine wN hk ?_; clear hk; intro w1 hk)); simp only [pw])
 go_at_call 93
 refine (proverOf_any l HL.out pb pc w2 (hpr.at hat)).mono ?_
 rintro x w3 ⟨V, mb, sb, kb, cb, hb, rfl, hN, hb3⟩
 have hz2 := hb02.size
 have hb03 := hb02.trans (hb3.mono hz2)
 replace hk := hk.call hb3
 have HN := hide hN
 clear hN hat hpr
 go_wp2_with ((with_reducible apply gL); (first | refine wS hk ?_ | (refine wN hk ?_; clear hk; intro w1 hk)); simp only [pw])
 go_at_call 94
 refine (settle_pv l HL.out H64.out V pb pc mb sb kb cb hb PS.zero e HEO.out (zero_inv l) (zero_cb _) (fun _ _ => rfl) w3 HN.out.blk HN.out.states HN.out.passes HN.out.changed).mono ?_
 rintro x w4 ⟨rfl, vf, hset, hm4, hS4⟩
 have hw1 : w.heap.size < w3.heap.size := lt_of_block (hk.at (A := stC e) mm)
 have hlw := HBOX.out
 have hlow := HN.out.low
 have hnb : w.heap.size ∉ [sb, cb, hb] := by simp only [List.mem_cons, List.not_mem_nil, or_false, not_or]; omega
 have hbox := (hk.at (A := stC e) mm).mod hm4 hnb
 have hself := HN.out.blk.self.mod hm4 HN.out.blk.nV
 have hmod4 : Mod [] w w4 := hk.mod.step hm4 (fun b hb => by simp only [List.mem_cons, List.not_mem_nil, or_false] at hb; rcases hb with rfl | rfl | rfl <;> exact Or.inl (by omega))
 replace hk : Kn [] w w4 [(w.heap.size, stC e, 29), (V, prC pb pc mb sb kb cb hb l.length, 209)] := ⟨hmod4, fun x hx => by
  simp only [List.mem_cons, List.not_mem_nil, or_false] at hx
  rcases hx with rfl | rfl
  · exact ⟨hbox, Or.inl (Nat.le_refl _)⟩
  · exact ⟨hself, Or.inl (by simp only; omega)⟩, by simp; omega⟩
 have HSET := hide hset
 have HPI := hide (hset.inv (HL.out.fitP H64.out) HEO.out (zero_inv l))
 have HS4 := hide hS4
 have HZ4 := hide hmod4.size
 clear hset hm4 hS4 hself hbox hb02 hb03 hz2 hge hb2 hb3 hmod4
 go_wp2_with ((with_reducible apply gL); (first | refine wS hk ?_ | (refine wN hk ?_; clear hk; intro w1 hk)); simp only [pw])
 go_at_call 95
 refine (claimsOf_any l.length HL.out.2.1 vf.W sb l.length w4 HS4.out).mono ?_
 rintro x w5 ⟨cv, rfl, hown, hb5⟩
 obtain ⟨cl, hcl⟩ : ∃ cl, clsW l.length vf.W = cl := ⟨_, rfl⟩
 rw [hcl] at hown
 have hlen : cl.length <= 64 := by rw [<- hcl]; exact Nat.le_trans (clsW_len _ _) HL.out.2.1
 have HIN : Hid (In64 l e cl) := hide ⟨H64.out, HEO.out.2, fun i hi => by
  obtain ⟨k, _, hk, _⟩ := clsW_mem (n := l.length) (W := vf.W) (c := clAt cl i) (by rw [hcl]; exact clAt_mem hi)
  exact (HPI.out.ok k _ hk).2⟩
 have HCL := hide hcl
 have HOWN := hide hown
 replace hk := hk.call hb5
 clear hcl hown hb5
 go_wp2_with ((with_reducible apply gL); (first | refine wS hk ?_ | (refine wN hk ?_; clear hk; intro w1 hk)); simp only [pw])
 go_at_call 25
 refine (check_any l HL.out e cl HIN.out (by omega) _ cv w5 (HV.out.below hk.mod.below (Nat.le_refl _)) (own_slcC HOWN.out rfl)).mono ?_
 rintro x w6 ⟨rfl, hb6⟩
 replace hk := hk.call hb6
 have HO6 := hide (own_low (own_mod HOWN.out (Mod.ofBelow hb6)) HZ4.out)
 clear hb6
 obtain ⟨PE, PN, hPS⟩ : ∃ PE PN, checkR l e cl = (PE, PN) := ⟨_, _, rfl⟩
 have HPS := hide hPS
 rw [hPS]
 by_cases h0 : PE = 0
 · subst h0
   clear hPS
   go_wp2_with ((with_reducible apply gL); (first | refine wS hk ?_ | (refine wN hk ?_; clear hk; intro w1 hk)); simp only [pw])
   exact post_3 rfl rfl rfl rfl rfl ⟨_, _, _, cl, rfl, Or.inr ⟨HE.out, vf, HSET.out, Or.inr ⟨by rw [HCL.out, HPS.out], HCL.out.symm, rfl, rfl⟩⟩, HO6.out, hk.mod.below⟩
 · have hne : (PE == 0) = false := by rw [beq_eq_false_iff_ne]; exact h0
   clear hPS
   go_wp2_with ((with_reducible apply gL); (first | refine wS hk ?_ | (refine wN hk ?_; clear hk; intro w1 hk)); simp only [pw])
   exact post_3 rfl rfl rfl rfl rfl ⟨_, _, _, [], rfl, Or.inr ⟨HE.out, vf, HSET.out, Or.inl ⟨by rw [HCL.out, HPS.out]; exact h0, rfl, by rw [HCL.out, HPS.out], by rw [HCL.out, HPS.out]⟩⟩, World.ownsRow_nil _ _ _ _, hk.mod.below⟩
theorem prove_any (l : List I5) (hl : AllFit l) (h64 : ∀ i, i < l.length -> I64 (insAt l i).k) (e : St) (he : e.in64) (v : Value) (w : World) (h : Slc w v l) : Calls Tryz.prog 77 #[v, .agg (stC e)] w fun r w' => ProveV l e r w w' := by
 cases hst : isStR e with
 | false => exact prove_no l e hst v w h
 | true => exact prove_st l hl h64 e he hst v w h
def SProveP (l : List I5) (e : St) (cl : List C2) (er pl : Int) : Prop := (rightR l ≠ (0, 0) /\ cl = [] /\ er = (rightR l).1 /\ pl = (rightR l).2) \/ (rightR l = (0, 0) /\ ProveP l e cl er pl)
def SProveV (l : List I5) (e : St) (r : Ending) (w w' : World) : Prop := ∃ cv er pl cl, r = .returned (.tuple #[cv, .int .i64 er, .int .i64 pl]) /\ SProveP l e cl er pl /\ w'.ownsRow w.heap.size 71 17 cv cl.length (cl.flatMap clCells) /\ Below w.heap.size w w'
theorem SProve_any (l : List I5) (h64 : ∀ i, i < l.length -> I64 (insAt l i).k) (e : St) (he : e.in64) (v : Value) (w : World) (hs : Shapes w) (h : Slc w v l) : Calls Tryz.prog 51 #[v, .agg (stC e)] w fun r w' => SProveV l e r w w' := by
 have hk := Kn.nil [] w
 have HS := hide hs
 have HV := hide h
 have H64 := hide h64
 have HEI := hide he
 obtain ⟨a, cap, rfl⟩ := h.len
 clear hs h h64 he
 rcases rightR_or l with hr | hr
 · have HR := hide hr
   have HAF := hide (right_fit hr)
   go_enter Tryz.func51, Tryz.ntmps51
   go_wp2_with (first | (go_at_call 24; refine (codeRight_any l _ _ (HS.out.below hk.mod.below HS.out.1) (HV.out.below hk.mod.below (Nat.le_refl _))).mono ?_; rintro x w1 ⟨rfl, hb⟩; replace hk := hk.call hb; clear hb; rw [hr]) | (go_at_call 77; refine (prove_any l HAF.out H64.out e HEI.out _ _ (HV.out.below hk.mod.below (Nat.le_refl _))).mono ?_; rintro x w2 ⟨cv, er, pl, cl, rfl, hP, hown, hb⟩; have HO := hide (own_low hown hk.mod.size); replace hk := hk.call hb; clear hb hown) | ((with_reducible apply gL); (first | refine wS hk ?_ | (refine wN hk ?_; clear hk; intro w1 hk)); simp only [pw]))
   exact post_3 rfl rfl rfl rfl rfl ⟨_, _, _, cl, rfl, Or.inr ⟨HR.out, hP⟩, HO.out, hk.mod.below⟩
 · obtain ⟨p, q, hpq⟩ : ∃ p q, rightR l = (p, q) := ⟨_, _, rfl⟩
   rw [hpq] at hr
   simp only at hr
   subst hr
   have HR := hide hpq
   go_enter Tryz.func51, Tryz.ntmps51
   go_wp2_with (first | (go_at_call 24; refine (codeRight_any l _ _ (HS.out.below hk.mod.below HS.out.1) (HV.out.below hk.mod.below (Nat.le_refl _))).mono ?_; rintro x w1 ⟨rfl, hb⟩; replace hk := hk.call hb; clear hb; rw [hpq]) | ((with_reducible apply gL); (first | refine wS hk ?_ | (refine wN hk ?_; clear hk; intro w1 hk)); simp only [pw]))
   exact post_3 rfl rfl rfl rfl rfl ⟨_, _, _, [], rfl, Or.inl ⟨by rw [HR.out]; simp, rfl, by rw [HR.out], by rw [HR.out]⟩, World.ownsRow_nil _ _ _ _, hk.mod.below⟩
def sVal (i : I5) : Value :=
 if i.o = 6 then .iface 148 (.agg #[.int .i64 i.a, .int .i64 i.b, .int .i64 i.c])
 else if i.o = 7 then .iface 150 (.agg #[.int .i64 i.a, .int .i64 i.b])
 else if i.o = 8 then .iface 152 (.agg #[.int .i64 i.a, .int .i64 i.b])
 else iVal i
theorem sVal_else {i : I5} (h6 : i.o ≠ 6) (h7 : i.o ≠ 7) (h8 : i.o ≠ 8) : sVal i = iVal i := by unfold sVal; rw [if_neg h6, if_neg h7, if_neg h8]
def Fine (i : I5) (s : MS) : Prop := (doI i s).1 ≠ 3 /\ (doI i s).1 ≠ 4
theorem step_sure (i : I5) (g pb cap n : Nat) (s : MS) (F : Int) (o : O4) (w : World) (h : MRow w g (.slice (some ⟨pb, 0, none⟩) n cap) s F o) (hp : s.pc < n) (hn64 : n <= 64) (hn : s.n < 1000000)
 (hi : w.cell? ⟨pb, s.pc, none⟩ = some (sVal i)) (hpg : pb ≠ g) (hfit : i.fits n = true) (hfine : Fine i (nxt s)) :
 Calls Tryz.prog 31 #[.pointer (some ⟨g, 0, none⟩)] w fun e w' => e = .returned (.tuple #[]) /\ MRow w' g (.slice (some ⟨pb, 0, none⟩) n cap) (doI i (nxt s)).2 F (outO (doI i (nxt s)).1 s.pc (doI i (nxt s)).2 o) /\ But g w w' := by
 by_cases h6 : i.o = 6
 · have hc := fit_cases hfit
   obtain ⟨op, a, b, c, k⟩ := i
   simp only at hc h6
   subst h6
   rcases hc with h | ⟨h, _⟩ | ⟨h, _⟩ | ⟨h, _⟩ | ⟨h, _⟩ | ⟨h, _⟩ | ⟨_, ha, hb, hc⟩ | ⟨h, _⟩ | ⟨h, _⟩ | ⟨h, _⟩ | ⟨h, _⟩ | ⟨h, _⟩
   all_goals try (exact absurd h (by decide))
   obtain ⟨a, ha', rfl⟩ := ha.nat
   obtain ⟨b, hb', rfl⟩ := hb.nat
   obtain ⟨c, hc', rfl⟩ := hc.nat
   have hz : ¬ (nxt s).r c = 0 := fun hz => hfine.1 (by unfold doI; simp [hz])
   have hd : doI ⟨6, a, b, c, k⟩ (nxt s) = (0, { nxt s with r := upd (nxt s).r a (wrap64 (((nxt s).r b).tdiv ((nxt s).r c))) }) := by unfold doI; simp; intro h; exact absurd h hz
   rw [hd]
   exact step_gen 148 178 (.agg #[.int .i64 a, .int .i64 b, .int .i64 c]) 0 _ g pb cap n s F o w h hp hn64 hn hi hpg (fun _ => by kernel_rfl) (fun _ => by kernel_rfl) (hide fun w1 h1 => sdiv_do a b c ha' hb' hc' g _ _ F o w1 h1 (by simpa using hz))
 · by_cases h7 : i.o = 7
   · have hc := fit_cases hfit
     obtain ⟨op, a, b, c, k⟩ := i
     simp only at hc h7
     subst h7
     rcases hc with h | ⟨h, _⟩ | ⟨h, _⟩ | ⟨h, _⟩ | ⟨h, _⟩ | ⟨h, _⟩ | ⟨h, _⟩ | ⟨_, ha, hb⟩ | ⟨h, _⟩ | ⟨h, _⟩ | ⟨h, _⟩ | ⟨h, _⟩
     all_goals try (exact absurd h (by decide))
     obtain ⟨a, ha', rfl⟩ := ha.nat
     obtain ⟨b, hb', rfl⟩ := hb.nat
     have hz : 0 <= (nxt s).r b /\ (nxt s).r b < 16 := Classical.byContradiction fun hz => hfine.2 (by unfold doI; simp only [Int.toNat_natCast]; simp [hz])
     have hd : doI ⟨7, a, b, c, k⟩ (nxt s) = (0, { nxt s with r := upd (nxt s).r a ((nxt s).m ((nxt s).r b).toNat) }) := by unfold doI; simp; exact hz
     rw [hd]
     exact step_gen 150 179 (.agg #[.int .i64 a, .int .i64 b]) 0 _ g pb cap n s F o w h hp hn64 hn hi hpg (fun _ => by kernel_rfl) (fun _ => by kernel_rfl) (hide fun w1 h1 => sload_do a b ((nxt s).r b).toNat ha' hb' (by omega) g _ _ F o w1 h1 (hide (by omega)))
   · by_cases h8 : i.o = 8
     · have hc := fit_cases hfit
       obtain ⟨op, a, b, c, k⟩ := i
       simp only at hc h8
       subst h8
       rcases hc with h | ⟨h, _⟩ | ⟨h, _⟩ | ⟨h, _⟩ | ⟨h, _⟩ | ⟨h, _⟩ | ⟨h, _⟩ | ⟨h, _⟩ | ⟨_, ha, hb⟩ | ⟨h, _⟩ | ⟨h, _⟩ | ⟨h, _⟩
       all_goals try (exact absurd h (by decide))
       obtain ⟨a, ha', rfl⟩ := ha.nat
       obtain ⟨b, hb', rfl⟩ := hb.nat
       have hz : 0 <= (nxt s).r a /\ (nxt s).r a < 16 := Classical.byContradiction fun hz => hfine.2 (by unfold doI; simp only [Int.toNat_natCast]; simp [hz])
       have hd : doI ⟨8, a, b, c, k⟩ (nxt s) = (0, { nxt s with m := upd (nxt s).m ((nxt s).r a).toNat ((nxt s).r b) }) := by unfold doI; simp; exact hz
       rw [hd]
       exact step_gen 152 180 (.agg #[.int .i64 a, .int .i64 b]) 0 _ g pb cap n s F o w h hp hn64 hn hi hpg (fun _ => by kernel_rfl) (fun _ => by kernel_rfl) (hide fun w1 h1 => sstore_do a b ((nxt s).r a).toNat ha' hb' (by omega) g _ _ F o w1 h1 (hide (by omega)))
     · rw [sVal_else h6 h7 h8] at hi
       exact step_any i g pb cap n s F o w h hp hn64 hn hi hpg hfit
theorem runner_sure {l : List I5} (hl : AllFit l) {Can : MS -> Prop} (hn : ∀ s, Can s -> s.pc < l.length -> (doAt l s).1 = 0 -> Can (doAt l s).2) (hf : ∀ s, Can s -> s.pc < l.length -> Fine (insAt l s.pc) (nxt s)) : Runner sVal l Can :=
 ⟨hl, hn, fun g pb cap s F w h hpc hsn hc hne hcan => step_sure (insAt l s.pc) g pb cap l.length s F O4.zero w h hpc hl.2.1 hsn hc hne (by rw [insAt_get hpc]; exact hl.2.2 _ hpc) (hf s hcan hpc)⟩
def CanT (p : List I5) (cl : Nat -> Option St) (e : St) (m : MS) : Prop := m.pc < p.length /\ (∃ s, hereC p cl e m.pc = some s /\ inS m.r s) /\ ∀ j, I64 (m.m j)
theorem Taken.go {p : List I5} {cl : Nat -> Option St} {e : St} (h : Taken p cl e) {m : MS} (hc : CanT p cl e m) : (doAt p m).1 = 1 \/ ((doAt p m).1 = 0 /\ CanT p cl e (doAt p m).2) := by
 obtain ⟨hpc, ⟨s, hs, hr⟩, hw⟩ := hc
 have hok := h.here_ok (by omega) hs
 have h0 := stepC_ok (h.steps.1 m.pc hpc)
 obtain ⟨hd, hf, ho⟩ := h0.2 s hs
 have hri := h.regs m.pc hpc
 have hsound := doI_sound (i := insAt p m.pc) (s := s) (m := nxt m) hri.1 ⟨hri.2.1, hri.2.2.1⟩ hok.2 hr hw hd
 rcases hsound with ⟨h1, _⟩ | ⟨h1, hw2, hc⟩
 · exact Or.inl h1
 · refine Or.inr ⟨h1, ?_⟩
   have hnext : (doAt p m).2.pc < p.length /\ ∃ t, hereC p cl e (doAt p m).2.pc = some t /\ inS (doAt p m).2.r t := by
    rcases hc with ⟨hp, s', hs', hr'⟩ | ⟨h9, hp, s', hs', hr'⟩
    · have hp2 : (doAt p m).2.pc = m.pc + 1 := hp
      rw [hp2]
      refine h.arrive (n := m.pc + 1) (by omega) ?_ hr'
      show (stepC p cl m.pc (comeC p cl e m.pc)).2 = some s'
      rw [ho]; exact hs'
    · have hp2 : (doAt p m).2.pc = (insAt p m.pc).k.toNat := hp
      have hj := h.jump m.pc hpc h9
      rw [hp2]
      refine ⟨hj.2, ?_⟩
      have hl := hf h9
      rw [hs'] at hl
      obtain ⟨t, ht, hlt⟩ := liesO_some hl
      refine ⟨t, ?_, inS_lies hr' hlt⟩
      unfold hereC
      rw [if_pos (markB_of hpc h9 hj.1)]; exact ht
   exact ⟨hnext.1, hnext.2, hw2⟩
theorem runner_taken {l : List I5} (hl : AllFit l) {cl : Nat -> Option St} {e : St} (h : Taken l cl e) : Runner sVal l (CanT l cl e) :=
 runner_sure hl (fun s hs hpc h0 => by
  rcases h.go hs with h1 | h1
  · rw [h1] at h0; cases h0
  · exact h1.2) (fun s hs hpc => by
  rcases h.go hs with h1 | h1
  · exact ⟨by show (doAt l s).1 ≠ 3; rw [h1]; decide, by show (doAt l s).1 ≠ 4; rw [h1]; decide⟩
  · exact ⟨by show (doAt l s).1 ≠ 3; rw [h1.1]; decide, by show (doAt l s).1 ≠ 4; rw [h1.1]; decide⟩)
theorem can_start {l : List I5} {cl : Nat -> Option St} {e : St} (h : Taken l cl e) {r : Nat -> Int} (hr : inS r e) : CanT l cl e (startS r) := by
 obtain ⟨h0, h1⟩ := h.arrive (n := 0) (by omega) (r := r) (s := e) rfl hr
 exact ⟨h0, h1, fun j => by show I64 0; unfold I64; omega⟩
theorem sureOf_no (T : Nat) (v : Value) (h1 : T ≠ 137) (h2 : T ≠ 138) (h3 : T ≠ 139) (w : World) : Calls Tryz.prog 27 #[.iface T v] w fun e w' => e = .returned (.iface T v) /\ Below w.heap.size w w' := by
 have hk := Kn.nil [] w
 go_enter Tryz.func27, Tryz.ntmps27
 go_wp2_with ((with_reducible apply gL); (first | refine wS hk ?_ | (refine wN hk ?_; clear hk; intro w1 hk)); simp only [pw])
 go_ret
 exact ⟨rfl, hk.mod.below⟩
theorem build_sd (x y z : Int) (w : World) : (Instr.build 148 [(0, .agg #[.int .i64 x, .int .i64 y, .int .i64 z])].toArray).run Tryz.prog w = .ok (.agg #[.int .i64 x, .int .i64 y, .int .i64 z]) w := run_build w _ _ _ (by kernel_rfl)
theorem build_sl (x y : Int) (w : World) : (Instr.build 150 [(0, .agg #[.int .i64 x, .int .i64 y])].toArray).run Tryz.prog w = .ok (.agg #[.int .i64 x, .int .i64 y]) w := run_build w _ _ _ (by kernel_rfl)
theorem build_ss (x y : Int) (w : World) : (Instr.build 152 [(0, .agg #[.int .i64 x, .int .i64 y])].toArray).run Tryz.prog w = .ok (.agg #[.int .i64 x, .int .i64 y]) w := run_build w _ _ _ (by kernel_rfl)
theorem sureOf_div (a b c : Int) (w : World) : Calls Tryz.prog 27 #[.iface 137 (.agg #[.int .i64 a, .int .i64 b, .int .i64 c])] w fun e w' => e = .returned (.iface 148 (.agg #[.int .i64 a, .int .i64 b, .int .i64 c])) /\ Below w.heap.size w w' := by
 have hk := Kn.nil [] w
 go_enter Tryz.func27, Tryz.ntmps27
 go_wp2_with (first | (refine wBuild hk ?_ (hb := build_sd _ _ _ _); simp only [pw]) | ((with_reducible apply gL); (first | refine wS hk ?_ | (refine wN hk ?_; clear hk; intro w1 hk)); simp only [pw]))
 go_ret
 exact ⟨rfl, hk.mod.below⟩
theorem sureOf_load (a b : Int) (w : World) : Calls Tryz.prog 27 #[.iface 138 (.agg #[.int .i64 a, .int .i64 b])] w fun e w' => e = .returned (.iface 150 (.agg #[.int .i64 a, .int .i64 b])) /\ Below w.heap.size w w' := by
 have hk := Kn.nil [] w
 go_enter Tryz.func27, Tryz.ntmps27
 go_wp2_with (first | (refine wBuild hk ?_ (hb := build_sl _ _ _); simp only [pw]) | ((with_reducible apply gL); (first | refine wS hk ?_ | (refine wN hk ?_; clear hk; intro w1 hk)); simp only [pw]))
 go_ret
 exact ⟨rfl, hk.mod.below⟩
theorem sureOf_store (a b : Int) (w : World) : Calls Tryz.prog 27 #[.iface 139 (.agg #[.int .i64 a, .int .i64 b])] w fun e w' => e = .returned (.iface 152 (.agg #[.int .i64 a, .int .i64 b])) /\ Below w.heap.size w w' := by
 have hk := Kn.nil [] w
 go_enter Tryz.func27, Tryz.ntmps27
 go_wp2_with (first | (refine wBuild hk ?_ (hb := build_ss _ _ _); simp only [pw]) | ((with_reducible apply gL); (first | refine wS hk ?_ | (refine wN hk ?_; clear hk; intro w1 hk)); simp only [pw]))
 go_ret
 exact ⟨rfl, hk.mod.below⟩
end Go.Proofs.YtamiichlbmllcabGreatDoor
