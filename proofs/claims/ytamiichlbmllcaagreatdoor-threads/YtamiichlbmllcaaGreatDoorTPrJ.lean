import Derived.Test.YtamiichlbmllcaaGreatDoorTPrI
/-
  proof.proverOf: five lists and the prover are made, in whatever order.
-/
namespace Go.Proofs.YtamiichlbmllcaaGreatDoor
open Go.RowKit
section inv
variable {P : Program} {ops : Array Oper} {Q : Exit → Act → World → Prop}
def unl (ls : Array Bool) : Nat := ls.toList.countP (· == false)
theorem countP_set : ∀ (l : List Bool) (i : Nat), l[i]? = some false → (l.set i true).countP (· == false) + 1 = l.countP (· == false)
  | [], _, h => by simp at h
  | x :: r, 0, h => by
    simp only [List.getElem?_cons_zero, Option.some.injEq] at h
    subst h
    simp
  | x :: r, i + 1, h => by
    have ih := countP_set r i (by simpa using h)
    simp only [List.set_cons_succ, List.countP_cons]
    omega
theorem unl_set {ls : Array Bool} {i : Nat} (h : ls.getD i true = false) : unl (ls.setIfInBounds i true) + 1 = unl ls := by
  unfold unl
  rw [Array.toList_setIfInBounds]
  apply countP_set
  rw [Array.getD_eq_getD_getElem?] at h
  rw [Array.getElem?_toList]
  cases hx : ls[i]? with
  | none => rw [hx] at h; cases h
  | some b => rw [hx] at h; simp at h; rw [h]
/-- an order that is drawn, by what each operation leaves whatever came ahead of it -/
theorem wpAny_inv (Inv : Array Bool → Act → World → Prop) (hend : ∀ ls a w, Inv ls a w → Region.ready .any ops ls = [] → Q .normal a w) (hstep : ∀ ls a w i, Inv ls a w → i ∈ Region.ready .any ops ls → wpOp P ops Q i (fun a' w' => Inv (ls.setIfInBounds i true) a' w') a w) :
    ∀ (fuel : Nat) (ls : Array Bool) (a : Act) (w : World), unl ls ≤ fuel → Inv ls a w → wpAny P .any ops Q fuel ls a w
  | 0, ls, a, w, hf, h => by
    have hr : Region.ready .any ops ls = [] := by
      apply Classical.byContradiction
      intro hne
      obtain ⟨i, hi⟩ := List.exists_mem_of_ne_nil _ hne
      have := unl_set (mem_ready.1 hi).1
      omega
    exact ⟨hr, hend ls a w h hr⟩
  | fuel + 1, ls, a, w, hf, h => by
    refine ⟨fun hr => hend ls a w h hr, fun i hi => ?_⟩
    have hu := unl_set (mem_ready.1 hi).1
    exact wpOp_mono (fun a' w' h' => wpAny_inv Inv hend hstep fuel _ a' w' (by omega) h') (hstep ls a w i h hi)
theorem wpOp_act {i : Nat} {o : Oper} {K : Act → World → Prop} {a : Act} {w : World} (ho : ops[i]? = some o) (hg : o.guard = none) (h : o.wp P a w K Q) : wpOp P ops Q i K a w := by
  unfold wpOp
  simp only [ho, Region.wanted, hg, if_true]
  exact Or.inl h
theorem wpOp_actK {i : Nat} {o : Oper} {K : Act → World → Prop} {a : Act} {w : World} (ho : ops[i]? = some o) (hg : o.guard = none) (h : ∀ K' : Act → World → Prop, (∀ a' w', K a' w' → K' a' w') → o.wp P a w K' Q) : wpOp P ops Q i K a w := wpOp_act ho hg (h K fun _ _ h => h)
end inv
def dstP (i : Nat) : Nat := [6, 7, 8, 9, 10, 11, 12, 13, 14, 15, 16, 17, 18, 19, 2].getD i 0
def valP (pb pc n : Nat) (G : Nat → Nat) (i : Nat) : Value := [.slice (some ⟨pb, 0, none⟩) n pc, .slice (some ⟨pb, 0, none⟩) n pc, .slice (some ⟨G 2, 0, none⟩) n n, .int .i64 n, .slice (some ⟨G 4, 0, none⟩) n n, .agg (rtC pb pc (G 2) (G 4) n), .slice (some ⟨pb, 0, none⟩) n pc, .slice (some ⟨G 7, 0, none⟩) n n, .int .i64 n, .slice (some ⟨G 9, 0, none⟩) n n, .int .i64 n, .slice (some ⟨G 11, 0, none⟩) n n, .agg (prC pb pc (G 2) (G 4) (G 7) (G 9) (G 11) n), .pointer (some ⟨G 13, 0, none⟩), .pointer (some ⟨G 13, 0, none⟩)].getD i undef
def isA (i : Nat) : Bool := [2, 4, 7, 9, 11, 13].contains i
def rowP (l : List I5) (pb pc : Nat) (G : Nat → Nat) (i : Nat) : Array Value × TypeId := if i = 2 then (bosA l.length (markB l), 4) else if i = 4 then (plsA l.length (fun _ => none), 174) else if i = 7 then (bosA l.length (backB l), 4) else if i = 9 then (intA l.length (fun _ => 0), 3) else if i = 11 then (bosA l.length (fun _ => false), 4) else (prC pb pc (G 2) (G 4) (G 7) (G 9) (G 11) l.length, 137)
def actP (p : Value) (n : Nat) (y : Nat → Value) : Act := ⟨#[p, y 1, y 2, .int .i64 n, y 4, y 5, y 6, y 7, y 8, y 9, y 10, y 11, y 12, y 13, y 14, y 15, y 16, y 17, y 18, y 19], []⟩
def updV (y : Nat → Value) (s : Nat) (v : Value) : Nat → Value := fun k => if k = s then v else y k
theorem lt15 {i : Nat} (h : i < 15) : i = 0 ∨ i = 1 ∨ i = 2 ∨ i = 3 ∨ i = 4 ∨ i = 5 ∨ i = 6 ∨ i = 7 ∨ i = 8 ∨ i = 9 ∨ i = 10 ∨ i = 11 ∨ i = 12 ∨ i = 13 ∨ i = 14 := by omega
theorem put_act (p : Value) (n : Nat) (y : Nat → Value) (v : Value) {i : Nat} (hi : i < 15) : (actP p n y).put (some (dstP i)) v = actP p n (updV y (dstP i) v) := by
  rcases lt15 hi with rfl | rfl | rfl | rfl | rfl | rfl | rfl | rfl | rfl | rfl | rfl | rfl | rfl | rfl | rfl <;> rfl
theorem dst_inj {i j : Nat} (hi : i < 15) (hj : j < 15) (h : dstP i = dstP j) : i = j := by
  rcases lt15 hi with rfl | rfl | rfl | rfl | rfl | rfl | rfl | rfl | rfl | rfl | rfl | rfl | rfl | rfl | rfl <;> rcases lt15 hj with rfl | rfl | rfl | rfl | rfl | rfl | rfl | rfl | rfl | rfl | rfl | rfl | rfl | rfl | rfl <;> first | rfl | (exact absurd h (by decide))
structure PIr (l : List I5) (pb pc : Nat) (w0 : World) (y : Nat → Value) (G : Nat → Nat) (ls : Array Bool) (w : World) : Prop where
  sz : ls.size = 15
  mod : Mod [] w0 w
  val : ∀ i, i < 15 → ls.getD i false = true → y (dstP i) = valP pb pc l.length G i
  row : ∀ i, isA i = true → ls.getD i false = true → At w (G i) (rowP l pb pc G i).1 (rowP l pb pc G i).2 ∧ w0.heap.size ≤ G i
  ne : ∀ i j, isA i = true → isA j = true → i ≠ j → ls.getD i false = true → ls.getD j false = true → G i ≠ G j
  d5 : ls.getD 5 false = true → ls.getD 2 false = true ∧ ls.getD 4 false = true
  d12 : ls.getD 12 false = true → ls.getD 5 false = true ∧ ls.getD 7 false = true ∧ ls.getD 9 false = true ∧ ls.getD 11 false = true
  d13 : ls.getD 13 false = true → ls.getD 12 false = true
  d14 : ls.getD 14 false = true → ls.getD 13 false = true
theorem getD_set {ls : Array Bool} {i j : Nat} (hs : ls.size = 15) (hi : i < 15) : (ls.setIfInBounds i true).getD j false = (decide (i = j) || ls.getD j false) := by
  rw [Array.getD_eq_getD_getElem?, Array.getD_eq_getD_getElem?, Array.getElem?_setIfInBounds]
  by_cases h : i = j
  · subst h; simp [hs, hi]
  · simp [h]
theorem not_done {ls : Array Bool} {i : Nat} (h : ls.getD i true = false) : ls.getD i false = false := by
  rw [Array.getD_eq_getD_getElem?] at *
  cases hx : ls[i]? with
  | none => rw [hx] at h; cases h
  | some b => rw [hx] at h; simpa using h
theorem At.ltE {w : World} {b : Nat} {A : Array Value} {t : TypeId} (h : At w b A t) : b < w.heap.size := lt_of_block h
/-- what hangs on which block -/
theorem valP_eq {pb pc n : Nat} {G G' : Nat → Nat} {j : Nat} (hj : j < 15) (h2 : j = 2 ∨ j = 5 ∨ j = 12 → G' 2 = G 2) (h4 : j = 4 ∨ j = 5 ∨ j = 12 → G' 4 = G 4) (h7 : j = 7 ∨ j = 12 → G' 7 = G 7) (h9 : j = 9 ∨ j = 12 → G' 9 = G 9) (h11 : j = 11 ∨ j = 12 → G' 11 = G 11) (h13 : j = 13 ∨ j = 14 → G' 13 = G 13) : valP pb pc n G' j = valP pb pc n G j := by
  unfold valP
  rcases lt15 hj with rfl | rfl | rfl | rfl | rfl | rfl | rfl | rfl | rfl | rfl | rfl | rfl | rfl | rfl | rfl
  · rfl
  · rfl
  · simp [h2]
  · rfl
  · simp [h4]
  · simp [h2, h4]
  · rfl
  · simp [h7]
  · rfl
  · simp [h9]
  · rfl
  · simp [h11]
  · simp [h2, h4, h7, h9, h11]
  · simp [h13]
  · simp [h13]
theorem PIr.step {l : List I5} {pb pc : Nat} {w0 w w' : World} {y : Nat → Value} {G G' : Nat → Nat} {ls : Array Bool} {i : Nat} (h : PIr l pb pc w0 y G ls w) (hi : i < 15) (hun : ls.getD i true = false) (hG : ∀ j, j ≠ i → G' j = G j) (hm : Mod [] w w') (hnew : isA i = true → At w' (G' i) (rowP l pb pc G' i).1 (rowP l pb pc G' i).2 ∧ w.heap.size ≤ G' i)
    (e5 : i = 5 → ls.getD 2 false = true ∧ ls.getD 4 false = true) (e12 : i = 12 → ls.getD 5 false = true ∧ ls.getD 7 false = true ∧ ls.getD 9 false = true ∧ ls.getD 11 false = true) (e13 : i = 13 → ls.getD 12 false = true) (e14 : i = 14 → ls.getD 13 false = true) :
    PIr l pb pc w0 (updV y (dstP i) (valP pb pc l.length G' i)) G' (ls.setIfInBounds i true) w' := by
  have hnd := not_done hun
  have hold : ∀ j, ls.getD j false = true → j ≠ i := fun j hj e => by subst e; rw [hnd] at hj; cases hj
  have hset := fun j => getD_set (ls := ls) (i := i) (j := j) h.sz hi
  have hd : ∀ j, (ls.setIfInBounds i true).getD j false = true → i = j ∨ ls.getD j false = true := fun j hj => by rw [hset j] at hj; simpa using hj
  have hup : ∀ j, ls.getD j false = true → (ls.setIfInBounds i true).getD j false = true := fun j hj => by rw [hset j, hj]; simp
  have gsame : ∀ k, ls.getD k false = true → G' k = G k := fun k hk => hG k (hold k hk)
  have hrow : ∀ j, isA j = true → ls.getD j false = true → rowP l pb pc G' j = rowP l pb pc G j := fun j hj hjd => by
    unfold rowP
    by_cases e13' : j = 13
    · subst e13'
      have q := h.d12 (h.d13 hjd)
      have q5 := h.d5 q.1
      rw [gsame 2 q5.1, gsame 4 q5.2, gsame 7 q.2.1, gsame 9 q.2.2.1, gsame 11 q.2.2.2]
    · have : j = 2 ∨ j = 4 ∨ j = 7 ∨ j = 9 ∨ j = 11 := by unfold isA at hj; simp at hj; omega
      rcases this with rfl | rfl | rfl | rfl | rfl <;> simp
  refine ⟨by simp [h.sz], h.mod.trans hm, fun j hj hjd => ?_, fun j hj hjd => ?_, fun j k hj hk hjk hjd hkd => ?_, fun h5 => ?_, fun h12 => ?_, fun h13 => ?_, fun h14 => ?_⟩
  · rcases hd j hjd with rfl | hjd
    · unfold updV; rw [if_pos rfl]
    · have hne : dstP j ≠ dstP i := fun e => hold j hjd (dst_inj hj hi e)
      have : updV y (dstP i) (valP pb pc l.length G' i) (dstP j) = y (dstP j) := by unfold updV; rw [if_neg hne]
      rw [this, h.val j hj hjd]
      refine (valP_eq hj ?_ ?_ ?_ ?_ ?_ ?_).symm
      · rintro (rfl | rfl | rfl)
        · exact gsame 2 hjd
        · exact gsame 2 (h.d5 hjd).1
        · exact gsame 2 (h.d5 (h.d12 hjd).1).1
      · rintro (rfl | rfl | rfl)
        · exact gsame 4 hjd
        · exact gsame 4 (h.d5 hjd).2
        · exact gsame 4 (h.d5 (h.d12 hjd).1).2
      · rintro (rfl | rfl)
        · exact gsame 7 hjd
        · exact gsame 7 (h.d12 hjd).2.1
      · rintro (rfl | rfl)
        · exact gsame 9 hjd
        · exact gsame 9 (h.d12 hjd).2.2.1
      · rintro (rfl | rfl)
        · exact gsame 11 hjd
        · exact gsame 11 (h.d12 hjd).2.2.2
      · rintro (rfl | rfl)
        · exact gsame 13 hjd
        · exact gsame 13 (h.d14 hjd)
  · rcases hd j hjd with rfl | hjd
    · exact ⟨(hnew hj).1, Nat.le_trans h.mod.size (hnew hj).2⟩
    · rw [hrow j hj hjd, gsame j hjd]
      exact ⟨(h.row j hj hjd).1.mod hm (by simp), (h.row j hj hjd).2⟩
  · rcases hd j hjd with rfl | hjd
    · rcases hd k hkd with rfl | hkd
      · exact absurd rfl hjk
      · rw [gsame k hkd]
        have h1 := (hnew hj).2
        have h2 := (h.row k hk hkd).1.ltE
        omega
    · rcases hd k hkd with rfl | hkd
      · rw [gsame j hjd]
        have h1 := (hnew hk).2
        have h2 := (h.row j hj hjd).1.ltE
        omega
      · rw [gsame j hjd, gsame k hkd]; exact h.ne j k hj hk hjk hjd hkd
  · rcases hd 5 h5 with e | h5
    · exact ⟨hup _ (e5 e).1, hup _ (e5 e).2⟩
    · exact ⟨hup _ (h.d5 h5).1, hup _ (h.d5 h5).2⟩
  · rcases hd 12 h12 with e | h12
    · have q := e12 e; exact ⟨hup _ q.1, hup _ q.2.1, hup _ q.2.2.1, hup _ q.2.2.2⟩
    · have q := h.d12 h12; exact ⟨hup _ q.1, hup _ q.2.1, hup _ q.2.2.1, hup _ q.2.2.2⟩
  · rcases hd 13 h13 with e | h13
    · exact hup _ (e13 e)
    · exact hup _ (h.d13 h13)
  · rcases hd 14 h14 with e | h14
    · exact hup _ (e14 e)
    · exact hup _ (h.d14 h14)
theorem int_zero (n : Nat) : intA n (fun _ => 0) = rowsA n 1 (fun _ => #[.int .i64 0]) := rows_congr fun _ _ => by rw [show wrap64 ((0 : Nat) : Int) = 0 by unfold wrap64; omega]
theorem PIr.same {l : List I5} {pb pc : Nat} {w0 w : World} {y : Nat → Value} {G : Nat → Nat} {ls : Array Bool} {k : Nat} {v : Value} (h : PIr l pb pc w0 y G ls w) (hv : y k = v) : PIr l pb pc w0 (updV y k v) G ls w := by
  have e : updV y k v = y := by funext j; unfold updV; split; (rename_i e; rw [e, hv]); rfl
  rw [e]; exact h
theorem all_done {ops : Array Oper} {ls : Array Bool} (hr : Region.ready .any ops ls = []) {i : Nat} {o : Oper} (hi : i < ls.size) (ho : ops[i]? = some o) (hd : ∀ e ∈ o.after, Region.binds .any e = true → ls.getD e.on false = true) : ls.getD i false = true := by
  cases hx : ls.getD i true with
  | true =>
    rw [Array.getD_eq_getD_getElem?, Array.getElem?_eq_getElem hi] at hx ⊢
    simpa using hx
  | false =>
    have : i ∈ Region.ready .any ops ls := mem_ready.2 ⟨hx, o, ho, hd⟩
    rw [hr] at this
    cases this
/-- a prover that is new -/
structure NewP (l : List I5) (V pb pc mb sb kb cb hb : Nat) (w w' : World) : Prop where
  blk : PrvB l V pb pc mb sb kb cb hb w'
  states : At w' sb (plsA l.length (fun _ => none)) 174
  passes : At w' cb (intA l.length (fun _ => 0)) 3
  changed : At w' hb (bosA l.length (fun _ => false)) 4
  low : w.heap.size ≤ V ∧ w.heap.size ≤ mb ∧ w.heap.size ≤ sb ∧ w.heap.size ≤ kb ∧ w.heap.size ≤ cb ∧ w.heap.size ≤ hb
theorem oVal {P : Program} {o : Oper} {v : Value} {a : Act} {w : World} {K : Act → World → Prop} {Q : Exit → Act → World → Prop} (hr : (execOp a.eval o).run P w = .ok (.value v) w) (h : K (a.put o.dst v) w) : o.wp P a w K Q := by
  unfold Oper.wp
  rw [hr]
  exact h
theorem build_prv (a b c d e f : Option Addr) (n1 n2 n3 n4 n5 n6 c1 c2 c3 c4 c5 c6 : Nat) (w : World) : (Instr.build 137 [(0, .agg #[.slice a n1 c1, .slice b n2 c2, .slice c n3 c3]), (1, .slice d n4 c4), (2, .slice e n5 c5), (3, .slice f n6 c6)].toArray).run Tryz.prog w = .ok (.agg #[.slice a n1 c1, .slice b n2 c2, .slice c n3 c3, .slice d n4 c4, .slice e n5 c5, .slice f n6 c6]) w := run_build w _ _ _ (by kernel_rfl)
set_option maxHeartbeats 16000000 in
set_option maxRecDepth 100000 in
theorem proverOf_any (l : List I5) (hl : AllFit l) (pb pc : Nat) (w : World) (hp : ProgC w pb iVal l) : Calls Tryz.prog 71 #[.slice (some ⟨pb, 0, none⟩) l.length pc] w fun e w' => ∃ V mb sb kb cb hb, e = .returned (.pointer (some ⟨V, 0, none⟩)) ∧ NewP l V pb pc mb sb kb cb hb w w' ∧ Below w.heap.size w w' := by
  have hk := Kn.nil [] w
  have hL : l.length ≤ 64 := hl.2.1
  go_enter Tryz.func71, Tryz.ntmps71
  go_wp2_with (first | ((with_reducible show wpList _ _ _ _ _ _); (first | (refine wS hk ?_; simp only [Act.put, pw]) | (refine wN hk ?_; clear hk; intro w1 hk; simp only [Act.put, pw]) | (refine wT hk ?_; clear hk; intro w1 hk; simp only [Act.put]))))
  refine wp_region_noPanic (wp_region_any mixT (wpAny_inv (Inv := fun ls a wx => ∃ y G, a = actP (.slice (some ⟨pb, 0, none⟩) l.length pc) l.length y ∧ PIr l pb pc w y G ls wx) ?hend ?hstep _ _ _ _ (by decide) ?hinit))
  case hinit =>
    refine ⟨fun k => [.slice (some ⟨pb, 0, none⟩) l.length pc, undef, .pointer none, .int .i64 l.length, .slice (some ⟨pb, 0, none⟩) l.length pc, .int .i64 l.length].getD k undef, fun _ => 0, rfl, ?_⟩
    have hno : ∀ i, (Array.replicate 15 false).getD i false = true → False := fun i h => by
      rw [Array.getD_eq_getD_getElem?, Array.getElem?_replicate] at h
      split at h <;> simp at h
    exact ⟨by simp, Mod.drew _ _, fun i _ h => (hno i h).elim, fun i _ h => (hno i h).elim, fun i _ _ _ _ h _ => (hno i h).elim, fun h => (hno 5 h).elim, fun h => (hno 12 h).elim, fun h => (hno 13 h).elim, fun h => (hno 14 h).elim⟩
  case hstep =>
    clear hk
    rintro ls a w3 i ⟨y, G, rfl, h⟩ hi
    obtain ⟨hun, o, ho, hdep⟩ := mem_ready.1 hi
    have hi15 : i < 15 := by
      have := (Array.getElem?_eq_some_iff.1 ho).1
      simpa using this
    rcases lt15 hi15 with rfl | rfl | rfl | rfl | rfl | rfl | rfl | rfl | rfl | rfl | rfl | rfl | rfl | rfl | rfl
    · refine wpOp_act rfl rfl (oVal (v := valP pb pc l.length G 0) (by rfl) ?_)
      exact ⟨_, G, put_act _ _ _ _ (by omega), h.step (by omega) hun (fun _ _ => rfl) (Mod.refl _ _) (fun h => by cases h) (fun h => by cases h) (fun h => by cases h) (fun h => by cases h) (fun h => by cases h)⟩
    · refine wpOp_act rfl rfl (oVal (v := valP pb pc l.length G 1) (by rfl) ?_)
      exact ⟨_, G, put_act _ _ _ _ (by omega), h.step (by omega) hun (fun _ _ => rfl) (Mod.refl _ _) (fun h => by cases h) (fun h => by cases h) (fun h => by cases h) (fun h => by cases h) (fun h => by cases h)⟩
    · have _h0 := hun
      obtain rfl := Option.some.inj ((rfl : some _ = _).trans ho)
      have hd1 : ls.getD 1 false = true := hdep ⟨1, .data⟩ (by simp) rfl
      have hv : y 7 = .slice (some ⟨pb, 0, none⟩) l.length pc := h.val 1 (by omega) hd1
      refine wpOp_actK rfl rfl ?_
      intro K' hK'
      unfold actP
      rw [hv]
      go_step; go_at_call 63
      refine (marksOf_any l hl pb pc w3 (hp.mod h.mod List.not_mem_nil)).mono ?_
      rintro e w4 ⟨mb, rfl, hat, hge, hb⟩
      refine hK' _ _ ⟨updV (updV y 7 (.slice (some ⟨pb, 0, none⟩) l.length pc)) (dstP 2) (valP pb pc l.length (fun j => if j = 2 then mb else G j) 2), fun j => if j = 2 then mb else G j, rfl, (h.same hv).step (G' := fun j => if j = 2 then mb else G j) (by omega) hun (fun j hj => if_neg hj) (Mod.ofBelow hb) (fun _ => ⟨hat, hge⟩) (fun h => by cases h) (fun h => by cases h) (fun h => by cases h) (fun h => by cases h)⟩
    · refine wpOp_act rfl rfl (oVal (v := valP pb pc l.length G 3) (by rfl) ?_)
      exact ⟨_, G, put_act _ _ _ _ (by omega), h.step (by omega) hun (fun _ _ => rfl) (Mod.refl _ _) (fun h => by cases h) (fun h => by cases h) (fun h => by cases h) (fun h => by cases h) (fun h => by cases h)⟩
    · have _h0 := hun
      obtain rfl := Option.some.inj ((rfl : some _ = _).trans ho)
      have hd3 : ls.getD 3 false = true := hdep ⟨3, .data⟩ (by simp) rfl
      have hv : y (dstP 3) = .int .i64 l.length := h.val 3 (by omega) hd3
      refine wpOp_act rfl rfl (oMake (n := l.length) hv hv (Kn.nil [] _) (mkT_of (by rfl)) (by omega) (by omega) ?_)
      intro w4 hk4
      exact ⟨_, fun j => if j = 4 then w3.heap.size else G j, put_act _ _ _ _ (by omega), h.step (G' := fun j => if j = 4 then w3.heap.size else G j) (by omega) hun (fun j hj => if_neg hj) hk4.mod (fun _ => ⟨hk4.at List.mem_cons_self, Nat.le_refl _⟩) (fun h => by cases h) (fun h => by cases h) (fun h => by cases h) (fun h => by cases h)⟩
    · have _h0 := hun
      obtain rfl := Option.some.inj ((rfl : some _ = _).trans ho)
      have hd0 : ls.getD 0 false = true := hdep ⟨0, .data⟩ (by simp) rfl
      have hd2 : ls.getD 2 false = true := hdep ⟨2, .data⟩ (by simp) rfl
      have hd4 : ls.getD 4 false = true := hdep ⟨4, .data⟩ (by simp) rfl
      have hv0 := h.val 0 (by omega) hd0
      have hv2 := h.val 2 (by omega) hd2
      have hv4 := h.val 4 (by omega) hd4
      refine wpOp_act rfl rfl (oBuild (ps := [(0, valP pb pc l.length G 0), (1, valP pb pc l.length G 2), (2, valP pb pc l.length G 4)]) (by rw [← hv0, ← hv2, ← hv4]; rfl) (build_rt _ _ _ _ _ _ _ _ _ _) ?_)
      exact ⟨_, G, put_act _ _ _ _ (by omega), h.step (by omega) hun (fun _ _ => rfl) (Mod.refl _ _) (fun h => by cases h) (fun _ => ⟨hd2, hd4⟩) (fun h => by cases h) (fun h => by cases h) (fun h => by cases h)⟩
    · refine wpOp_act rfl rfl (oVal (v := valP pb pc l.length G 6) (by rfl) ?_)
      exact ⟨_, G, put_act _ _ _ _ (by omega), h.step (by omega) hun (fun _ _ => rfl) (Mod.refl _ _) (fun h => by cases h) (fun h => by cases h) (fun h => by cases h) (fun h => by cases h) (fun h => by cases h)⟩
    · have _h0 := hun
      obtain rfl := Option.some.inj ((rfl : some _ = _).trans ho)
      have hd6 : ls.getD 6 false = true := hdep ⟨6, .data⟩ (by simp) rfl
      have hv : y 12 = .slice (some ⟨pb, 0, none⟩) l.length pc := h.val 6 (by omega) hd6
      refine wpOp_actK rfl rfl ?_
      intro K' hK'
      unfold actP
      rw [hv]
      go_step; go_at_call 105
      refine (backsOf_any l hl pb pc w3 (hp.mod h.mod List.not_mem_nil)).mono ?_
      rintro e w4 ⟨mb, rfl, hat, hge, hb⟩
      refine hK' _ _ ⟨updV (updV y 12 (.slice (some ⟨pb, 0, none⟩) l.length pc)) (dstP 7) (valP pb pc l.length (fun j => if j = 7 then mb else G j) 7), fun j => if j = 7 then mb else G j, rfl, (h.same hv).step (G' := fun j => if j = 7 then mb else G j) (by omega) hun (fun j hj => if_neg hj) (Mod.ofBelow hb) (fun _ => ⟨hat, hge⟩) (fun h => by cases h) (fun h => by cases h) (fun h => by cases h) (fun h => by cases h)⟩
    · refine wpOp_act rfl rfl (oVal (v := valP pb pc l.length G 8) (by rfl) ?_)
      exact ⟨_, G, put_act _ _ _ _ (by omega), h.step (by omega) hun (fun _ _ => rfl) (Mod.refl _ _) (fun h => by cases h) (fun h => by cases h) (fun h => by cases h) (fun h => by cases h) (fun h => by cases h)⟩
    · have _h0 := hun
      obtain rfl := Option.some.inj ((rfl : some _ = _).trans ho)
      have hd8 : ls.getD 8 false = true := hdep ⟨8, .data⟩ (by simp) rfl
      have hv : y (dstP 8) = .int .i64 l.length := h.val 8 (by omega) hd8
      refine wpOp_act rfl rfl (oMake (n := l.length) hv hv (Kn.nil [] _) (mkT_of (by rfl)) (by omega) (by omega) ?_)
      intro w4 hk4
      exact ⟨_, fun j => if j = 9 then w3.heap.size else G j, put_act _ _ _ _ (by omega), h.step (G' := fun j => if j = 9 then w3.heap.size else G j) (by omega) hun (fun j hj => if_neg hj) hk4.mod (fun _ => ⟨(by show At w4 w3.heap.size (intA l.length fun _ => 0) _; rw [int_zero]; exact hk4.at List.mem_cons_self), Nat.le_refl _⟩) (fun h => by cases h) (fun h => by cases h) (fun h => by cases h) (fun h => by cases h)⟩
    · refine wpOp_act rfl rfl (oVal (v := valP pb pc l.length G 10) (by rfl) ?_)
      exact ⟨_, G, put_act _ _ _ _ (by omega), h.step (by omega) hun (fun _ _ => rfl) (Mod.refl _ _) (fun h => by cases h) (fun h => by cases h) (fun h => by cases h) (fun h => by cases h) (fun h => by cases h)⟩
    · have _h0 := hun
      obtain rfl := Option.some.inj ((rfl : some _ = _).trans ho)
      have hd10 : ls.getD 10 false = true := hdep ⟨10, .data⟩ (by simp) rfl
      have hv : y (dstP 10) = .int .i64 l.length := h.val 10 (by omega) hd10
      refine wpOp_act rfl rfl (oMake (n := l.length) hv hv (Kn.nil [] _) (mkT_of (by rfl)) (by omega) (by omega) ?_)
      intro w4 hk4
      exact ⟨_, fun j => if j = 11 then w3.heap.size else G j, put_act _ _ _ _ (by omega), h.step (G' := fun j => if j = 11 then w3.heap.size else G j) (by omega) hun (fun j hj => if_neg hj) hk4.mod (fun _ => ⟨hk4.at List.mem_cons_self, Nat.le_refl _⟩) (fun h => by cases h) (fun h => by cases h) (fun h => by cases h) (fun h => by cases h)⟩
    · have _h0 := hun
      obtain rfl := Option.some.inj ((rfl : some _ = _).trans ho)
      have hd5 : ls.getD 5 false = true := hdep ⟨5, .data⟩ (by simp) rfl
      have hd7 : ls.getD 7 false = true := hdep ⟨7, .data⟩ (by simp) rfl
      have hd9 : ls.getD 9 false = true := hdep ⟨9, .data⟩ (by simp) rfl
      have hd11 : ls.getD 11 false = true := hdep ⟨11, .data⟩ (by simp) rfl
      have hv5 := h.val 5 (by omega) hd5
      have hv7 := h.val 7 (by omega) hd7
      have hv9 := h.val 9 (by omega) hd9
      have hv11 := h.val 11 (by omega) hd11
      refine wpOp_act rfl rfl (oBuild (ps := [(0, valP pb pc l.length G 5), (1, valP pb pc l.length G 7), (2, valP pb pc l.length G 9), (3, valP pb pc l.length G 11)]) (by rw [← hv5, ← hv7, ← hv9, ← hv11]; rfl) (build_prv _ _ _ _ _ _ _ _ _ _ _ _ _ _ _ _ _ _ _) ?_)
      exact ⟨_, G, put_act _ _ _ _ (by omega), h.step (by omega) hun (fun _ _ => rfl) (Mod.refl _ _) (fun h => by cases h) (fun h => by cases h) (fun _ => ⟨hd5, hd7, hd9, hd11⟩) (fun h => by cases h) (fun h => by cases h)⟩
    · have _h0 := hun
      obtain rfl := Option.some.inj ((rfl : some _ = _).trans ho)
      have hd12 : ls.getD 12 false = true := hdep ⟨12, .data⟩ (by simp) rfl
      have hv12 : y 18 = .agg (prC pb pc (G 2) (G 4) (G 7) (G 9) (G 11) l.length) := h.val 12 (by omega) hd12
      refine wpOp_act rfl rfl (oBox hv12 (Kn.nil [] _) ?_)
      intro w4 hk4
      exact ⟨_, fun j => if j = 13 then w3.heap.size else G j, put_act _ _ _ _ (by omega), h.step (G' := fun j => if j = 13 then w3.heap.size else G j) (by omega) hun (fun j hj => if_neg hj) hk4.mod (fun _ => ⟨hk4.at List.mem_cons_self, Nat.le_refl _⟩) (fun h => by cases h) (fun h => by cases h) (fun _ => hd12) (fun h => by cases h)⟩
    · have _h0 := hun
      obtain rfl := Option.some.inj ((rfl : some _ = _).trans ho)
      have hd13 : ls.getD 13 false = true := hdep ⟨13, .data⟩ (by simp) rfl
      have hv13 : y 19 = .pointer (some ⟨G 13, 0, none⟩) := h.val 13 (by omega) hd13
      refine wpOp_act rfl rfl (oVal (v := y 19) (by rfl) ?_)
      rw [hv13]
      exact ⟨_, G, put_act _ _ _ _ (by omega), h.step (by omega) hun (fun _ _ => rfl) (Mod.refl _ _) (fun h => by cases h) (fun h => by cases h) (fun h => by cases h) (fun h => by cases h) (fun _ => hd13)⟩
  case hend =>
    clear hk
    rintro ls a w3 ⟨y, G, rfl, h⟩ hr
    have hs := h.sz
    have l0 : ls.getD 0 false = true := all_done hr (by omega) rfl (by intro e he hb; simp at he; (repeat' (rcases he with rfl | he)); all_goals (first | assumption | (exact absurd hb (by decide)) | (subst he; first | assumption | exact absurd hb (by decide))))
    have l1 : ls.getD 1 false = true := all_done hr (by omega) rfl (by intro e he hb; simp at he; (repeat' (rcases he with rfl | he)); all_goals (first | assumption | (exact absurd hb (by decide)) | (subst he; first | assumption | exact absurd hb (by decide))))
    have l3 : ls.getD 3 false = true := all_done hr (by omega) rfl (by intro e he hb; simp at he; (repeat' (rcases he with rfl | he)); all_goals (first | assumption | (exact absurd hb (by decide)) | (subst he; first | assumption | exact absurd hb (by decide))))
    have l6 : ls.getD 6 false = true := all_done hr (by omega) rfl (by intro e he hb; simp at he; (repeat' (rcases he with rfl | he)); all_goals (first | assumption | (exact absurd hb (by decide)) | (subst he; first | assumption | exact absurd hb (by decide))))
    have l8 : ls.getD 8 false = true := all_done hr (by omega) rfl (by intro e he hb; simp at he; (repeat' (rcases he with rfl | he)); all_goals (first | assumption | (exact absurd hb (by decide)) | (subst he; first | assumption | exact absurd hb (by decide))))
    have l10 : ls.getD 10 false = true := all_done hr (by omega) rfl (by intro e he hb; simp at he; (repeat' (rcases he with rfl | he)); all_goals (first | assumption | (exact absurd hb (by decide)) | (subst he; first | assumption | exact absurd hb (by decide))))
    have l2 : ls.getD 2 false = true := all_done hr (by omega) rfl (by intro e he hb; simp at he; (repeat' (rcases he with rfl | he)); all_goals (first | assumption | (exact absurd hb (by decide)) | (subst he; first | assumption | exact absurd hb (by decide))))
    have l4 : ls.getD 4 false = true := all_done hr (by omega) rfl (by intro e he hb; simp at he; (repeat' (rcases he with rfl | he)); all_goals (first | assumption | (exact absurd hb (by decide)) | (subst he; first | assumption | exact absurd hb (by decide))))
    have l7 : ls.getD 7 false = true := all_done hr (by omega) rfl (by intro e he hb; simp at he; (repeat' (rcases he with rfl | he)); all_goals (first | assumption | (exact absurd hb (by decide)) | (subst he; first | assumption | exact absurd hb (by decide))))
    have l9 : ls.getD 9 false = true := all_done hr (by omega) rfl (by intro e he hb; simp at he; (repeat' (rcases he with rfl | he)); all_goals (first | assumption | (exact absurd hb (by decide)) | (subst he; first | assumption | exact absurd hb (by decide))))
    have l11 : ls.getD 11 false = true := all_done hr (by omega) rfl (by intro e he hb; simp at he; (repeat' (rcases he with rfl | he)); all_goals (first | assumption | (exact absurd hb (by decide)) | (subst he; first | assumption | exact absurd hb (by decide))))
    have l5 : ls.getD 5 false = true := all_done hr (by omega) rfl (by intro e he hb; simp at he; (repeat' (rcases he with rfl | he)); all_goals (first | assumption | (exact absurd hb (by decide)) | (subst he; first | assumption | exact absurd hb (by decide))))
    have l12 : ls.getD 12 false = true := all_done hr (by omega) rfl (by intro e he hb; simp at he; (repeat' (rcases he with rfl | he)); all_goals (first | assumption | (exact absurd hb (by decide)) | (subst he; first | assumption | exact absurd hb (by decide))))
    have l13 : ls.getD 13 false = true := all_done hr (by omega) rfl (by intro e he hb; simp at he; (repeat' (rcases he with rfl | he)); all_goals (first | assumption | (exact absurd hb (by decide)) | (subst he; first | assumption | exact absurd hb (by decide))))
    have l14 : ls.getD 14 false = true := all_done hr (by omega) rfl (by intro e he hb; simp at he; (repeat' (rcases he with rfl | he)); all_goals (first | assumption | (exact absurd hb (by decide)) | (subst he; first | assumption | exact absurd hb (by decide))))
    have hy2 : y 2 = .pointer (some ⟨G 13, 0, none⟩) := h.val 14 (by omega) l14
    have hpl : pb < w.heap.size := World.block_lt_of_cell? w _ (hp 0 hl.1)
    have r2 := h.row 2 rfl l2
    have r4 := h.row 4 rfl l4
    have r7 := h.row 7 rfl l7
    have r9 := h.row 9 rfl l9
    have r11 := h.row 11 rfl l11
    have r13 := h.row 13 rfl l13
    have HN : Hid (NewP l (G 13) pb pc (G 2) (G 4) (G 7) (G 9) (G 11) w w3) := hide ⟨⟨hp.mod h.mod List.not_mem_nil, r2.1, r13.1, r7.1, h.ne 4 9 rfl rfl (by omega) l4 l9, h.ne 4 11 rfl rfl (by omega) l4 l11, h.ne 9 11 rfl rfl (by omega) l9 l11,
      by have h1 := r4.2; have h2 := r9.2; have h3 := r11.2; simp only [List.mem_cons, List.not_mem_nil, or_false, not_or]; omega,
      by simp only [List.mem_cons, List.not_mem_nil, or_false, not_or]; exact ⟨h.ne 2 4 rfl rfl (by omega) l2 l4, h.ne 2 9 rfl rfl (by omega) l2 l9, h.ne 2 11 rfl rfl (by omega) l2 l11⟩,
      by simp only [List.mem_cons, List.not_mem_nil, or_false, not_or]; exact ⟨h.ne 13 4 rfl rfl (by omega) l13 l4, h.ne 13 9 rfl rfl (by omega) l13 l9, h.ne 13 11 rfl rfl (by omega) l13 l11⟩,
      by simp only [List.mem_cons, List.not_mem_nil, or_false, not_or]; exact ⟨h.ne 7 4 rfl rfl (by omega) l7 l4, h.ne 7 9 rfl rfl (by omega) l7 l9, h.ne 7 11 rfl rfl (by omega) l7 l11⟩⟩,
      r4.1, r9.1, r11.1, r13.2, r2.2, r4.2, r7.2, r9.2, r11.2⟩
    have HM := hide h.mod
    clear r2 r4 r7 r9 r11 r13 h hr
    refine NoPanic.normal ?_
    unfold actP
    rw [hy2]
    go_wp2_with fail
    go_ret
    exact ⟨_, _, _, _, _, _, rfl, HN.out, HM.out.below⟩
end Go.Proofs.YtamiichlbmllcaaGreatDoor
