/-
  The contract of (*suretylaw.drawer).seen: a list that came out is its owner's.
-/
import Derived.Test.YtamiichlbmllcaaGreatDoorDraw
namespace Go.Proofs.YtamiichlbmllcaaGreatDoor
open Go.RowKit
theorem Tryz.infoV : (Tryz.prog.info? 64).map (fun i => (i.zero, i.size, i.bytes)) = some (some (.agg #[.int .i64 0, .int .i64 0, .int .i64 0, .int .i64 0, .int .i64 0, .int .i64 0, .int .i64 0, .int .i64 0, .int .i64 0]), 9, 72) := by kernel_rfl
theorem Tryz.infoVS : (Tryz.prog.info? 58).map (fun i => (i.zero, i.size, i.bytes)) = some (some (.slice none 0 0), 1, 24) := by kernel_rfl
def XV (M : Int) : List Value := [.int .i64 M, .int .i64 0, .int .i64 0, .int .i64 0, .int .i64 0, .int .i64 0, .int .i64 0, .int .i64 0, .int .i64 0]
def markV (k : Nat) : List Value := XV (markI k)
def repV (M : Int) (n : Nat) : List Value := (List.replicate n (XV M)).flatten
theorem repV_len (M : Int) (n : Nat) : (repV M n).length = n * 9 := by simp [repV, XV]
theorem repV_add (M : Int) (n m : Nat) : repV M n ++ repV M m = repV M (n + m) := by unfold repV; rw [← List.flatten_append, List.replicate_append_replicate]
theorem repV_one (M : Int) (n : Nat) : ∀ u ∈ repV M n, u.oneCell' = true := by
  intro u hu
  simp only [repV, List.mem_flatten, List.mem_replicate] at hu
  obtain ⟨l, ⟨_, rfl⟩, hu⟩ := hu
  simp [XV] at hu
  rcases hu with rfl | rfl <;> rfl
theorem V_parts (l : List Value) (h : 9 ≤ l.length) : ∃ c0 c1 c2 c3 c4 c5 c6 c7 c8 t, l = c0 :: c1 :: c2 :: c3 :: c4 :: c5 :: c6 :: c7 :: c8 :: t := by
  match l, h with
  | c0 :: c1 :: c2 :: c3 :: c4 :: c5 :: c6 :: c7 :: c8 :: t, _ => exact ⟨c0, c1, c2, c3, c4, c5, c6, c7, c8, t, rfl⟩
theorem V_app (A B : List Value) (k : Nat) (v : Value) : (A ++ B).set (A.length + k) v = A ++ B.set k v := by
  rw [List.set_append_right _ _ (by omega), Nat.add_sub_cancel_left]
/-- one more is written over -/
theorem V_set (M : Int) (cs : List Value) (n N : Nat) (hl : cs.length = N * 9) (hn : n < N) : ((((((((((repV M n ++ cs.drop (n * 9)).set (n * 9) (.int .i64 M)).set (n * 9 + 1) (.int .i64 0)).set (n * 9 + 2) (.int .i64 0)).set (n * 9 + 3) (.int .i64 0)).set (n * 9 + 4) (.int .i64 0)).set (n * 9 + 5) (.int .i64 0)).set (n * 9 + 6) (.int .i64 0)).set (n * 9 + 7) (.int .i64 0)).set (n * 9 + 8) (.int .i64 0)) = repV M (n + 1) ++ cs.drop ((n + 1) * 9) := by
  obtain ⟨c0, c1, c2, c3, c4, c5, c6, c7, c8, t, ht⟩ := V_parts (cs.drop (n * 9)) (by rw [List.length_drop, hl]; omega)
  have h2 : cs.drop ((n + 1) * 9) = t := by
    have := congrArg (List.drop 9) ht
    rw [List.drop_drop] at this
    rw [Nat.add_mul, Nat.one_mul]
    rw [this]; rfl
  have hA := repV_len M n
  have h3 : repV M (n + 1) = repV M n ++ XV M := by rw [← repV_add]; simp [repV]
  rw [ht, h2, h3, ← hA]
  have h0 : ∀ (B : List Value) (v : Value), (repV M n ++ B).set (repV M n).length v = repV M n ++ B.set 0 v := fun B v => V_app _ B 0 v
  rw [h0]
  simp only [V_app]
  rw [List.append_assoc]
  rfl
/-- while the four lists are made -/
structure StV (w wr : World) (base xb : Nat) (M : Int) (vl : Value) (N : Nat) : Prop where
  own : wr.ownsRow base 64 9 vl N (repV M N)
  box : wr.heap[xb]? = some (.cells #[.int .i64 M, .int .i64 0, .int .i64 0, .int .i64 0, .int .i64 0, .int .i64 0, .int .i64 0, .int .i64 0, .int .i64 0] 64 (0, 0))
  bel : Below base w wr
  hbx : base ≤ xb
  hne : ∀ k, vl.ownBlock = some k → k < xb
  hbs : base ≤ wr.heap.size
theorem StV.step {w wr w' : World} {base xb : Nat} {M : Int} {vl v' : Value} {N m : Nat} {o : Obj} (h : StV w wr base xb M vl N) (hown : w'.ownsRow base 64 9 v' (N + m) (repV M N ++ repV M m)) (hg : (wr.alloc o).grownBy w' vl.ownBlock)
    (hS : AppRoom (wr.alloc o) w' vl v' N m) :
    StV w w' base xb M vl N ∧ w'.ownsRow base 64 9 v' (N + m) (repV M (N + m)) ∧ ∀ (u : Value) (k : Nat), wr.ownsRow base 64 9 u k (repV M k) → (u.ownBlock = vl.ownBlock → k ≤ N + m) → w'.ownsRow base 64 9 u k (repV M k) := by
  rw [repV_add] at hown
  have hk : ∀ (u : Value) (k : Nat), wr.ownsRow base 64 9 u k (repV M k) → (u.ownBlock = vl.ownBlock → k ≤ N + m) → w'.ownsRow base 64 9 u k (repV M k) :=
    fun u k hu hle => keep_same (X := XV M) rfl (World.ownsRow.alloc h.own o) hown hg hS (World.ownsRow.alloc hu o) hle
  have hbx := lt_of_block h.box
  refine ⟨⟨hk vl N h.own (fun _ => by omega), ?_, (h.bel.alloc h.hbs o).grown hg (by have := h.hbs; simp; omega) (fun k hk => (World.ownsRow.lt h.own k hk).1), h.hbx, h.hne, ?_⟩, hown, hk⟩
  · rw [hg.block xb (by simp; omega) (fun e => by have := h.hne xb e.symm; omega), Below.heap_alloc _ _ _ hbx]; exact h.box
  · have h1 := hg.size; have h2 := h.hbs; simp at h1; omega
theorem V_cells {w : World} {xb : Nat} {M : Int} (h : w.heap[xb]? = some (.cells #[.int .i64 M, .int .i64 0, .int .i64 0, .int .i64 0, .int .i64 0, .int .i64 0, .int .i64 0, .int .i64 0, .int .i64 0] 64 (0, 0))) : w.cell? ⟨xb, 0, none⟩ = some (.int .i64 M) ∧ w.cell? ⟨xb, 1, none⟩ = some (.int .i64 0) ∧ w.cell? ⟨xb, 2, none⟩ = some (.int .i64 0) ∧ w.cell? ⟨xb, 3, none⟩ = some (.int .i64 0) ∧ w.cell? ⟨xb, 4, none⟩ = some (.int .i64 0) ∧ w.cell? ⟨xb, 5, none⟩ = some (.int .i64 0) ∧ w.cell? ⟨xb, 6, none⟩ = some (.int .i64 0) ∧ w.cell? ⟨xb, 7, none⟩ = some (.int .i64 0) ∧ w.cell? ⟨xb, 8, none⟩ = some (.int .i64 0) := by
  refine ⟨?_, ?_, ?_, ?_, ?_, ?_, ?_, ?_, ?_⟩ <;> rw [cell_of_row _ _ _ _ _ _ h] <;> rfl
theorem V_below {B : Nat} {w0 w : World} {g : Nat} (n : Nat) (M : Int) (h : Below B w0 w) (hB : B ≤ g) : Below B w0 (((((((((w.setCell ⟨g, n * 9, none⟩ (.int .i64 M)).setCell ⟨g, n * 9 + 1, none⟩ (.int .i64 0)).setCell ⟨g, n * 9 + 2, none⟩ (.int .i64 0)).setCell ⟨g, n * 9 + 3, none⟩ (.int .i64 0)).setCell ⟨g, n * 9 + 4, none⟩ (.int .i64 0)).setCell ⟨g, n * 9 + 5, none⟩ (.int .i64 0)).setCell ⟨g, n * 9 + 6, none⟩ (.int .i64 0)).setCell ⟨g, n * 9 + 7, none⟩ (.int .i64 0)).setCell ⟨g, n * 9 + 8, none⟩ (.int .i64 0)) := by
  repeat (refine Below.setCell ?_ (by exact hB) _)
  exact h
theorem V_other {w : World} {g k : Nat} (n : Nat) (M : Int) (h : k ≠ g) : (((((((((w.setCell ⟨g, n * 9, none⟩ (.int .i64 M)).setCell ⟨g, n * 9 + 1, none⟩ (.int .i64 0)).setCell ⟨g, n * 9 + 2, none⟩ (.int .i64 0)).setCell ⟨g, n * 9 + 3, none⟩ (.int .i64 0)).setCell ⟨g, n * 9 + 4, none⟩ (.int .i64 0)).setCell ⟨g, n * 9 + 5, none⟩ (.int .i64 0)).setCell ⟨g, n * 9 + 6, none⟩ (.int .i64 0)).setCell ⟨g, n * 9 + 7, none⟩ (.int .i64 0)).setCell ⟨g, n * 9 + 8, none⟩ (.int .i64 0)).heap[k]? = w.heap[k]? := by
  repeat (rw [Below.heap_setCell _ _ _ _ (by exact h)])
theorem V_own {w : World} {base g N cap n : Nat} {M : Int} {cs : List Value} (h : w.ownsRow base 64 9 (.slice (some ⟨g, 0, none⟩) N cap) N (repV M n ++ cs.drop (n * 9))) (hl : cs.length = N * 9) (hn : n < N) :
    (((((((((w.setCell ⟨g, n * 9, none⟩ (.int .i64 M)).setCell ⟨g, n * 9 + 1, none⟩ (.int .i64 0)).setCell ⟨g, n * 9 + 2, none⟩ (.int .i64 0)).setCell ⟨g, n * 9 + 3, none⟩ (.int .i64 0)).setCell ⟨g, n * 9 + 4, none⟩ (.int .i64 0)).setCell ⟨g, n * 9 + 5, none⟩ (.int .i64 0)).setCell ⟨g, n * 9 + 6, none⟩ (.int .i64 0)).setCell ⟨g, n * 9 + 7, none⟩ (.int .i64 0)).setCell ⟨g, n * 9 + 8, none⟩ (.int .i64 0)).ownsRow base 64 9 (.slice (some ⟨g, 0, none⟩) N cap) N (repV M (n + 1) ++ cs.drop ((n + 1) * 9)) := by
  rw [← V_set M cs n N hl hn]
  exact (World.ownsRow.stored (World.ownsRow.stored (World.ownsRow.stored (World.ownsRow.stored (World.ownsRow.stored (World.ownsRow.stored (World.ownsRow.stored (World.ownsRow.stored (World.ownsRow.stored h _ _).1 _ _).1 _ _).1 _ _).1 _ _).1 _ _).1 _ _).1 _ _).1 _ _).1
set_option maxHeartbeats 4000000 in
set_option maxRecDepth 100000 in
theorem seen_any (wb B base : Nat) (vd vl lv vi vc : Value) (xs : List Value) (N : Nat) (cs : List Value) (w : World) (hw : w.heap[wb]? = some (.cells #[lv, vi, vd, vc] 39 (0, 0)))
    (hd : DList w B 58 64 9 markV vd xs) (hn : xs.length < 5000000000000) (hl : w.ownsRow base 64 9 vl N cs) (hB : B ≤ base) (hbs : base ≤ w.heap.size) (hwb : wb < base) (hvd : ∀ k, vd.ownBlock = some k → k < base) (hold : ∀ k (h : k < xs.length) b, xs[k].ownBlock = some b → b < base) (hL : N ≤ 900) :
    Calls Tryz.prog 86 #[.pointer (some ⟨wb, 1, none⟩), vl] w fun e w' => e = .returned (.tuple #[]) ∧ ∃ vd' xs', xs'.length = xs.length + 4 ∧ w'.heap[wb]? = some (.cells #[lv, vi, vd', vc] 39 (0, 0)) ∧ DList w' B 58 64 9 markV vd' xs' ∧ Fr w w' base wb vd.ownBlock := by
  obtain ⟨i0, ihi, ih0, ihs, ih2⟩ := info_parts Tryz.infoV
  obtain ⟨j0, jhi, jh0, jhs, jh2⟩ := info_parts Tryz.infoVS
  have q1 : w.cell? ⟨wb, 2, none⟩ = some vd := by rw [cell_of_row _ _ _ _ _ _ hw]; rfl
  obtain ⟨hd1, hd2, hd3⟩ := hd
  obtain ⟨ad, cd, hvde⟩ := own_len hd1
  obtain ⟨al, cl, hvl⟩ := own_len hl
  have HVD := hide hvde
  rw [hvde] at q1
  clear hvde
  subst hvl
  have hcl : cs.length = N * 9 := hl.1
  go_enter Tryz.func86, Tryz.ntmps86
  go_wp2_with fail
  refine (mark_any _ _ (by omega)).mono ?_
  rintro e w' ⟨rfl, rfl⟩
  obtain ⟨M, hM⟩ : ∃ M, M = markI xs.length := ⟨_, rfl⟩
  rw [← hM]
  have HM := hide hM
  clear hM
  go_wp2_with fail
  generalize hW : w.alloc (.cells #[.int .i64 M, .int .i64 0, .int .i64 0, .int .i64 0, .int .i64 0, .int .i64 0, .int .i64 0, .int .i64 0, .int .i64 0] 64) = w1
  have hX1 : w1.heap[w.heap.size]? = some (.cells #[.int .i64 M, .int .i64 0, .int .i64 0, .int .i64 0, .int .i64 0, .int .i64 0, .int .i64 0, .int .i64 0, .int .i64 0] 64 (0, 0)) := by rw [← hW]; exact heap_alloc_new _ _
  have hb1 : Below base w w1 := by rw [← hW]; exact (Below.refl _ _).alloc hbs _
  have hl1 : w1.ownsRow base 64 9 (.slice al N cl) N cs := by rw [← hW]; exact World.ownsRow.alloc hl _
  have hs1 : w.heap.size + 1 ≤ w1.heap.size := by rw [← hW]; simp
  have hlt1 : ∀ k, (Value.slice al N cl).ownBlock = some k → k < w.heap.size := fun k hk => (World.ownsRow.lt hl k hk).2
  have HLT := hide hlt1
  have HCL := hide hcl
  clear hW hlt1 hl q1 hcl
  go_loopw [5] (fun j wr => ∃ n : Nat, n ≤ N ∧ j = .int .i64 n ∧ wr.ownsRow base 64 9 (.slice al N cl) N (repV M n ++ cs.drop (n * 9)) ∧ wr.heap[w.heap.size]? = some (.cells #[.int .i64 M, .int .i64 0, .int .i64 0, .int .i64 0, .int .i64 0, .int .i64 0, .int .i64 0, .int .i64 0, .int .i64 0] 64 (0, 0)) ∧ Below base w wr ∧ w.heap.size + 1 ≤ wr.heap.size) (fun j _ => N - (intOf j).toNat)
  case atStart => exact ⟨0, by omega, rfl, by simpa [repV] using hl1, hX1, hb1, hs1⟩
  case round =>
    clear hl1 hX1 hb1 hs1
    obtain ⟨n, hnl, rfl, hown, hX, hbl, hsz⟩ := hrel
    by_cases hlt : n < N
    · have hg : ∃ g, al = some ⟨g, 0, none⟩ ∧ base ≤ g ∧ g < wr.heap.size ∧ ∀ j, wr.frozen? ⟨g, j, none⟩ = false := by
        rcases hown.2 with ⟨h, h2⟩ | ⟨g, cap, cur, h, hb, hh, _⟩
        · omega
        · simp only [Value.slice.injEq] at h
          exact ⟨g, h.1, hb, lt_of_block hh, fun j => by simp [World.frozen?, hh]⟩
      obtain ⟨g, rfl, hbg, hgl, hfz⟩ := hg
      have hgx : g < w.heap.size := HLT.out g rfl
      obtain ⟨x0, x1, x2, x3, x4, x5, x6, x7, x8⟩ := V_cells hX
      have hcell : ∀ j, j < 9 → ∃ u, wr.cell? ⟨g, n * 9 + j, none⟩ = some u := by
        intro j hj
        have hlen := hown.1
        obtain ⟨u, hu⟩ : ∃ u, (repV M n ++ cs.drop (n * 9))[n * 9 + j]? = some u := ⟨_, List.getElem?_eq_getElem (by rw [hlen]; have : (n + 1) * 9 ≤ N * 9 := Nat.mul_le_mul_right _ hlt; omega)⟩
        refine ⟨u, ?_⟩
        have := World.ownsRow.cells hown rfl (n * 9 + j) u hu
        rw [addr_add, Nat.zero_add] at this
        exact this
      obtain ⟨v0, y0⟩ := hcell 0 (by omega)
      obtain ⟨v1, y1⟩ := hcell 1 (by omega)
      obtain ⟨v2, y2⟩ := hcell 2 (by omega)
      obtain ⟨v3, y3⟩ := hcell 3 (by omega)
      obtain ⟨v4, y4⟩ := hcell 4 (by omega)
      obtain ⟨v5, y5⟩ := hcell 5 (by omega)
      obtain ⟨v6, y6⟩ := hcell 6 (by omega)
      obtain ⟨v7, y7⟩ := hcell 7 (by omega)
      obtain ⟨v8, y8⟩ := hcell 8 (by omega)
      rw [Nat.add_zero] at y0
      have f0 := hfz (n * 9)
      have f1 := hfz (n * 9 + 1)
      have f2 := hfz (n * 9 + 2)
      have f3 := hfz (n * 9 + 3)
      have f4 := hfz (n * 9 + 4)
      have f5 := hfz (n * 9 + 5)
      have f6 := hfz (n * 9 + 6)
      have f7 := hfz (n * 9 + 7)
      have f8 := hfz (n * 9 + 8)
      have HO := hide (V_own hown HCL.out hlt)
      have HB := hide (V_below (g := g) n M hbl hbg)
      clear hfz hown hcell
      go_wp2
      go_roundw
      case rel =>
        exact ⟨n + 1, by omega, by go_num, HO.out, by rw [V_other n M (show w.heap.size ≠ g by omega)]; exact hX, HB.out, by simpa using hsz⟩
      case measure => simp [intOf]; omega
    · have P0 : StV w wr base w.heap.size M (.slice al N cl) N := by
        refine ⟨?_, hX, hbl, hbs, HLT.out, by omega⟩
        have en : n = N := by omega
        subst en
        rw [List.drop_of_length_le (by rw [HCL.out]; exact Nat.le_refl _), List.append_nil] at hown
        exact hown
      clear hown hX hbl
      obtain ⟨x0, x1, x2, x3, x4, x5, x6, x7, x8⟩ := V_cells P0.box
      have hbs0 := P0.hbs
      go_wp2_with (at_builtin; go_must (refine wpList_append_strong _ rfl (.tmp 26) (.tmp 28) 58 rfl base 64 i0 _ 9 72 Tryz.underlying58 ihi ih0 ihs ih2 rfl (by decide) (.slice al N cl) N (repV M N) rfl ?o1 ⟨wr.heap.size, 0, none⟩ 1 1 (repV M 1) rfl rfl ?n1 (repV_one M 1) (by omega) ?m1 ?b1 ?s1 ?_))
      case o1 => exact World.ownsRow.alloc P0.own _
      case n1 => exact row_new _ _ _ _ _ rfl rfl
      case m1 => unfold maxLen; omega
      case b1 => omega
      case s1 => simp; omega
      intro va wa hva hga hSa
      obtain ⟨P1, oa, _⟩ := P0.step hva hga hSa
      obtain ⟨aa, ca, rfl⟩ := own_len oa
      clear hva hga hSa P0 x0 x1 x2 x3 x4 x5 x6 x7 x8 hbs0
      obtain ⟨x0, x1, x2, x3, x4, x5, x6, x7, x8⟩ := V_cells P1.box
      have hbs1 := P1.hbs
      go_wp2_with (at_builtin; go_must (refine wpList_append_strong _ rfl (.tmp 30) (.tmp 33) 58 rfl base 64 i0 _ 9 72 Tryz.underlying58 ihi ih0 ihs ih2 rfl (by decide) (.slice al N cl) N (repV M N) rfl ?o2 ⟨wa.heap.size, 0, none⟩ 2 2 (repV M 2) rfl rfl ?n2 (repV_one M 2) (by omega) ?m2 ?b2 ?s2 ?_))
      case o2 => exact World.ownsRow.alloc P1.own _
      case n2 => exact row_new _ _ _ _ _ rfl rfl
      case m2 => unfold maxLen; omega
      case b2 => omega
      case s2 => simp; omega
      intro vb wb2 hvb hgb hSb
      obtain ⟨P2, ob, kb⟩ := P1.step hvb hgb hSb
      obtain ⟨ab, cb, rfl⟩ := own_len ob
      have oa := kb _ (N + 1) oa (fun _ => by omega)
      clear hvb hgb hSb P1 x0 x1 x2 x3 x4 x5 x6 x7 x8 hbs1 kb
      obtain ⟨x0, x1, x2, x3, x4, x5, x6, x7, x8⟩ := V_cells P2.box
      have hbs2 := P2.hbs
      go_wp2_with (at_builtin; go_must (refine wpList_append_strong _ rfl (.tmp 35) (.tmp 39) 58 rfl base 64 i0 _ 9 72 Tryz.underlying58 ihi ih0 ihs ih2 rfl (by decide) (.slice al N cl) N (repV M N) rfl ?o3 ⟨wb2.heap.size, 0, none⟩ 3 3 (repV M 3) rfl rfl ?n3 (repV_one M 3) (by omega) ?m3 ?b3 ?s3 ?_))
      case o3 => exact World.ownsRow.alloc P2.own _
      case n3 => exact row_new _ _ _ _ _ rfl rfl
      case m3 => unfold maxLen; omega
      case b3 => omega
      case s3 => simp; omega
      intro vc3 wc hvc hgc hSc
      obtain ⟨P3, oc, kc⟩ := P2.step hvc hgc hSc
      obtain ⟨ac, cc, rfl⟩ := own_len oc
      have oa := kc _ (N + 1) oa (fun _ => by omega)
      have ob := kc _ (N + 2) ob (fun _ => by omega)
      clear hvc hgc hSc P2 x0 x1 x2 x3 x4 x5 x6 x7 x8 hbs2 kc
      have hbs3 := P3.hbs
      have hwc : wc.heap[wb]? = some (.cells #[lv, vi, vd, vc] 39 (0, 0)) := by rw [P3.bel.block wb hwb]; exact hw
      have hwlt := lt_of_block hwc
      have q1 : wc.cell? ⟨wb, 2, none⟩ = some (.slice ad xs.length cd) := by rw [cell_of_row _ _ _ _ _ _ hwc, ← HVD.out]; rfl
      have fz : wc.frozen? ⟨wb, 2, none⟩ = false := by simp [World.frozen?, hwc]
      have hdc : wc.ownsRow B 58 1 (.slice ad xs.length cd) xs.length xs := by
        rw [← HVD.out]; exact own_block hd1 (fun k hk _ => P3.bel.block k (hvd k hk))
      go_wp2_with (at_builtin; go_must (refine wpList_append_own _ rfl (.tmp 45) (.tmp 50) 34 rfl B 58 j0 _ 1 24 Tryz.underlying34 jhi jh0 jhs jh2 rfl (by decide) (.slice ad xs.length cd) xs.length xs rfl ?o4 ⟨wc.heap.size, 0, none⟩ 4 4 [.slice al N cl, .slice aa (N + 1) ca, .slice ab (N + 2) cb, .slice ac (N + 3) cc] rfl rfl ?n4 ?u4 ?m4 ?b4 ?s4 ?_))
      case o4 => exact World.ownsRow.alloc hdc _
      case n4 => exact row_new _ _ _ _ _ rfl rfl
      case u4 => intro u hu; simp at hu; rcases hu with rfl | rfl | rfl | rfl <;> rfl
      case m4 => unfold maxLen; omega
      case b4 => omega
      case s4 => simp; omega
      intro vd' wd hvd' hgd' _
      obtain ⟨ad', cd', rfl⟩ := own_len hvd'
      have hneb : ∀ (k : Nat) (A : Array Value), wc.heap[k]? = some (Obj.cells A 64 (0, 0)) → wd.heap[k]? = wc.heap[k]? := by
        intro k A hk
        have hlt := lt_of_block hk
        rw [hgd'.block k (by simp; omega) ?_, Below.heap_alloc _ _ _ hlt]
        intro hx
        rcases hdc.2 with ⟨h, _⟩ | ⟨g, cap, cur, h, _, hh, _⟩
        · rw [h] at hx; cases hx
        · rw [h] at hx
          simp [Value.ownBlock] at hx
          subst hx
          rw [hk] at hh; simp at hh
      have hwd : wd.heap[wb]? = some (.cells #[lv, vi, vd, vc] 39 (0, 0)) := by
        rw [hgd'.block wb (by simp; omega) ?_, Below.heap_alloc _ _ _ hwlt]
        · exact hwc
        · intro hx
          rcases hdc.2 with ⟨h, _⟩ | ⟨g, cap, cur, h, _, hh, _⟩
          · rw [h] at hx; cases hx
          · rw [h] at hx
            simp [Value.ownBlock] at hx
            subst hx
            rw [hwc] at hh; simp at hh
      have q2 : wd.cell? ⟨wb, 2, none⟩ = some vd := by rw [cell_of_row _ _ _ _ _ _ hwd]; rfl
      have fz2 : wd.frozen? ⟨wb, 2, none⟩ = false := by simp [World.frozen?, hwd]
      have hsd := hgd'.size
      simp at hsd
      clear q1 fz
      have HN := hide hneb
      have HP3 := hide P3
      clear hneb P3
      go_wp2
      go_end0
      have P3 := HP3.out
      have keep : ∀ (k : Nat) (A : Array Value), wc.heap[k]? = some (Obj.cells A 64 (0, 0)) → (wd.setCell ⟨wb, 2, none⟩ (.slice ad' (xs.length + 4) cd')).heap[k]? = wc.heap[k]? := by
        intro k A hk
        rw [Below.heap_setCell _ _ _ _ (fun e => by simp at e; subst e; rw [hwc] at hk; simp at hk)]
        exact HN.out k A hk
      have kl : ∀ (u : Value) (m : Nat), wc.ownsRow base 64 9 u m (repV M m) → (wd.setCell ⟨wb, 2, none⟩ (.slice ad' (xs.length + 4) cd')).ownsRow B 64 9 u m (repV M m) := fun u m hu =>
        own_base (own_block hu (fun k _ ⟨A, hA⟩ => keep k A hA)) hB
      refine ⟨rfl, .slice ad' (xs.length + 4) cd', xs ++ [.slice al N cl, .slice aa (N + 1) ca, .slice ab (N + 2) cb, .slice ac (N + 3) cc], by simp, ?_, ⟨?_, ?_, ?_⟩, ?_⟩
      · rw [set_block hwd]; rfl
      · rw [List.length_append]
        refine own_block hvd' (fun k hk ⟨A, hA⟩ => Below.heap_setCell _ _ _ _ (fun e => ?_))
        simp at e
        subst e
        rw [hwd] at hA; simp at hA
      · simp; omega
      · intro k hk
        by_cases hk2 : k < xs.length
        · obtain ⟨m, hm, ho⟩ := hd3 k hk2
          refine ⟨m, hm, ?_⟩
          rw [List.getElem_append_left hk2]
          exact own_block ho (fun b hb ⟨A, hA⟩ => (keep b A (by rw [P3.bel.block b (hold k hk2 b hb)]; exact hA)).trans (P3.bel.block b (hold k hk2 b hb)))
        · have hmk : markV k = XV M := by
            have := markI_same xs.length k hd2 (by omega) (by simp at hk; omega)
            unfold markV; rw [this, HM.out]
          rw [hmk]
          simp at hk
          have : k = xs.length ∨ k = xs.length + 1 ∨ k = xs.length + 2 ∨ k = xs.length + 3 := by omega
          rcases this with rfl | rfl | rfl | rfl
          · refine ⟨N, by omega, ?_⟩
            rw [List.getElem_append_right (by omega)]
            simpa [repV] using kl _ _ P3.own
          · refine ⟨N + 1, by omega, ?_⟩
            rw [List.getElem_append_right (by omega)]
            simpa [repV] using kl _ _ oa
          · refine ⟨N + 2, by omega, ?_⟩
            rw [List.getElem_append_right (by omega)]
            simpa [repV] using kl _ _ ob
          · refine ⟨N + 3, by omega, ?_⟩
            rw [List.getElem_append_right (by omega)]
            simpa [repV] using kl _ _ oc
      · refine ⟨hgd'.os.trans P3.bel.os, hgd'.tape.trans P3.bel.tape, hgd'.output.trans P3.bel.output, ?_, fun k hk1 hk2 hk3 => ?_⟩
        · have := P3.bel.size; simp [World.setCell]; omega
        · rw [Below.heap_setCell _ _ _ _ (by exact hk2), hgd'.block k (by simp; omega) (by rw [← HVD.out]; exact hk3), Below.heap_alloc _ _ _ (by omega)]
          exact P3.bel.block k hk1
end Go.Proofs.YtamiichlbmllcaaGreatDoor
