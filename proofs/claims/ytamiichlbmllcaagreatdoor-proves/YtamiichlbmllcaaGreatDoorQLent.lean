import Derived.Test.YtamiichlbmllcaaGreatDoorQRpC
import Derived.Test.YtamiichlbmllcaaGreatDoorQRpD
import Derived.Test.YtamiichlbmllcaaGreatDoorQRpE
import Derived.Test.YtamiichlbmllcaaGreatDoorQPrG
import Derived.Test.YtamiichlbmllcaaGreatDoorQDec
import Derived.Laws.CopyOwn
import Derived.Test.YtamiichlbmllcaaGreatDoorQKn
/-
  (*suretyref.Prover).comes: what the program's own takes does.
-/
namespace Go.Proofs.YtamiichlbmllcaaGreatDoor
open Go.RowKit
set_option maxHeartbeats 8000000 in
set_option maxRecDepth 100000 in
theorem rf_comes_un (z : Int) (s0 : St) (n : Nat) (V wb cb tb bb : Nat) (back : Nat → Bool) (v : PS) (w : World) (hB : RpB n V wb cb tb bb back w) (hW : At w wb (plsA n v.W) 110) (hC : At w cb (intA n (cntE v)) 3) (hT : At w tb (bosA n v.chg) 4) :
    Calls Tryz.prog 93 #[.pointer (some ⟨V, 0, none⟩), .agg (plC false s0), .int .i64 z] w fun e w' => e = .returned (.tuple #[]) ∧ ComesP n wb cb tb v w w' := by
  have hk := Kn.three hW hC hT hB.wc hB.wt hB.ct
  go_enter Tryz.func93, Tryz.ntmps93
  go_wp2_with (first | ((with_reducible show wpList _ _ _ _ _ _); (first | (refine wS hk ?_; simp only [Act.put, pw]) | (refine wN hk ?_; clear hk; intro w1 hk; simp only [Act.put, pw]) | (refine wT hk ?_; clear hk; intro w1 hk; simp only [Act.put]))))
  exact post_0 rfl rfl ⟨rfl, hk.mod, hk.at (by with_reducible repeat (first | exact List.mem_cons_self | apply List.mem_cons_of_mem)), hk.at (by with_reducible repeat (first | exact List.mem_cons_self | apply List.mem_cons_of_mem)), hk.at (by with_reducible repeat (first | exact List.mem_cons_self | apply List.mem_cons_of_mem))⟩
theorem cnt_here (v : PS) (W : Nat → Option St) (m : Nat) : cntE ⟨W, v.cnt, updB v.chg m true⟩ m = v.cnt m + 1 := by
  unfold cntE updB
  simp
theorem rf_comes (n m : Nat) (hm : m < n) (V wb cb tb bb : Nat) (back : Nat → Bool) (v : PS) (w : World) (hB : RpB n V wb cb tb bb back w) (hW : At w wb (plsA n v.W) 110) (hC : At w cb (intA n (cntE v)) 3) (hT : At w tb (bosA n v.chg) 4) (b : Bool) (s : St) (hcb : back m = true → v.cnt m ≤ 20) :
    Calls Tryz.prog 93 #[.pointer (some ⟨V, 0, none⟩), .agg (plC b s), .int .i64 m] w fun e w' => e = .returned (.tuple #[]) ∧ ComesP n wb cb tb (takesP back v m (wayO b s)) w w' := by
  cases b with
  | false =>
    rw [takes_no (show liesO (wayO false s) (v.W m) = true from rfl)]
    exact rf_comes_un m s n V wb cb tb bb back v w hB hW hC hT
  | true =>
    show Calls _ _ _ _ fun e w' => e = .returned (.tuple #[]) ∧ ComesP n wb cb tb (takesP back v m (some s)) w w'
    cases hWm : v.W m with
    | none =>
      rw [takes_first hWm]
      exact rf_comes_first n m hm V wb cb tb bb back v w hB hW hC hT s hWm
    | some t =>
      cases hl : liesR s t with
      | true =>
        rw [takes_no (by rw [hWm]; exact hl)]
        exact rf_comes_lies n m hm V wb cb tb bb back v w hB hW hC hT s t hWm hl
      | false =>
        rw [takes_at (by rw [hWm]; exact hl)]
        cases hbk : back m with
        | false =>
          have e : widerP back v m (some s) = some (fun j => joinR (t j) (s j)) := by unfold widerP; rw [hbk, hWm]; rfl
          rw [e]
          exact rf_comes_wf n m hm V wb cb tb bb back v w hB hW hC hT s t hWm hl hbk
        | true =>
          have h20 := hcb hbk
          have hz : wrap64 ((cntE ⟨v.W, v.cnt, updB v.chg m true⟩ m : Nat) : Int) = (v.cnt m : Int) + 1 := by rw [cnt_here]; unfold wrap64; omega
          by_cases h3 : 3 ≤ v.cnt m
          · have e : widerP back v m (some s) = some (fun j => stretchR (t j) (s j)) := by unfold widerP; rw [hbk, hWm, decide_eq_true h3]; rfl
            rw [e]
            exact rf_comes_ws n m hm V wb cb tb bb back v w hB hW hC hT s t hWm hl _ hz hbk (decide_eq_true (by omega))
          · have e : widerP back v m (some s) = some (fun j => joinR (t j) (s j)) := by unfold widerP; rw [hbk, hWm, decide_eq_false h3]; rfl
            rw [e]
            exact rf_comes_wl n m hm V wb cb tb bb back v w hB hW hC hT s t hWm hl _ hz hbk (decide_eq_false (by omega))
theorem Kn.callY {M N : List Nat} {w0 w w' : World} {L L' : RowL} (h : Kn M w0 w L) (hm : Mod N w w') (hN : ∀ b, b ∈ N → w0.heap.size ≤ b ∨ b ∈ M) (hkeys : L.map (·.1) = L'.map (·.1)) (hrow : ∀ x, x ∈ L' → At w' x.1 x.2.1 x.2.2) : Kn M w0 w' L' := by
  refine ⟨h.mod.step hm hN, fun x hx => ⟨hrow x hx, ?_⟩, pw_keys hkeys h.dis⟩
  have : x.1 ∈ L'.map (·.1) := List.mem_map_of_mem hx
  rw [← hkeys] at this
  obtain ⟨y, hy, e⟩ := List.mem_map.1 this
  rw [← e]
  exact (h.has y hy).2
end Go.Proofs.YtamiichlbmllcaaGreatDoor
/-
  proof.backsOf and proof.claimsOf.
-/
namespace Go.Proofs.YtamiichlbmllcaaGreatDoor
open Go.RowKit
def bkB (l : List I5) (n m : Nat) : Bool := decide (9 ≤ (insAt l n).o) && decide ((insAt l n).k = m) && decide (m ≤ n)
def bkU (l : List I5) (i : Nat) : Nat → Bool := fun m => (List.range i).any fun n => bkB l n m
theorem bkU_all (l : List I5) : bkU l l.length = backB l := rfl
theorem bkU_succ (l : List I5) (i m : Nat) : bkU l (i + 1) m = (bkU l i m || bkB l i m) := by
  unfold bkU; rw [List.range_succ, List.any_append]; simp
theorem bkU_no {l : List I5} {i : Nat} (h : ∀ m, bkB l i m = false) : bkU l (i + 1) = bkU l i := by
  funext m; rw [bkU_succ, h m, Bool.or_false]
theorem bkU_yes {l : List I5} {i k : Nat} (hj : jumpsB (insAt l i) = true) (hk : targI (insAt l i) = k) (hle : k ≤ i) : bkU l (i + 1) = updB (bkU l i) k true := by
  funext m
  rw [bkU_succ]
  unfold updB bkB
  unfold jumpsB at hj
  unfold targI at hk
  simp only [decide_eq_true_eq] at hj
  rw [if_pos hj] at hk
  by_cases e : m = k
  · subst e; simp [hj, hk, hle]
  · have : ¬ ((insAt l i).k = (m : Int)) := by rw [hk]; omega
    simp [this, e]
set_option maxHeartbeats 4000000 in
set_option maxRecDepth 100000 in
theorem backsOf_any (l : List I5) (hl : AllFit l) (pb cap : Nat) (w : World) (hp : ProgC w pb iVal l) : Calls Tryz.prog 105 #[.slice (some ⟨pb, 0, none⟩) l.length cap] w fun e w' => ∃ mb, e = .returned (.slice (some ⟨mb, 0, none⟩) l.length l.length) ∧ At w' mb (bosA l.length (backB l)) 4 ∧ w.heap.size ≤ mb ∧ Below w.heap.size w w' := by
  have hk := Kn.nil [] w
  have hL : l.length ≤ 64 := hl.2.1
  have HP := hide hp
  clear hp
  go_enter Tryz.func105, Tryz.ntmps105
  go_wp2_with (first | ((with_reducible show wpList _ _ _ _ _ _); (first | (refine wS hk ?_; simp only [Act.put, pw]) | (refine wN hk ?_; clear hk; intro w1 hk; simp only [Act.put, pw]) | (refine wT hk ?_; clear hk; intro w1 hk; simp only [Act.put]))))
  replace hk : Kn [] w w1 [(w.heap.size, bosA l.length (bkU l 0), 4)] := hk
  go_loopw [12] (fun j wr => ∃ i : Nat, i ≤ l.length ∧ j = .int .i64 i ∧ Kn [] w wr [(w.heap.size, bosA l.length (bkU l i), 4)]) (fun j _ => l.length - (intOf j).toNat)
  case atStart => exact ⟨0, by omega, rfl, hk⟩
  case round =>
    clear hk
    obtain ⟨i, hi, rfl, hk⟩ := hrel
    by_cases hlt : i < l.length
    · have hc := HP.out.mod hk.mod List.not_mem_nil i hlt
      cases hj : jumpsB (insAt l i) with
      | false =>
        have R := hide (bkU_no (l := l) (i := i) fun m => by unfold bkB; unfold jumpsB at hj; rw [hj]; rfl)
        go_wp2_with (first | (go_at_call 101; refine (target_any (insAt l i) _ (hl.fit hlt) _ _ _ _ hlt _ hc).mono ?_; rintro e w1 ⟨rfl, hb⟩; replace hk := hk.call hb; clear hb; rw [hj]) | ((with_reducible show wpList _ _ _ _ _ _); (first | (refine wS hk ?_; simp only [Act.put, pw]) | (refine wN hk ?_; clear hk; intro w1 hk; simp only [Act.put, pw]) | (refine wT hk ?_; clear hk; intro w1 hk; simp only [Act.put]))))
        go_roundw
        case rel => exact ⟨i + 1, by omega, by go_num, by rw [R.out]; exact hk⟩
        case measure => simp [intOf]; omega
      | true =>
        obtain ⟨k, hk1, hk2⟩ := hl.targ hlt hj
        by_cases hle : k ≤ i
        · have R := hide (bkU_yes hj hk1 hle)
          have hd : decide ((k : Int) ≤ (i : Int)) = true := by rw [decide_eq_true_eq]; omega
          go_wp2_with (first | (go_at_call 101; refine (target_any (insAt l i) _ (hl.fit hlt) _ _ _ _ hlt _ hc).mono ?_; rintro e w1 ⟨rfl, hb⟩; replace hk := hk.call hb; clear hb; rw [hj, hk1]) | ((with_reducible show wpList _ _ _ _ _ _); (first | (refine wS hk ?_; simp only [Act.put, pw]) | (refine wN hk ?_; clear hk; intro w1 hk; simp only [Act.put, pw]) | (refine wT hk ?_; clear hk; intro w1 hk; simp only [Act.put]))))
          go_roundw
          case rel => exact ⟨i + 1, by omega, by go_num, by rw [R.out]; exact hk⟩
          case measure => simp [intOf]; omega
        · have R := hide (bkU_no (l := l) (i := i) fun m => by
            unfold bkB
            unfold jumpsB at hj
            unfold targI at hk1
            simp only [decide_eq_true_eq] at hj
            rw [if_pos hj] at hk1
            by_cases e : m = k
            · subst e; simp [hle]
            · have : ¬ ((insAt l i).k = (m : Int)) := by rw [hk1]; omega
              simp [this])
          have hd : decide ((k : Int) ≤ (i : Int)) = false := by rw [decide_eq_false_iff_not]; omega
          go_wp2_with (first | (go_at_call 101; refine (target_any (insAt l i) _ (hl.fit hlt) _ _ _ _ hlt _ hc).mono ?_; rintro e w1 ⟨rfl, hb⟩; replace hk := hk.call hb; clear hb; rw [hj, hk1]) | ((with_reducible show wpList _ _ _ _ _ _); (first | (refine wS hk ?_; simp only [Act.put, pw]) | (refine wN hk ?_; clear hk; intro w1 hk; simp only [Act.put, pw]) | (refine wT hk ?_; clear hk; intro w1 hk; simp only [Act.put]))))
          go_roundw
          case rel => exact ⟨i + 1, by omega, by go_num, by rw [R.out]; exact hk⟩
          case measure => simp [intOf]; omega
    · have e : i = l.length := by omega
      subst e
      rw [bkU_all] at hk
      go_wp2_with (first | ((with_reducible show wpList _ _ _ _ _ _); (first | (refine wS hk ?_; simp only [Act.put, pw]) | (refine wN hk ?_; clear hk; intro w1 hk; simp only [Act.put, pw]) | (refine wT hk ?_; clear hk; intro w1 hk; simp only [Act.put]))))
      go_ret
      exact ⟨_, rfl, hk.at (by with_reducible repeat (first | exact List.mem_cons_self | apply List.mem_cons_of_mem)), Nat.le_refl _, hk.mod.below⟩
end Go.Proofs.YtamiichlbmllcaaGreatDoor
/-
  Laws on append and copy that the statements' helpers want: an append that tells whether it wrote where it stood; a copy of elements of several cells; a row by what each of its cells holds.
-/
namespace Go.Proofs.YtamiichlbmllcaaGreatDoor
open Go.RowKit
/-- either nothing that was there is written, or the list stands where it stood -/
def AppRoom (w w' : World) (v v' : Value) (n m : Nat) : Prop := w.grownBy w' none ∧ (∀ k, v'.ownBlock = some k → w.heap.size ≤ k) ∨ ∃ g cap, v = .slice (some ⟨g, 0, none⟩) n cap ∧ v' = .slice (some ⟨g, 0, none⟩) (n + m) cap
/-- append onto what the call owns: either nothing that was there is written, or it stands where it stood -/
theorem run_append_strong {P : Program} (w : World) (base : Nat) (t ty e : TypeId) (i : TypeInfo) (z : Value) (size bytes : Nat) (ht : P.underlying t = some (.slice e)) (hi : P.info? e = some i) (hz : i.zero = some z)
    (hsize : i.size = size) (hby : i.bytes = bytes) (hzs : z.cells.size = size) (hsz : 0 < size)
    (v : Value) (n : Nat) (xs : List Value) (hown : w.ownsRow base e size v n xs)
    (a : Addr) (m c : Nat) (news : List Value) (hl : news.length = m * size) (hnews : ∀ j u, news[j]? = some u → w.cell? (a.add j) = some u) (h1 : ∀ u ∈ news, u.oneCell' = true)
    (hm : 0 < m) (h63 : n + m ≤ maxLen) (hbytes : (n + m) * bytes ≤ 140737488355328) (hbase : base ≤ w.heap.size) :
    ∃ v' w', (Builtin.append_ #[t, t] ty #[v, .slice (some a) m c]).run P w = .ok v' w' ∧ w'.ownsRow base e size v' (n + m) (xs ++ news) ∧ w.grownBy w' v.ownBlock ∧
      (w.grownBy w' none ∧ (∀ k, v'.ownBlock = some k → w.heap.size ≤ k) ∨ ∃ g cap, v = .slice (some ⟨g, 0, none⟩) n cap ∧ v' = .slice (some ⟨g, 0, none⟩) (n + m) cap) := by
  obtain ⟨v', w', hr, h2, h3, _⟩ := run_append_own (P := P) w base t ty e i z size bytes ht hi hz hsize hby hzs hsz v n xs hown a m c news hl hnews h1 h63 hbytes hbase
  refine ⟨v', w', hr, h2, h3, ?_⟩
  subst hsize
  subst hby
  simp only [maxLen] at h63
  rcases hown.2 with ⟨rfl, rfl⟩ | ⟨g, cap, cur, rfl, _, hg, _, _, hcs, _⟩
  · have eq := run_append_nil (P := P) w t ty e i z ht hi hz a m c news hl hnews hm (by omega) (by rw [Nat.zero_add] at hbytes; omega)
    rw [eq] at hr
    cases hr
    exact Or.inl ⟨⟨rfl, rfl, rfl, by simp, fun k hk _ => Below.heap_alloc w.drew _ k hk⟩, fun k hk => by simp [Value.ownBlock] at hk; omega⟩
  · by_cases hroom : n + m ≤ cap
    · have eq := run_append_room (P := P) w t ty e i ht hi g n cap cur hg a m c news hl hnews h1 hroom (by rw [hl, hcs, ← Nat.add_mul]; exact Nat.mul_le_mul_right _ hroom)
      rw [eq] at hr
      cases hr
      exact Or.inr ⟨g, cap, rfl, rfl⟩
    · have eq := run_append_grow (P := P) w t ty e i z ht hi hz ⟨g, 0, none⟩ n cap xs hown.1 (hown.cells (g := g) rfl) a m c news hl hnews (by omega) (by omega) (growslice_fits (by omega) hbytes)
      rw [eq] at hr
      cases hr
      exact Or.inl ⟨⟨rfl, rfl, rfl, by simp, fun k hk _ => Below.heap_alloc w.drew _ k hk⟩, fun k hk => by simp [Value.ownBlock] at hk; omega⟩
theorem wpList_append_strong {P : Program} (w : World) {ops : Array Oper} {rest : List Oper} {o : Oper} {a : Act} {Q : Exit → Act → World → Prop} (hgd : o.guard = none) (s x : Operand) (t : TypeId)
    (ho : o.op = .call { callee := .builtin .append, args := #[s, x], argTypes := #[t, t] })
    (base : Nat) (e : TypeId) (i : TypeInfo) (z : Value) (size bytes : Nat) (ht : P.underlying t = some (.slice e)) (hi : P.info? e = some i) (hz : i.zero = some z)
    (hsize : i.size = size) (hby : i.bytes = bytes) (hzs : z.cells.size = size) (hsz : 0 < size)
    (v : Value) (n : Nat) (xs : List Value) (hs : a.eval s = v) (hown : w.ownsRow base e size v n xs)
    (ad : Addr) (m c : Nat) (news : List Value) (hx : a.eval x = .slice (some ad) m c) (hl : news.length = m * size) (hnews : ∀ j u, news[j]? = some u → w.cell? (ad.add j) = some u) (h1 : ∀ u ∈ news, u.oneCell' = true)
    (hm : 0 < m) (h63 : n + m ≤ maxLen) (hbytes : (n + m) * bytes ≤ 140737488355328) (hbase : base ≤ w.heap.size)
    (h : ∀ v' w', w'.ownsRow base e size v' (n + m) (xs ++ news) → w.grownBy w' v.ownBlock → AppRoom w w' v v' n m → wpList P ops Q rest (a.put o.dst v') w') : wpList P ops Q (o :: rest) a w := by
  refine wpList_plain hgd fun K hK => ?_
  obtain ⟨v', w', hr, h2, h3, h4⟩ := run_append_strong (P := P) w base t o.type e i z size bytes ht hi hz hsize hby hzs hsz v n xs hown ad m c news hl hnews h1 hm h63 hbytes hbase
  unfold Oper.wp execOp
  simp only [ho, resolve, invoke, builtin, Sem.run_bind, Sem.run_pure, Result.andThen_ok, List.map_toArray, List.map_cons, List.map_nil, hs, hx, hr]
  exact hK _ _ (h v' w' h2 h3 h4)
/-- WHAT ELSE STANDS IN ROWS OF ONE AND THE SAME ELEMENT STAYS SO BEHIND SUCH AN APPEND -/
theorem keep_same {w w' : World} {base e size n m k : Nat} {v v' u : Value} {X : List Value} (hX : X.length = size)
    (hown : w.ownsRow base e size v n (List.replicate n X).flatten) (hown' : w'.ownsRow base e size v' (n + m) (List.replicate (n + m) X).flatten) (hg : w.grownBy w' v.ownBlock)
    (hS : AppRoom w w' v v' n m)
    (hu : w.ownsRow base e size u k (List.replicate k X).flatten) (hk : u.ownBlock = v.ownBlock → k ≤ n + m) : w'.ownsRow base e size u k (List.replicate k X).flatten := by
  rcases hS with ⟨hS, _⟩ | ⟨g, cap, rfl, rfl⟩
  · refine World.ownsRow.kept hu hS ?_
    cases u.ownBlock <;> simp
  · by_cases hb : u.ownBlock = some g
    · have hkn := hk (by rw [hb]; rfl)
      have hown2 := hown
      obtain ⟨_, h2⟩ := hu
      rcases h2 with ⟨rfl, rfl⟩ | ⟨g2, cap2, cur2, rfl, hbase2, hh2, hc1, hc2, hc3, _⟩
      · exact ⟨by simp, Or.inl ⟨rfl, rfl⟩⟩
      · simp [Value.ownBlock] at hb
        subst hb
        rcases hown'.2 with ⟨h0, _⟩ | ⟨g3, cap3, cur3, h3, hbase3, hh3, hd1, hd2, hd3, htake⟩
        · cases h0
        · simp only [Value.slice.injEq, Option.some.injEq, Addr.mk.injEq, and_true] at h3
          obtain ⟨rfl, _, rfl⟩ := h3
          rcases hown2.2 with ⟨h0, _⟩ | ⟨g4, cap4, cur4, h4, _, hh4, _, _, hd4, _⟩
          · cases h0
          · simp only [Value.slice.injEq, Option.some.injEq, Addr.mk.injEq, and_true] at h4
            obtain ⟨rfl, _, rfl⟩ := h4
            rw [hh2] at hh4
            simp at hh4
            have hsz : cur3.size = cap2 * size := by rw [hd3, ← hd4, ← hh4, hc3]
            refine ⟨by simp [hX], Or.inr ⟨g2, cap2, cur3, rfl, hbase2, hh3, hc1, hc2, hsz, ?_⟩⟩
            have : k * size ≤ (n + m) * size := Nat.mul_le_mul_right _ hkn
            rw [← Nat.min_eq_left this, ← List.take_take, htake]
            rw [show n + m = k + (n + m - k) by omega, ← List.replicate_append_replicate, List.flatten_append]
            exact List.take_left' (by simp [hX])
    · refine World.ownsRow.kept hu hg (Or.inr ?_)
      simpa [Value.ownBlock] using hb
/-- copy of a whole slice of elements of several cells, to the head of a row -/
theorem run_copy_wide {P : Program} (w : World) (dT sT ty elem : TypeId) (i : TypeInfo) (g dLen dCap : Nat) (a : Addr) (sLen sCap : Nat) (cur : Array Value) (t : TypeId) (cs : List Value)
    (hu : P.underlying dT = some (.slice elem)) (hi : P.info? elem = some i)
    (hg : w.heap[g]? = some (.cells cur t (0, 0))) (hn : cs.length = sLen * i.size) (hle : sLen ≤ dLen)
    (hsrc : ∀ j v, cs[j]? = some v → w.cell? (a.add j) = some v) (hfit : cs.length ≤ cur.size) (h1 : ∀ v ∈ cs, v.oneCell' = true) :
    (Builtin.copy_ #[dT, sT] ty #[.slice (some ⟨g, 0, none⟩) dLen dCap, .slice (some a) sLen sCap]).run P w =
      .ok (goInt sLen) (w.setRow g (cs ++ cur.toList.drop cs.length).toArray) := by
  have hf := run_firstCells_some (P := P) w i.size sLen a sLen sCap cs hn hsrc
  have hst := run_storeCells_at P g 0 t cs 0 cur w hg (by simpa using hfit) h1
  have hmin : Nat.min sLen dLen = sLen := Nat.min_eq_left hle
  simp [Builtin.copy_, run_underlying hu, Builtin.lenOf, sizeOf, typeInfo, hi, hmin, hf, hst]
theorem wpList_copy_wide {P : Program} {w : World} {ops : Array Oper} {rest : List Oper} {o : Oper} {a : Act} {Q : Exit → Act → World → Prop} (hgd : o.guard = none) (d s : Operand) (dT sT : TypeId)
    (ho : o.op = .call { callee := .builtin .copy, args := #[d, s], argTypes := #[dT, sT] }) (elem : TypeId) (i : TypeInfo) (hu : P.underlying dT = some (.slice elem)) (hi : P.info? elem = some i)
    (g dLen dCap : Nat) (ad : Addr) (sLen sCap : Nat) (hd : a.eval d = .slice (some ⟨g, 0, none⟩) dLen dCap) (hs : a.eval s = .slice (some ad) sLen sCap)
    (n : Nat) (t : TypeId) (f f' : Nat → Value) (hg : RowF w g t n f) (cs : List Value) (hn : cs.length = sLen * i.size) (hle : sLen ≤ dLen)
    (hsrc : ∀ j v, cs[j]? = some v → w.cell? (ad.add j) = some v) (hfit : cs.length ≤ n) (h1 : ∀ v ∈ cs, v.oneCell' = true) (hf : ∀ j, j < n → f' j = if h : j < cs.length then cs[j] else f j)
    (h : ∀ w', RowF w' g t n f' → w.grownBy w' (some g) → wpList P ops Q rest (a.put o.dst (goInt sLen)) w') : wpList P ops Q (o :: rest) a w := by
  refine wpList_plain hgd fun K hK => ?_
  obtain ⟨A, hA, hAn, hAf⟩ := hg
  have hrun := run_copy_wide (P := P) w dT sT o.type elem i g dLen dCap ad sLen sCap A t cs hu hi hA hn hle hsrc (by omega) h1
  unfold Oper.wp
  simp [execOp, ho, resolve, invoke, builtin, hd, hs, hrun, Result.andThen]
  refine hK _ _ (h _ ⟨_, setRow_heap w g A _ t _ hA, by simp; omega, fun j hj => ?_⟩ ⟨rfl, rfl, rfl, by simp [World.setRow], fun k _ hk => setRow_other w g k _ (fun e => hk (by rw [e]))⟩)
  rw [hf j hj]
  by_cases hc : j < cs.length
  · rw [dif_pos hc]; simp [List.getElem?_append_left hc, List.getElem?_eq_getElem hc]
  · rw [dif_neg hc]
    have := hAf j hj
    simp only [List.getElem?_toArray]
    rw [List.getElem?_append_right (by omega), List.getElem?_drop, show cs.length + (j - cs.length) = j by omega]
    simpa using this
end Go.Proofs.YtamiichlbmllcaaGreatDoor
/-
  The contracts of suretylaw.lent and suretylaw.back: a program is lent in a list of the caller's own, and looked at and written over behind the call.
-/
namespace Go.Proofs.YtamiichlbmllcaaGreatDoor
open Go.RowKit
theorem addr_add (b off j : Nat) : (⟨b, off, none⟩ : Addr).add j = ⟨b, off + j, none⟩ := by unfold Addr.add; split <;> simp_all
def marks (n : Nat) : List I5 := [⟨77, 0, 0, 0, n⟩, ⟨77, 0, 0, 0, n + 1⟩, ⟨77, 0, 0, 0, n + 2⟩]
def lentL (l : List I5) : List I5 := l ++ marks l.length
/-- what each cell of a list of instructions holds -/
def cellF (L : List I5) (j : Nat) : Value := (L.flatMap I5.cells).getD j (.int .i64 0)
theorem flat_len5 (L : List I5) : (L.flatMap I5.cells).length = L.length * 5 := by
  induction L with
  | nil => rfl
  | cons x r ih => rw [List.flatMap_cons, List.length_append, ih]; simp [I5.cells]; omega
theorem cellF_at (L : List I5) (i f : Nat) (hi : i < L.length) (hf : f < 5) : cellF L (i * 5 + f) = L[i].cells.getD f (.int .i64 0) := by
  unfold cellF; rw [List.getD_eq_getElem?_getD, List.getD_eq_getElem?_getD, flat_cells L i f hi hf]
theorem RowF.ins {w : World} {g : Nat} {t : TypeId} {n : Nat} {L : List I5} {f : Nat → Value} (h : RowF w g t n f) (i : Nat) (hi : i < L.length) (hn : L.length * 5 ≤ n) (hf : ∀ k, k < 5 → f (i * 5 + k) = cellF L (i * 5 + k)) : InsAt w g (0 + i * 5) L[i] := by
  have hc : ∀ k, k < 5 → w.cell? ⟨g, 0 + i * 5 + k, none⟩ = some (L[i].cells.getD k (.int .i64 0)) := by
    intro k hk
    rw [show 0 + i * 5 + k = i * 5 + k by omega, (h.cell (i * 5 + k) (by omega)).1, hf k hk, cellF_at L i k hi hk]
  exact ⟨hc 0 (by omega), hc 1 (by omega), hc 2 (by omega), hc 3 (by omega), hc 4 (by omega)⟩
/-- a list as it was lent -/
def LentAt (w : World) (base : Nat) (v hv : Value) (l : List I5) : Prop :=
  (v = .slice none 0 0 ∧ hv = .slice none 0 0 ∧ l = []) ∨
  ∃ a c g, v = .slice (some a) l.length c ∧ hv = .slice (some ⟨g, 0, none⟩) l.length (l.length + 3) ∧ base ≤ g ∧ RowF w g 62 ((l.length + 3) * 5) (cellF (lentL l))
theorem LentAt.below {w w' : World} {base : Nat} {v hv : Value} {l : List I5} (h : LentAt w base v hv l) (hb : Below w.heap.size w w') : LentAt w' base v hv l := by
  rcases h with h | ⟨a, c, g, h1, h2, h3, h4⟩
  · exact Or.inl h
  · exact Or.inr ⟨a, c, g, h1, h2, h3, h4.block (hb.block g h4.lt)⟩
theorem LentAt.slc {w : World} {base : Nat} {v hv : Value} {l : List I5} (h : LentAt w base v hv l) : Slc w hv l := by
  rcases h with ⟨_, rfl, rfl⟩ | ⟨a, c, g, _, rfl, _, h4⟩
  · exact Or.inl ⟨⟨_, _, rfl⟩, rfl⟩
  · refine Or.inr ⟨g, 0, _, rfl, h4.lt, fun i hi => ?_⟩
    have := h4.ins (L := lentL l) i (by simp [lentL]; omega) (by simp [lentL, marks]) (fun k hk => rfl)
    have e : (lentL l)[i]'(by simp [lentL]; omega) = l[i] := by simp only [lentL]; rw [List.getElem_append_left]
    rw [e] at this
    exact this
theorem made_zero (n j : Nat) (h : j < n) : (madeCells #[Value.int .i64 0, .int .i64 0, .int .i64 0, .int .i64 0, .int .i64 0] n)[j]? = some (.int .i64 0) := by
  simp [madeCells, h]
  have : j % 5 = 0 ∨ j % 5 = 1 ∨ j % 5 = 2 ∨ j % 5 = 3 ∨ j % 5 = 4 := by omega
  rcases this with e | e | e | e | e <;> rw [e] <;> rfl
/-- an instruction stored into a row -/
theorem RowF.set5 {w : World} {g N : Nat} {t : TypeId} {f : Nat → Value} (h : RowF w g t N f) (n : Nat) (x : I5) :
    RowF (((((w.setCell ⟨g, n * 5, none⟩ (.int .i64 x.o)).setCell ⟨g, n * 5 + 1, none⟩ (.int .i64 x.a)).setCell ⟨g, n * 5 + 2, none⟩ (.int .i64 x.b)).setCell ⟨g, n * 5 + 3, none⟩ (.int .i64 x.c)).setCell ⟨g, n * 5 + 4, none⟩ (.int .i64 x.k)) g t N (fun j => if n * 5 ≤ j ∧ j < n * 5 + 5 then x.cells.getD (j - n * 5) (.int .i64 0) else f j) := by
  refine (((((h.set _ _).set _ _).set _ _).set _ _).set _ _).congr fun j _ => ?_
  by_cases hj : n * 5 ≤ j ∧ j < n * 5 + 5
  · rw [if_pos hj]
    have : j = n * 5 ∨ j = n * 5 + 1 ∨ j = n * 5 + 2 ∨ j = n * 5 + 3 ∨ j = n * 5 + 4 := by omega
    rcases this with rfl | rfl | rfl | rfl | rfl <;> simp [I5.cells]
  · rw [if_neg hj, if_neg (by omega), if_neg (by omega), if_neg (by omega), if_neg (by omega), if_neg (by omega)]
theorem below_set5 {B : Nat} {w0 w : World} {g : Nat} (h : Below B w0 w) (hB : B ≤ g) (o0 o1 o2 o3 o4 : Nat) (u0 u1 u2 u3 u4 : Value) :
    Below B w0 (((((w.setCell ⟨g, o0, none⟩ u0).setCell ⟨g, o1, none⟩ u1).setCell ⟨g, o2, none⟩ u2).setCell ⟨g, o3, none⟩ u3).setCell ⟨g, o4, none⟩ u4) :=
  ((((h.setCell (by exact hB) _).setCell (by exact hB) _).setCell (by exact hB) _).setCell (by exact hB) _).setCell (by exact hB) _
theorem lentL_mark (l : List I5) (n : Nat) (h1 : l.length ≤ n) (h2 : n < l.length + 3) : ∃ h : n < (lentL l).length, (lentL l)[n] = ⟨77, 0, 0, 0, n⟩ := by
  refine ⟨by simp [lentL, marks]; omega, ?_⟩
  simp only [lentL]
  rw [List.getElem_append_right h1]
  have : n = l.length ∨ n = l.length + 1 ∨ n = l.length + 2 := by omega
  rcases this with rfl | rfl | rfl <;> simp [marks]
/-- while the marks are laid -/
def lentF (l : List I5) (k j : Nat) : Value := if j < k * 5 then cellF (lentL l) j else .int .i64 0
set_option maxHeartbeats 4000000 in
set_option maxRecDepth 100000 in
theorem lent_some (l : List I5) (a : Addr) (c : Nat) (w : World) (hcs : ∀ j u, (l.flatMap I5.cells)[j]? = some u → w.cell? (a.add j) = some u) (hlen : l.length * 40 ≤ 140737488351232) :
    Calls Tryz.prog 34 #[.slice (some a) l.length c] w fun e w' => ∃ hv, e = .returned hv ∧ LentAt w' w.heap.size (.slice (some a) l.length c) hv l ∧ Below w.heap.size w w' := by
  obtain ⟨i0, ihi, ih0, ihs, ih2⟩ := info_parts Tryz.infoIns
  have hq := fun wx => Lib.run_eql_slice_nil (P := Tryz.prog) wx 26 62 (some a) l.length c 0 0 Tryz.underlying26
  simp only [Option.isNone_some] at hq
  go_enter Tryz.func34, Tryz.ntmps34
  go_wp2_with (at_make; go_must (refine wpList_make_full _ rfl (.tmp 9) (.tmp 9) 26 rfl w.heap.size 62 i0 _ 5 Tryz.underlying26 ihi ih0 ihs .i64 .i64 _ _ (l.length + 3) rfl rfl ?e1 ?e2 ?b2 ?b3 ?b4 ?_))
  case e1 => omega
  case e2 => omega
  case b2 => rw [ih2]; omega
  case b3 => unfold maxLen; omega
  case b4 => exact Nat.le_refl _
  intro w1 hown1 hgrow1
  have hb1 := (Below.refl w.heap.size w).grown hgrow1 (Nat.le_refl _) (fun k hk => by cases hk)
  have hR1 : RowF w1 w.heap.size 62 ((l.length + 3) * 5) (fun _ => .int .i64 0) := by
    rcases hown1.2 with ⟨h0, _⟩ | ⟨g, cap, cur, hv, _, hh, _, _, hs, ht⟩
    · cases h0
    · simp only [Value.slice.injEq, Option.some.injEq, Addr.mk.injEq, and_true, true_and] at hv
      obtain ⟨rfl, rfl⟩ := hv
      refine ⟨cur, hh, hs, fun j hj => ?_⟩
      have := made_zero ((l.length + 3) * 5) j hj
      rw [← Array.getElem?_toList] at this ⊢
      rw [← ht, List.getElem?_take] at this
      simpa [hj] using this
  have hcs1 : ∀ j u, (l.flatMap I5.cells)[j]? = some u → w1.cell? (a.add j) = some u := fun j u hj => by
    have h2 := hcs j u hj
    have hlt := World.block_lt_of_cell? w _ h2
    rw [hb1.cell (p := a.add j) hlt]; exact h2
  have HC := hide hcs1
  clear hown1 hgrow1 hcs1 hcs
  go_wp2_with (refine wpList_copy_wide rfl (.tmp 11) (.tmp 12) 26 26 rfl 62 i0 Tryz.underlying26 ihi w.heap.size (l.length + 3) (l.length + 3) a l.length c rfl rfl ((l.length + 3) * 5) 62 _ (lentF l l.length) hR1 (l.flatMap I5.cells) ?k1 (by omega) HC.out ?k2 ?k3 ?k4 ?_)
  case k1 => rw [flat_len5, ihs]
  case k2 => rw [flat_len5]; omega
  case k3 => intro u hu; obtain ⟨x, _, hx⟩ := List.mem_flatMap.1 hu; exact five_one x u hx
  case k4 =>
    intro j hj
    have hfl := flat_len5 l
    unfold lentF
    by_cases hc : j < l.length * 5
    · rw [if_pos hc, dif_pos (by omega)]
      unfold cellF lentL
      rw [List.flatMap_append, List.getD_eq_getElem?_getD, List.getElem?_append_left (by rw [flat_len5]; exact hc), List.getElem?_eq_getElem]; rfl
    · rw [if_neg hc, dif_neg (by omega)]
  intro w2 hR2 hg2
  have hb2 := hb1.grown hg2 hb1.size (fun k hk => by cases hk; exact Nat.le_refl _)
  clear hR1 hb1 hg2
  go_wp2_with fail
  go_loopw [4] (fun j wr => ∃ n : Nat, l.length ≤ n ∧ n ≤ l.length + 3 ∧ j = .int .i64 n ∧ RowF wr w.heap.size 62 ((l.length + 3) * 5) (lentF l n) ∧ Below w.heap.size w wr) (fun j _ => l.length + 3 - (intOf j).toNat)
  case atStart => exact ⟨l.length, by omega, by omega, rfl, hR2, hb2⟩
  case round =>
    clear hR2 hb2
    obtain ⟨n, hn1, hn2, rfl, hR, hbl⟩ := hrel
    by_cases hlt : n < l.length + 3
    · obtain ⟨c0, f0⟩ := hR.cell (n * 5) (by omega)
      obtain ⟨c1, f1⟩ := hR.cell (n * 5 + 1) (by omega)
      obtain ⟨c2, f2⟩ := hR.cell (n * 5 + 2) (by omega)
      obtain ⟨c3, f3⟩ := hR.cell (n * 5 + 3) (by omega)
      obtain ⟨c4, f4⟩ := hR.cell (n * 5 + 4) (by omega)
      have HS : Hid (RowF _ w.heap.size 62 ((l.length + 3) * 5) (lentF l (n + 1))) := hide ((hR.set5 n ⟨77, 0, 0, 0, n⟩).congr (by
        intro j hj
        obtain ⟨hm1, hm2⟩ := lentL_mark l n hn1 hlt
        unfold lentF
        by_cases hc : n * 5 ≤ j ∧ j < n * 5 + 5
        · rw [if_pos hc, if_pos (by omega)]
          obtain ⟨f, rfl⟩ : ∃ f, j = n * 5 + f := ⟨j - n * 5, by omega⟩
          rw [cellF_at (lentL l) n f hm1 (by omega), hm2, Nat.add_sub_cancel_left]
        · rw [if_neg hc]
          by_cases hc2 : j < n * 5
          · rw [if_pos hc2, if_pos (by omega)]
          · rw [if_neg hc2, if_neg (by omega)]))
      go_wp2
      go_roundw
      case rel => exact ⟨n + 1, by omega, by omega, by go_num, HS.out, below_set5 hbl (Nat.le_refl _) _ _ _ _ _ _ _ _ _ _⟩
      case measure => simp [intOf]; omega
    · have en : n = l.length + 3 := by omega
      subst en
      have hR' : RowF wr w.heap.size 62 ((l.length + 3) * 5) (cellF (lentL l)) := hR.congr (fun j hj => by unfold lentF; rw [if_pos hj])
      clear hR
      go_wp2
      go_ret
      exact ⟨_, rfl, Or.inr ⟨a, c, _, rfl, rfl, Nat.le_refl _, hR'⟩, hbl⟩
set_option maxHeartbeats 1600000 in
theorem lent_nil (w : World) :
    Calls Tryz.prog 34 #[.slice none 0 0] w fun e w' => e = .returned (.slice none 0 0) ∧ w' = w := by
  have hq := fun wx => Lib.run_eql_slice_nil (P := Tryz.prog) wx 26 62 none 0 0 0 0 Tryz.underlying26
  simp only [Option.isNone_none] at hq
  go_enter Tryz.func34, Tryz.ntmps34
  go_wp2
  go_ret
  exact ⟨rfl, rfl⟩
/-- a slice that came in: nil is nil -/
def Arg (w : World) (v : Value) (l : List I5) : Prop := Slc w v l ∧ ∀ n c, v = .slice none n c → n = 0 ∧ c = 0
theorem Arg.below {w w' : World} {v : Value} {l : List I5} {B : Nat} (h : Arg w v l) (hb : Below B w w') (hB : w.heap.size ≤ B) : Arg w' v l := ⟨h.1.below hb hB, h.2⟩
theorem Arg.cells {w : World} {v : Value} {l : List I5} (h : Arg w v l) : (v = .slice none 0 0 ∧ l = []) ∨ ∃ a c, v = .slice (some a) l.length c ∧ ∀ j u, (l.flatMap I5.cells)[j]? = some u → w.cell? (a.add j) = some u := by
  obtain ⟨hs, hn⟩ := h
  rcases hs with ⟨⟨a, c, rfl⟩, rfl⟩ | ⟨b, off, cap, rfl, hb, hi⟩
  · cases a with
    | none => obtain ⟨_, rfl⟩ := hn 0 c rfl; exact Or.inl ⟨rfl, rfl⟩
    | some a => exact Or.inr ⟨a, c, rfl, fun j u hj => by simp at hj⟩
  · refine Or.inr ⟨⟨b, off, none⟩, cap, rfl, fun j u hj => ?_⟩
    have hlt := (List.getElem?_eq_some_iff.1 hj).1
    rw [flat_len5] at hlt
    have hd : j / 5 < l.length := by omega
    have hm : j % 5 < 5 := Nat.mod_lt _ (by omega)
    have hje : j = j / 5 * 5 + j % 5 := by omega
    rw [hje, flat_cells l (j / 5) (j % 5) hd hm] at hj
    have hadd0 := addr_add b off j
    have hadd : (⟨b, off, none⟩ : Addr).add j = ⟨b, off + j / 5 * 5 + j % 5, none⟩ := by
      rw [hadd0, show off + j = off + j / 5 * 5 + j % 5 by clear hadd0; omega]
    rw [hadd]
    obtain ⟨c0, c1, c2, c3, c4⟩ := hi (j / 5) hd
    obtain ⟨f, hf5, hfe⟩ : ∃ f, f < 5 ∧ j % 5 = f := ⟨_, hm, rfl⟩
    rw [hfe] at hj ⊢
    have : f = 0 ∨ f = 1 ∨ f = 2 ∨ f = 3 ∨ f = 4 := by clear hje hadd hadd0 hfe hj; omega
    rcases this with rfl | rfl | rfl | rfl | rfl
    · rw [← hj]; exact c0
    · rw [← hj]; exact c1
    · rw [← hj]; exact c2
    · rw [← hj]; exact c3
    · rw [← hj]; exact c4
theorem lent_any (l : List I5) (v : Value) (w : World) (h : Arg w v l) (hlen : l.length * 40 ≤ 140737488351232) :
    Calls Tryz.prog 34 #[v] w fun e w' => ∃ hv, e = .returned hv ∧ LentAt w' w.heap.size v hv l ∧ Below w.heap.size w w' := by
  rcases h.cells with ⟨rfl, rfl⟩ | ⟨a, c, rfl, hc⟩
  · refine (lent_nil w).mono ?_
    rintro e w' ⟨rfl, rfl⟩
    exact ⟨_, rfl, Or.inl ⟨rfl, rfl, rfl⟩, Below.refl _ _⟩
  · exact lent_some l a c w hc hlen
def jumpI : I5 := ⟨9, 0, 0, 0, 1⟩
/-- while it is written over -/
def backF (l : List I5) (k j : Nat) : Value := if j < k * 5 then jumpI.cells.getD (j % 5) (.int .i64 0) else cellF (lentL l) j
theorem back_step (wx wr : World) (l : List I5) (g n : Nat) (hR : RowF wr g 62 ((l.length + 3) * 5) (backF l n)) (hwx : wx.heap[g]? = wr.heap[g]?) :
    RowF (((((wx.setCell ⟨g, n * 5, none⟩ (.int .i64 9)).setCell ⟨g, n * 5 + 1, none⟩ (.int .i64 0)).setCell ⟨g, n * 5 + 2, none⟩ (.int .i64 0)).setCell ⟨g, n * 5 + 3, none⟩ (.int .i64 0)).setCell ⟨g, n * 5 + 4, none⟩ (.int .i64 1)) g 62 ((l.length + 3) * 5) (backF l (n + 1)) :=
  ((hR.block hwx).set5 n jumpI).congr (by
    intro j hj
    unfold backF
    by_cases hc : n * 5 ≤ j ∧ j < n * 5 + 5
    · rw [if_pos hc, if_pos (by omega), show j % 5 = j - n * 5 by omega]
    · rw [if_neg hc]
      by_cases hc2 : j < n * 5
      · rw [if_pos hc2, if_pos (by omega)]
      · rw [if_neg hc2, if_neg (by omega)])
set_option maxHeartbeats 4000000 in
set_option maxRecDepth 100000 in
theorem back_some (l : List I5) (a : Addr) (c g base : Nat) (w : World) (hbg : base ≤ g) (hR : RowF w g 62 ((l.length + 3) * 5) (cellF (lentL l))) (hp : 0 < l.length → ∃ b off, a = ⟨b, off, none⟩ ∧ b < base ∧ ∀ i (h : i < l.length), InsAt w b (off + i * 5) l[i]) (hlen : l.length * 40 ≤ 140737488351232) :
    Calls Tryz.prog 35 #[.slice (some ⟨g, 0, none⟩) l.length (l.length + 3), .slice (some a) l.length c] w fun e w' => e = .returned (.bool true) ∧ Below base w w' ∧ But g w w' := by
  have hq := fun wx => Lib.run_eql_slice_nil (P := Tryz.prog) wx 26 62 (some a) l.length c 0 0 Tryz.underlying26
  simp only [Option.isNone_some] at hq
  have HP := hide hp
  clear hp
  go_enter Tryz.func35, Tryz.ntmps35
  go_wp2_with fail
  go_loopw [6, 7] (fun ok j wr => ∃ n : Nat, n ≤ l.length + 3 ∧ ok = .bool true ∧ j = .int .i64 n ∧ RowF wr g 62 ((l.length + 3) * 5) (backF l n) ∧ Below base w wr ∧ But g w wr) (fun _ j _ => l.length + 3 - (intOf j).toNat)
  case atStart => exact ⟨0, by omega, rfl, rfl, hR.congr (fun j _ => by simp [backF]), Below.refl _ _, But.refl _ _⟩
  case round =>
    clear hR
    obtain ⟨n, hn, rfl, rfl, hR, hbl, hbt⟩ := hrel
    have HBT := hide hbt
    clear hbt
    by_cases hlt : n < l.length + 3
    · obtain ⟨x, hx⟩ : ∃ x, x = (lentL l)[n]'(by simp [lentL, marks]; omega) := ⟨_, rfl⟩
      obtain ⟨c0, c1, c2, c3, c4⟩ := hR.ins (L := lentL l) n (by simp [lentL, marks]; omega) (by simp [lentL, marks]) (fun k hk => by unfold backF; rw [if_neg (by omega)])
      rw [← hx, Nat.zero_add] at c0 c1 c2 c3 c4
      have f0 := (hR.cell (n * 5) (by omega)).2
      have f1 := (hR.cell (n * 5 + 1) (by omega)).2
      have f2 := (hR.cell (n * 5 + 2) (by omega)).2
      have f3 := (hR.cell (n * 5 + 3) (by omega)).2
      have f4 := (hR.cell (n * 5 + 4) (by omega)).2
      have HS := hide (fun wx hwx => back_step wx wr l g n hR hwx)
      by_cases hin : n < l.length
      · obtain ⟨b, off, rfl, hb, hi⟩ := HP.out (by omega)
        have hxl : x = l[n] := by rw [hx]; simp only [lentL]; rw [List.getElem_append_left]
        obtain ⟨e0, e1, e2, e3, e4⟩ := (hi n hin).below hbl hb
        rw [← hxl] at e0 e1 e2 e3 e4
        have HX := hide hx
        clear hx hxl hi
        go_wp2_with fail
        go_quiet (fail)
        go_wp2
        exact ⟨⟨n + 1, by omega, rfl, by go_num, HS.out _ rfl, below_set5 (below_drewN hbl _) hbg _ _ _ _ _ _ _ _ _ _, But.set5 (HBT.out.trans (But.ofBelow (below_drewN (Below.refl _ _) _))) _ _ _ _ _ _ _ _ _ _⟩, by simp [intOf]; omega⟩
      · obtain ⟨_, hm⟩ := lentL_mark l n (by omega) hlt
        rw [← hx] at hm
        subst hm
        clear hx
        go_wp2
        exact ⟨⟨n + 1, by omega, rfl, by go_num, HS.out _ rfl, below_set5 hbl hbg _ _ _ _ _ _ _ _ _ _, But.set5 HBT.out _ _ _ _ _ _ _ _ _ _⟩, by simp [intOf]; omega⟩
    · go_wp2
      go_ret
      exact ⟨rfl, hbl, HBT.out⟩
set_option maxHeartbeats 1600000 in
theorem back_nil (hv : Value) (w : World) :
    Calls Tryz.prog 35 #[hv, .slice none 0 0] w fun e w' => e = .returned (.bool true) ∧ w' = w := by
  have hq := fun wx => Lib.run_eql_slice_nil (P := Tryz.prog) wx 26 62 none 0 0 0 0 Tryz.underlying26
  simp only [Option.isNone_none] at hq
  go_enter Tryz.func35, Tryz.ntmps35
  go_wp2
  go_ret
  exact ⟨rfl, rfl⟩
/-- what was lent is as it was; it is written over, and nothing else -/
theorem lawBack2 (l : List I5) (v hv : Value) (base : Nat) (w0 w : World) (hl : LentAt w base v hv l) (ha : Arg w0 v l) (h0 : w0.heap.size ≤ base) (hbl : Below w0.heap.size w0 w) (hlen : l.length * 40 ≤ 140737488351232) :
    Calls Tryz.prog 35 #[hv, v] w fun e w' => e = .returned (.bool true) ∧ Below base w w' ∧ ∀ k, k < w.heap.size → some k ≠ hv.ownBlock → w'.heap[k]? = w.heap[k]? := by
  rcases hl with ⟨rfl, rfl, rfl⟩ | ⟨a, c, g, rfl, rfl, hbg, hR⟩
  · refine (back_nil _ w).mono ?_
    rintro e w' ⟨rfl, rfl⟩
    exact ⟨rfl, Below.refl _ _, fun _ _ _ => rfl⟩
  · refine (back_some l a c g base w hbg hR (fun hp => ?_) hlen).mono ?_
    · rcases ha.1 with ⟨_, rfl⟩ | ⟨b, off, cap, hv, hb, hi⟩
      · simp at hp
      · simp only [Value.slice.injEq, Option.some.injEq] at hv
        obtain ⟨rfl, _, _⟩ := hv
        exact ⟨b, off, rfl, by omega, fun i h => (hi i h).below hbl hb⟩
    · rintro e w' ⟨he, hb, ht⟩
      exact ⟨he, hb, fun k hk hn => ht.block k hk (fun e => hn (by rw [e]; rfl))⟩
theorem lawBack_any (l : List I5) (v hv : Value) (base : Nat) (w0 w : World) (hl : LentAt w base v hv l) (ha : Arg w0 v l) (h0 : w0.heap.size ≤ base) (hbl : Below w0.heap.size w0 w) (hlen : l.length * 40 ≤ 140737488351232) :
    Calls Tryz.prog 35 #[hv, v] w fun e w' => e = .returned (.bool true) ∧ Below base w w' :=
  (lawBack2 l v hv base w0 w hl ha h0 hbl hlen).mono fun _ _ h => ⟨h.1, h.2.1⟩
theorem LentAt.lt {w : World} {base : Nat} {v hv : Value} {l : List I5} (h : LentAt w base v hv l) : ∀ k, hv.ownBlock = some k → k < w.heap.size := by
  rcases h with ⟨rfl, rfl, rfl⟩ | ⟨a, c, g, rfl, rfl, hbg, hR⟩
  · intro k hk; cases hk
  · intro k hk; cases hk; exact hR.lt
end Go.Proofs.YtamiichlbmllcaaGreatDoor
