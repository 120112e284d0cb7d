import Derived.Test.YtamiichlbmllcabGreatDoorQRpC
import Derived.Test.YtamiichlbmllcabGreatDoorQRpD
import Derived.Test.YtamiichlbmllcabGreatDoorQRpE
import Derived.Test.YtamiichlbmllcabGreatDoorQThrA
import Derived.Test.YtamiichlbmllcabGreatDoorQSetW
set_option maxRecDepth 100000
set_option maxHeartbeats 32000000
namespace Go.Proofs.YtamiichlbmllcabGreatDoor
open Go.RowKit
theorem rf_comes_un (z : Int) (s0 : St) (n : Nat) (V wb cb tb bb : Nat) (back : Nat -> Bool) (v : PS) (w : World) (hB : RpB n V wb cb tb bb back w) (hW : At w wb (plsA n v.W) 168) (hC : At w cb (intA n (cntE v)) 3) (hT : At w tb (bosA n v.chg) 4) :
 Calls Tryz.prog 96 #[.pointer (some ⟨V, 0, none⟩), .agg (plC false s0), .int .i64 z] w fun e w' => e = .returned (.tuple #[]) /\ ComesP n wb cb tb v w w' := by
 have hk := Kn.three hW hC hT hB.wc hB.wt hB.ct
 go_enter Tryz.func96, Tryz.ntmps96
 go_wp2_with ((with_reducible apply gL); (first | refine wS hk ?_ | (refine wN hk ?_; clear hk; intro w1 hk)); simp only [pw])
 exact post_0 rfl rfl ⟨rfl, hk.mod, hk.at mm, hk.at mm, hk.at mm⟩
theorem cnt_here (v : PS) (W : Nat -> Option St) (m : Nat) : cntE ⟨W, v.cnt, updB v.chg m true⟩ m = v.cnt m + 1 := by
 unfold cntE updB
 simp
theorem rf_comes (n m : Nat) (hm : m < n) (V wb cb tb bb : Nat) (back : Nat -> Bool) (v : PS) (w : World) (hB : RpB n V wb cb tb bb back w) (hW : At w wb (plsA n v.W) 168) (hC : At w cb (intA n (cntE v)) 3) (hT : At w tb (bosA n v.chg) 4) (b : Bool) (s : St) (hcb : back m = true -> v.cnt m <= 20) :
 Calls Tryz.prog 96 #[.pointer (some ⟨V, 0, none⟩), .agg (plC b s), .int .i64 m] w fun e w' => e = .returned (.tuple #[]) /\ ComesP n wb cb tb (takesP back v m (wayO b s)) w w' := by
 cases b with
 | false =>
   rw [takes_no (show liesO (wayO false s) (v.W m) = true from rfl)]
   exact rf_comes_un m s n V wb cb tb bb back v w hB hW hC hT
 | true =>
   show Calls _ _ _ _ fun e w' => e = .returned (.tuple #[]) /\ ComesP n wb cb tb (takesP back v m (some s)) w w'
   cases hWm : v.W m with
   | none =>
     rw [takes_first hWm]
     exact rf_comes_first n m hm V wb cb tb bb back v w hB hW hC hT s hWm
   | some t =>
     cases hl : liesR s t with
     | true =>
       rw [takes_no (by rw [hWm]; exact hl)]
       exact rf_comes_lies n m hm V wb cb tb bb back v w hB hW hC hT s t hWm hl
     | false =>
       rw [takes_at (by rw [hWm]; exact hl)]
       cases hbk : back m with
       | false =>
         have e : widerP back v m (some s) = some (fun j => joinR (t j) (s j)) := by unfold widerP; rw [hbk, hWm]; rfl
         rw [e]
         exact rf_comes_wf n m hm V wb cb tb bb back v w hB hW hC hT s t hWm hl hbk
       | true =>
         have h20 := hcb hbk
         have hz : wrap64 ((cntE ⟨v.W, v.cnt, updB v.chg m true⟩ m : Nat) : Int) = (v.cnt m : Int) + 1 := by rw [cnt_here]; unfold wrap64; omega
         by_cases h3 : 3 <= v.cnt m
         · have e : widerP back v m (some s) = some (fun j => stretchR (t j) (s j)) := by unfold widerP; rw [hbk, hWm, decide_eq_true h3]; rfl
           rw [e]
           exact rf_comes_ws n m hm V wb cb tb bb back v w hB hW hC hT s t hWm hl _ hz hbk (decide_eq_true (by omega))
         · have e : widerP back v m (some s) = some (fun j => joinR (t j) (s j)) := by unfold widerP; rw [hbk, hWm, decide_eq_false h3]; rfl
           rw [e]
           exact rf_comes_wl n m hm V wb cb tb bb back v w hB hW hC hT s t hWm hl _ hz hbk (decide_eq_false (by omega))
theorem Kn.callY {M N : List Nat} {w0 w w' : World} {L L' : RowL} (h : Kn M w0 w L) (hm : Mod N w w') (hN : ∀ b, b ∈ N -> w0.heap.size <= b \/ b ∈ M) (hkeys : L.map (·.1) = L'.map (·.1)) (hrow : ∀ x, x ∈ L' -> At w' x.1 x.2.1 x.2.2) : Kn M w0 w' L' := by
 refine ⟨h.mod.step hm hN, fun x hx => ⟨hrow x hx, ?_⟩, pw_keys hkeys h.dis⟩
 have : x.1 ∈ L'.map (·.1) := List.mem_map_of_mem hx
 rw [<- hkeys] at this
 obtain ⟨y, hy, e⟩ := List.mem_map.1 this
 rw [<- e]
 exact (h.has y hy).2
def rpT (wb cb : Nat) (tv : Value) (bb n : Nat) : Array Value := #[.slice (some ⟨wb, 0, none⟩) n n, .slice (some ⟨cb, 0, none⟩) n n, tv, .slice (some ⟨bb, 0, none⟩) n n]
def dstR (i : Nat) : Nat := [25, 26, 27, 28, 29, 30, 31, 32, 33, 34, 35, 9].getD i 0
def valR (pb po pc n : Nat) (G : Nat -> Nat) (i : Nat) : Value := [.slice (some ⟨pb, po, none⟩) n pc, .int .i64 n, .slice (some ⟨G 2, 0, none⟩) n n, .slice (some ⟨pb, po, none⟩) n pc, .int .i64 n, .slice (some ⟨G 5, 0, none⟩) n n, .slice (some ⟨pb, po, none⟩) n pc, .int .i64 n, .slice (some ⟨G 8, 0, none⟩) n n, .agg (rpT (G 2) (G 5) (.slice none 0 0) (G 8) n), .pointer (some ⟨G 10, 0, none⟩), .pointer (some ⟨G 10, 0, none⟩)].getD i undef
def isR (i : Nat) : Bool := [2, 5, 8, 10].contains i
def rowR (n : Nat) (G : Nat -> Nat) (i : Nat) : Array Value × TypeId := if i = 2 then (plsA n (fun _ => none), 168) else if i = 5 then (intA n (fun _ => 0), 3) else if i = 8 then (bosA n (fun _ => false), 4) else (rpT (G 2) (G 5) (.slice none 0 0) (G 8) n, 178)
theorem lt12 {i : Nat} (h : i < 12) : i = 0 \/ i = 1 \/ i = 2 \/ i = 3 \/ i = 4 \/ i = 5 \/ i = 6 \/ i = 7 \/ i = 8 \/ i = 9 \/ i = 10 \/ i = 11 := by omega
theorem dstR_inj {i j : Nat} (hi : i < 12) (hj : j < 12) (h : dstR i = dstR j) : i = j := by
 rcases lt12 hi with rfl | rfl | rfl | rfl | rfl | rfl | rfl | rfl | rfl | rfl | rfl | rfl <;> rcases lt12 hj with rfl | rfl | rfl | rfl | rfl | rfl | rfl | rfl | rfl | rfl | rfl | rfl <;> first | rfl | (exact absurd h (by decide))
structure RIr (n pb po pc : Nat) (w0 : World) (y : Nat -> Value) (G : Nat -> Nat) (ls : Array Bool) (w : World) : Prop where
 sz : ls.size = 12
 mod : Mod [] w0 w
 val : ∀ i, i < 12 -> ls.getD i false = true -> y (dstR i) = valR pb po pc n G i
 row : ∀ i, isR i = true -> ls.getD i false = true -> At w (G i) (rowR n G i).1 (rowR n G i).2 /\ w0.heap.size <= G i
 ne : ∀ i j, isR i = true -> isR j = true -> i ≠ j -> ls.getD i false = true -> ls.getD j false = true -> G i ≠ G j
 d9 : ls.getD 9 false = true -> ls.getD 2 false = true /\ ls.getD 5 false = true /\ ls.getD 8 false = true
 d10 : ls.getD 10 false = true -> ls.getD 9 false = true
 d11 : ls.getD 11 false = true -> ls.getD 10 false = true
theorem getD_setN {ls : Array Bool} {i j k : Nat} (hs : ls.size = k) (hi : i < k) : (ls.setIfInBounds i true).getD j false = (decide (i = j) || ls.getD j false) := by
 rw [Array.getD_eq_getD_getElem?, Array.getD_eq_getD_getElem?, Array.getElem?_setIfInBounds]
 by_cases h : i = j
 · subst h; simp [hs, hi]
 · simp [h]
theorem valR_eq {pb po pc n : Nat} {G G' : Nat -> Nat} {j : Nat} (hj : j < 12) (h2 : j = 2 \/ j = 9 -> G' 2 = G 2) (h5 : j = 5 \/ j = 9 -> G' 5 = G 5) (h8 : j = 8 \/ j = 9 -> G' 8 = G 8) (h10 : j = 10 \/ j = 11 -> G' 10 = G 10) : valR pb po pc n G' j = valR pb po pc n G j := by
 unfold valR
 rcases lt12 hj with rfl | rfl | rfl | rfl | rfl | rfl | rfl | rfl | rfl | rfl | rfl | rfl
 · rfl
 · rfl
 · simp [h2]
 · rfl
 · rfl
 · simp [h5]
 · rfl
 · rfl
 · simp [h8]
 · simp [h2, h5, h8]
 · simp [h10]
 · simp [h10]
theorem RIr.step {n pb po pc : Nat} {w0 w w' : World} {y : Nat -> Value} {G G' : Nat -> Nat} {ls : Array Bool} {i : Nat} (h : RIr n pb po pc w0 y G ls w) (hi : i < 12) (hun : ls.getD i true = false) (hG : ∀ j, j ≠ i -> G' j = G j) (hm : Mod [] w w') (hnew : isR i = true -> At w' (G' i) (rowR n G' i).1 (rowR n G' i).2 /\ w.heap.size <= G' i)
 (e9 : i = 9 -> ls.getD 2 false = true /\ ls.getD 5 false = true /\ ls.getD 8 false = true) (e10 : i = 10 -> ls.getD 9 false = true) (e11 : i = 11 -> ls.getD 10 false = true) :
 RIr n pb po pc w0 (updV y (dstR i) (valR pb po pc n G' i)) G' (ls.setIfInBounds i true) w' := by
 have hnd := not_done hun
 have hold : ∀ j, ls.getD j false = true -> j ≠ i := fun j hj e => by subst e; rw [hnd] at hj; cases hj
 have hset := fun j => getD_setN (ls := ls) (i := i) (j := j) h.sz hi
 have hd : ∀ j, (ls.setIfInBounds i true).getD j false = true -> i = j \/ ls.getD j false = true := fun j hj => by rw [hset j] at hj; simpa using hj
 have hup : ∀ j, ls.getD j false = true -> (ls.setIfInBounds i true).getD j false = true := fun j hj => by rw [hset j, hj]; simp
 have gsame : ∀ k, ls.getD k false = true -> G' k = G k := fun k hk => hG k (hold k hk)
 have hrow : ∀ j, isR j = true -> ls.getD j false = true -> rowR n G' j = rowR n G j := fun j hj hjd => by
  unfold rowR
  by_cases e : j = 10
  · subst e
    have q := h.d9 (h.d10 hjd)
    rw [gsame 2 q.1, gsame 5 q.2.1, gsame 8 q.2.2]
  · have : j = 2 \/ j = 5 \/ j = 8 := by unfold isR at hj; simp at hj; omega
    rcases this with rfl | rfl | rfl <;> simp
 refine ⟨by simp [h.sz], h.mod.trans hm, fun j hj hjd => ?_, fun j hj hjd => ?_, fun j k hj hk hjk hjd hkd => ?_, fun h9 => ?_, fun h10 => ?_, fun h11 => ?_⟩
 · rcases hd j hjd with rfl | hjd
   · unfold updV; rw [if_pos rfl]
   · have hne : dstR j ≠ dstR i := fun e => hold j hjd (dstR_inj hj hi e)
     have : updV y (dstR i) (valR pb po pc n G' i) (dstR j) = y (dstR j) := by unfold updV; rw [if_neg hne]
     rw [this, h.val j hj hjd]
     refine (valR_eq hj ?_ ?_ ?_ ?_).symm
     · rintro (rfl | rfl)
       · exact gsame 2 hjd
       · exact gsame 2 (h.d9 hjd).1
     · rintro (rfl | rfl)
       · exact gsame 5 hjd
       · exact gsame 5 (h.d9 hjd).2.1
     · rintro (rfl | rfl)
       · exact gsame 8 hjd
       · exact gsame 8 (h.d9 hjd).2.2
     · rintro (rfl | rfl)
       · exact gsame 10 hjd
       · exact gsame 10 (h.d11 hjd)
 · rcases hd j hjd with rfl | hjd
   · exact ⟨(hnew hj).1, Nat.le_trans h.mod.size (hnew hj).2⟩
   · rw [hrow j hj hjd, gsame j hjd]
     exact ⟨(h.row j hj hjd).1.mod hm (by simp), (h.row j hj hjd).2⟩
 · rcases hd j hjd with rfl | hjd
   · rcases hd k hkd with rfl | hkd
     · exact absurd rfl hjk
     · rw [gsame k hkd]
       have h1 := (hnew hj).2
       have h2 := (h.row k hk hkd).1.ltE
       omega
   · rcases hd k hkd with rfl | hkd
     · rw [gsame j hjd]
       have h1 := (hnew hk).2
       have h2 := (h.row j hj hjd).1.ltE
       omega
     · rw [gsame j hjd, gsame k hkd]; exact h.ne j k hj hk hjk hjd hkd
 · rcases hd 9 h9 with e | h9
   · exact ⟨hup _ (e9 e).1, hup _ (e9 e).2.1, hup _ (e9 e).2.2⟩
   · exact ⟨hup _ (h.d9 h9).1, hup _ (h.d9 h9).2.1, hup _ (h.d9 h9).2.2⟩
 · rcases hd 10 h10 with e | h10
   · exact hup _ (e10 e)
   · exact hup _ (h.d10 h10)
 · rcases hd 11 h11 with e | h11
   · exact hup _ (e11 e)
   · exact hup _ (h.d11 h11)
def actR (p E : Value) (b : Nat) (y : Nat -> Value) : Act := ⟨#[p, E, undef, .pointer (some ⟨b, 0, none⟩), .slice none 0 0, .int .i64 0, .int .i64 0, .int .i64 0, .int .i64 0, y 9, undef, undef, undef, undef, undef, .tuple #[.int .i64 0, .int .i64 0], p, E, .tuple #[.int .i64 0, .int .i64 0], .int .i64 0, .int .i64 0, .int .i64 0, .bool false, undef, undef, y 25, y 26, y 27, y 28, y 29, y 30, y 31, y 32, y 33, y 34, y 35, undef, undef, undef, undef, undef, undef, undef, undef, undef, undef, undef, undef, undef, undef, undef, undef, undef, undef, undef, undef, undef, undef, undef, undef, undef, undef, undef, undef, undef, undef, undef, undef, undef, undef, undef, undef, undef, undef, undef, undef, undef, undef, undef, undef, undef, undef, undef, undef, undef, undef, undef, undef, undef, undef, undef, undef, undef, undef, undef, undef, undef, undef, undef, undef, undef, undef, undef, undef, undef, undef, undef, undef, undef, undef, undef, undef, undef, undef, undef, undef, undef, undef, undef, undef, undef, undef, undef, undef, undef, undef, undef, undef, undef, undef, undef, undef], []⟩
theorem put_actR (p E : Value) (b : Nat) (y : Nat -> Value) (v : Value) {i : Nat} (hi : i < 12) : (actR p E b y).put (some (dstR i)) v = actR p E b (updV y (dstR i) v) := by
 rcases lt12 hi with rfl | rfl | rfl | rfl | rfl | rfl | rfl | rfl | rfl | rfl | rfl | rfl <;> rfl
theorem oLenS {a : Act} {w : World} {K : Act -> World -> Prop} {Q : Exit -> Act -> World -> Prop} {p : Option Addr} {n c : Nat} {d : Option Tmp} {x : Operand} {tt : TypeId} {pos : String} {aft : Array Edge} {g : Option (Nat × Bool)} (hx : a.eval x = .slice p n c) (h : K (a.put d (.int .i64 n)) w) : Oper.wp Tryz.prog ⟨d, .call { callee := .builtin .len, args := #[x], argTypes := #[36] }, tt, pos, aft, g⟩ a w K Q := by
 unfold Oper.wp execOp
 simp only [resolve, invoke, builtin, Sem.run_bind, Sem.run_pure, Result.andThen_ok, List.map_toArray, List.map_cons, List.map_nil, hx]
 simp [Builtin.len_, go_sem]
 exact h
theorem build_rp (a b d : Option Addr) (n1 n2 n4 c1 c2 c4 : Nat) (w : World) : (Instr.build 178 [(0, .slice a n1 c1), (1, .slice b n2 c2), (3, .slice d n4 c4)].toArray).run Tryz.prog w = .ok (.agg #[.slice a n1 c1, .slice b n2 c2, .slice none 0 0, .slice d n4 c4]) w := run_build w _ _ _ (by kernel_rfl)
end Go.Proofs.YtamiichlbmllcabGreatDoor
