/-
  Contracts, joined (StM StA StB StC StD StE StF StG StH).
-/
import Derived.Test.YtbcldknecdbemaaGreatDoorQ11
import Derived.Test.YtbcldknecdbemaaGreatDoorQ6
import Derived.Test.YtbcldknecdbemaaGreatDoorQ7
import Derived.Test.YtbcldknecdbemaaGreatDoorQ10
import Derived.Test.YtbcldknecdbemaaGreatDoorQ13
import Derived.Test.YtbcldknecdbemaaGreatDoorQ9
import Derived.Test.YtbcldknecdbemaaGreatDoorQ14
import Derived.Test.YtbcldknecdbemaaGreatDoorQ15
import Derived.Test.YtbcldknecdbemaaGreatDoorQ17
import Derived.Test.YtbcldknecdbemaaGreatDoorQ18

/-
  Stores, as mathematics: places, what Get and Put answer and leave.
-/
namespace Go.Proofs.YtbcldknecdbemaaGreatDoor
set_option linter.unusedVariables false
set_option maxRecDepth 20000

theorem hexD_inj : ∀ i j : Fin 16, Hx.hexD i.val = Hx.hexD j.val → i = j := by decide +kernel
theorem hexD_pos : ∀ i : Fin 16, Hx.hexD i.val ≠ 0 := by decide +kernel
theorem hex_cons (x : UInt8) (r : Byts) : Hx.hexOf (x :: r) = Hx.hexD (x.toNat / 16) :: Hx.hexD (x.toNat % 16) :: Hx.hexOf r := rfl
theorem hex_inj : ∀ (a b : Byts), Hx.hexOf a = Hx.hexOf b → a = b
  | [], [], _ => rfl
  | [], y :: ys, h => by rw [hex_cons] at h; cases h
  | x :: xs, [], h => by rw [hex_cons] at h; cases h
  | x :: xs, y :: ys, h => by
    rw [hex_cons, hex_cons] at h
    injection h with h1 h
    injection h with h2 h3
    have hx := x.toNat_lt
    have hy := y.toNat_lt
    have e1 := hexD_inj ⟨x.toNat / 16, by omega⟩ ⟨y.toNat / 16, by omega⟩ h1
    have e2 := hexD_inj ⟨x.toNat % 16, by omega⟩ ⟨y.toNat % 16, by omega⟩ h2
    injection e1 with e1
    injection e2 with e2
    have : x = y := UInt8.toNat_inj.1 (by omega)
    rw [this, hex_inj xs ys h3]
theorem hex_ne0 : ∀ (l : Byts), ∀ c ∈ Hx.hexOf l, c ≠ 0
  | [], c, h => by cases h
  | x :: r, c, h => by
    rw [hex_cons] at h
    have hx := x.toNat_lt
    rcases List.mem_cons.1 h with rfl | h
    · exact hexD_pos ⟨x.toNat / 16, by omega⟩
    · rcases List.mem_cons.1 h with rfl | h
      · exact hexD_pos ⟨x.toNat % 16, by omega⟩
      · exact hex_ne0 r c h

def placeB (nm : Byts) : Byts := [99, 47] ++ (Hx.hexOf nm).take 2 ++ [47] ++ Hx.hexOf nm
def aheadB (nm : Byts) : Byts := [116, 47] ++ Hx.hexOf nm
section
variable {nm : Byts} (h : nm.length = 32)
include h
theorem hex_len : (Hx.hexOf nm).length = 64 := by rw [Hx.hexOf_length, h]
theorem place_len : (placeB nm).length = 69 := by
  unfold placeB
  have := hex_len h
  simp only [List.length_append, List.length_take, List.length_cons, List.length_nil, this]
  omega
theorem ahead_len : (aheadB nm).length = 66 := by
  unfold aheadB
  have := hex_len h
  simp only [List.length_append, List.length_cons, List.length_nil, this]
theorem place_named : namedB (placeB nm) = true := by
  have hl := place_len h
  have : (placeB nm).all (fun c => c != 0) = true := by
    rw [List.all_eq_true]
    intro c hc
    have hn : c ≠ 0 := by
      unfold placeB at hc
      rcases List.mem_append.1 hc with hc | hc
      · rcases List.mem_append.1 hc with hc | hc
        · rcases List.mem_append.1 hc with hc | hc
          · intro e; subst e; revert hc; decide
          · exact hex_ne0 nm c (List.mem_of_mem_take hc)
        · intro e; subst e; revert hc; decide
      · exact hex_ne0 nm c hc
    simpa using hn
  unfold namedB
  rw [hl, this]
  rfl
theorem ahead_named : namedB (aheadB nm) = true := by
  have hl := ahead_len h
  have : (aheadB nm).all (fun c => c != 0) = true := by
    rw [List.all_eq_true]
    intro c hc
    have hn : c ≠ 0 := by
      unfold aheadB at hc
      rcases List.mem_append.1 hc with hc | hc
      · intro e; subst e; revert hc; decide
      · exact hex_ne0 nm c hc
    simpa using hn
  unfold namedB
  rw [hl, this]
  rfl
end
theorem ahead_ne (x y : Byts) : aheadB x ≠ placeB y := fun e => by
  unfold aheadB placeB at e
  simp at e
theorem place_inj {a b : Byts} (ha : a.length = 32) (hb : b.length = 32) (e : placeB a = placeB b) : a = b := by
  unfold placeB at e
  have h1 := hex_len ha
  have h2 := hex_len hb
  exact hex_inj a b (List.append_inj_right e (by simp only [List.length_append, List.length_take, h1, h2, List.length_cons]))

/-- What Get tells. -/
def getD (D : Dk) (nm : Byts) : Byts × Int :=
  if (readD D (placeB nm)).2 ≠ 0 then ([], (readD D (placeB nm)).2) else
  if (openOf (readD D (placeB nm)).1 4096).2 = 0 ∧ shaOf (openOf (readD D (placeB nm)).1 4096).1 = nm then ((openOf (readD D (placeB nm)).1 4096).1, 0) else ([], 7)
def thenD (r : Dk × Int) (f : Dk → Dk × Int) : Dk × Int := if r.2 = 0 then f r.1 else r
def putS (D : Dk) (nm b : Byts) : Dk × Int := thenD (thenD (thenD (writeD D (aheadB nm) (sealOf b)) syncD) (fun E => renameD E (aheadB nm) (placeB nm))) syncD
/-- What Put leaves and answers. -/
def zero32 : Byts := List.replicate 32 0
def putD (D : Dk) (b : Byts) : Dk × Byts × Int :=
  if 4096 < b.length then (D, zero32, 3) else if (getD D (shaOf b)).2 = 0 then (D, shaOf b, 0) else
  ((putS D (shaOf b) b).1, if (putS D (shaOf b) b).2 = 0 then shaOf b else zero32, (putS D (shaOf b) b).2)
theorem putD_len (D : Dk) (b : Byts) : (putD D b).2.1.length = 32 := by
  unfold putD
  split
  · rfl
  · split
    · rfl
    · show (if _ then _ else _ : Byts).length = 32
      split <;> rfl

/-- A disk on which nothing waits. -/
def still (room : Int) (S : Fls) (k : Int) : Dk := ⟨room, S, S, [], k⟩
theorem restart_still (room : Int) (S : Fls) (k : Int) (ks : List Bool) : restartD (still room S k) ks = still room S (-1) := rfl
theorem fGet_one (p q b : Byts) : fGet [(p, b)] q = if p = q then some b else none := by rw [fGet_cons]; rfl
section
variable {b : Byts} {room : Int} (hb : b.length ≤ 4096)
include hb
theorem get_whole (k : Int) (hk : k ≠ 0) : getD (still room [(placeB (shaOf b), sealOf b)] k) (shaOf b) = (b, 0) := by
  have hr : readD (still room [(placeB (shaOf b), sealOf b)] k) (placeB (shaOf b)) = (sealOf b, 0) := by
    unfold readD
    rw [if_neg (show ¬ (still room _ k).power = 0 from hk)]
    show (match fGet [(placeB (shaOf b), sealOf b)] (placeB (shaOf b)) with | none => _ | some b => _) = _
    rw [fGet_one, if_pos rfl]
  have ho : openOf (sealOf b) 4096 = (b, 0) := by rw [open_seal b 4096 (by omega), if_neg (by omega)]
  unfold getD
  rw [hr]
  simp only [ho]
  rw [if_neg (by simp), if_pos ⟨trivial, trivial⟩]
omit hb in
theorem get_other (nm : Byts) (S : Fls) (k : Int) (hk : k ≠ 0) (hS : fGet S (placeB nm) = none) : getD (still room S k) nm = ([], 4) := by
  have hr : readD (still room S k) (placeB nm) = ([], 4) := by
    unfold readD
    rw [if_neg (show ¬ (still room _ k).power = 0 from hk)]
    show (match fGet S (placeB nm) with | none => _ | some b => _) = _
    rw [hS]
  unfold getD
  rw [hr, if_pos (by simp)]
omit hb in
theorem get_down (nm : Byts) (D : Dk) (hk : D.power = 0) : getD D nm = ([], 6) := by
  have hr : readD D (placeB nm) = ([], 6) := by
    unfold readD
    rw [if_pos hk]
  unfold getD
  rw [hr, if_pos (by simp)]
end
def lessP (k : Int) : Int := if 0 < k then k - 1 else k
section
variable {b : Byts} {room : Int} (S : Fls) (k : Int)
/-- Files among which Put has but its own one ahead. -/
def Own1 (b : Byts) (S : Fls) : Prop := S = [] ∨ ∃ x, S = [(aheadB (shaOf b), x)]
theorem own1_put (h : Own1 b S) (f : Byts) : fPut S (aheadB (shaOf b)) f = [(aheadB (shaOf b), f)] := by
  rcases h with rfl | ⟨x, rfl⟩
  · rfl
  · unfold fPut
    rw [if_neg (fun e => cmpB_lt_ne e rfl), fDel_cons, if_pos rfl]
    rfl
theorem own1_get (h : Own1 b S) : fGet S (placeB (shaOf b)) = none := by
  rcases h with rfl | ⟨x, rfl⟩
  · rfl
  · rw [fGet_one, if_neg (ahead_ne _ _)]
theorem own1_used (h : Own1 b S) : (fUsed S : Int) - (((fGet S (aheadB (shaOf b))).getD []).length : Int) = 0 := by
  rcases h with rfl | ⟨x, rfl⟩
  · rfl
  · rw [fGet_one, if_pos rfl]
    simp [fUsed]
/-- A Write ahead. -/
theorem put_one (h : Own1 b S) (hk : k ≠ 0) (hr : ((sealOf b).length : Int) ≤ room) :
    writeD (still room S k) (aheadB (shaOf b)) (sealOf b) = (⟨room, [(aheadB (shaOf b), sealOf b)], S, [.wr (aheadB (shaOf b)) (sealOf b)], lessP k⟩, 0) := by
  unfold writeD
  rw [ahead_named (shaOf_len b), if_neg (by simp), if_neg (show ¬ (still room S k).power = 0 from hk)]
  have hu := own1_used S h
  rw [if_neg (by show ¬ (room < (fUsed S : Int) - (((fGet S (aheadB (shaOf b))).getD []).length : Int) + ((sealOf b).length : Int)); omega)]
  show (Dk.mk room (mkF S (.wr (aheadB (shaOf b)) (sealOf b))) S ([] ++ [.wr (aheadB (shaOf b)) (sealOf b)]) (lessP k), (0 : Int)) = _
  rw [show mkF S (.wr (aheadB (shaOf b)) (sealOf b)) = [(aheadB (shaOf b), sealOf b)] from own1_put S h _]
  rfl
theorem put_sync (F : Fls) (l : List Chg) (hk : k ≠ 0) : syncD ⟨room, F, S, l, k⟩ = (still room F (lessP k), 0) := by
  unfold syncD
  rw [if_neg (by exact hk)]
  rfl
theorem put_down (D : Dk) (hk : D.power = 0) : syncD D = (D, 6) := by unfold syncD; rw [if_pos hk]
theorem put_turn (f : Byts) (hk : k ≠ 0) : renameD (still room [(aheadB (shaOf b), f)] k) (aheadB (shaOf b)) (placeB (shaOf b)) =
    (⟨room, [(placeB (shaOf b), f)], [(aheadB (shaOf b), f)], [.rn (aheadB (shaOf b)) (placeB (shaOf b))], lessP k⟩, 0) := by
  unfold renameD
  rw [place_named (shaOf_len b), if_neg (by simp), if_neg (show ¬ (still room _ k).power = 0 from hk)]
  have hg : fGet [(aheadB (shaOf b), f)] (aheadB (shaOf b)) = some f := by rw [fGet_one, if_pos rfl]
  rw [if_neg (by show ¬ fGet [(aheadB (shaOf b), f)] (aheadB (shaOf b)) = none; rw [hg]; simp)]
  show (Dk.mk room (mkF [(aheadB (shaOf b), f)] (.rn (aheadB (shaOf b)) (placeB (shaOf b)))) [(aheadB (shaOf b), f)] ([] ++ [.rn (aheadB (shaOf b)) (placeB (shaOf b))]) (lessP k), (0 : Int)) = _
  have : mkF [(aheadB (shaOf b), f)] (.rn (aheadB (shaOf b)) (placeB (shaOf b))) = [(placeB (shaOf b), f)] := by
    show (match fGet [(aheadB (shaOf b), f)] (aheadB (shaOf b)) with | none => _ | some b => _) = _
    rw [hg, fDel_cons, if_pos rfl]
    rfl
  rw [this]
  rfl
theorem turn_down (D : Dk) (p q : Byts) (hq : namedB q = true) (hk : D.power = 0) : renameD D p q = (D, 6) := by unfold renameD; rw [hq, if_neg (by simp), if_pos hk]
theorem write_down (D : Dk) (p d : Byts) (hq : namedB p = true) (hk : D.power = 0) : writeD D p d = (D, 6) := by unfold writeD; rw [hq, if_neg (by simp), if_pos hk]

/-- A Put that is done: there is power. -/
theorem put_all (h : Own1 b S) (hb : b.length ≤ 4096) (hk : k < 0 ∨ 4 ≤ k) (hr : ((sealOf b).length : Int) ≤ room) :
    putD (still room S k) b = (still room [(placeB (shaOf b), sealOf b)] (lessP (lessP (lessP (lessP k)))), shaOf b, 0) := by
  have e : putS (still room S k) (shaOf b) b = (still room [(placeB (shaOf b), sealOf b)] (lessP (lessP (lessP (lessP k)))), 0) := by
    unfold putS
    have n1 : lessP k ≠ 0 := by unfold lessP; split <;> omega
    have n2 : lessP (lessP k) ≠ 0 := by unfold lessP; (repeat' split) <;> omega
    have n3 : lessP (lessP (lessP k)) ≠ 0 := by unfold lessP; (repeat' split) <;> omega
    rw [put_one S k h (by omega) hr]
    rw [show ∀ (x : Dk) f, thenD (x, 0) f = f x from fun x f => by unfold thenD; rw [if_pos rfl], put_sync _ _ _ _ n1,
      show ∀ (x : Dk) f, thenD (x, 0) f = f x from fun x f => by unfold thenD; rw [if_pos rfl], put_turn _ _ n2,
      show ∀ (x : Dk) f, thenD (x, 0) f = f x from fun x f => by unfold thenD; rw [if_pos rfl], put_sync _ _ _ _ n3]
  unfold putD
  rw [if_neg (by omega), get_other _ S k (by omega) (own1_get S h), if_neg (by simp), e]
  rfl
theorem put_again (hb : b.length ≤ 4096) (hk : k ≠ 0) : putD (still room [(placeB (shaOf b), sealOf b)] k) b = (still room [(placeB (shaOf b), sealOf b)] k, shaOf b, 0) := by
  unfold putD
  rw [if_neg (by omega), get_whole hb k hk, if_pos rfl]
theorem restart_mk (F L : Fls) (l : List Chg) (ks : List Bool) : restartD ⟨room, F, L, l, k⟩ ks = still room (rstF l ks L) (-1) := rfl
theorem then_ok (D : Dk) (f : Dk → Dk × Int) : thenD (D, 0) f = f D := by unfold thenD; rw [if_pos rfl]
theorem then_no (D : Dk) (f : Dk → Dk × Int) : thenD (D, 6) f = (D, 6) := by unfold thenD; rw [if_neg (by simp)]
theorem put_no (D D' : Dk) (hb : b.length ≤ 4096) (h1 : putS D (shaOf b) b = (D', 6)) (h2 : (getD D (shaOf b)).2 ≠ 0) : putD D b = (D', zero32, 6) := by
  unfold putD
  rw [if_neg (by omega), if_neg h2, h1]
  rfl
/-- What is left of a Put for which there was no power. -/
theorem put_few0 (hb : b.length ≤ 4096) : putD (still room [] 0) b = (still room [] 0, zero32, 6) := by
  have e : putS (still room [] 0) (shaOf b) b = (still room [] 0, 6) := by
    unfold putS
    rw [write_down _ _ _ (ahead_named (shaOf_len b)) rfl, then_no, then_no, then_no]
  exact put_no _ _ hb e (by rw [get_down _ _ rfl]; simp)
theorem put_few1 (hb : b.length ≤ 4096) (hr : ((sealOf b).length : Int) ≤ room) : putD (still room [] 1) b = (⟨room, [(aheadB (shaOf b), sealOf b)], [], [.wr (aheadB (shaOf b)) (sealOf b)], 0⟩, zero32, 6) := by
  have e : putS (still room [] 1) (shaOf b) b = (⟨room, [(aheadB (shaOf b), sealOf b)], [], [.wr (aheadB (shaOf b)) (sealOf b)], 0⟩, 6) := by
    unfold putS
    rw [put_one [] 1 (.inl rfl) (by simp) hr, then_ok, show lessP 1 = 0 from rfl, put_down _ rfl, then_no, then_no]
  exact put_no _ _ hb e (by rw [get_other _ [] 1 (by omega) rfl]; simp)
theorem put_few2 (hb : b.length ≤ 4096) (hr : ((sealOf b).length : Int) ≤ room) : putD (still room [] 2) b = (still room [(aheadB (shaOf b), sealOf b)] 0, zero32, 6) := by
  have e : putS (still room [] 2) (shaOf b) b = (still room [(aheadB (shaOf b), sealOf b)] 0, 6) := by
    unfold putS
    rw [put_one [] 2 (.inl rfl) (by simp) hr, then_ok, show lessP 2 = 1 from rfl, put_sync _ _ _ _ (by decide), then_ok, show lessP 1 = 0 from rfl, turn_down _ _ _ (place_named (shaOf_len b)) rfl, then_no]
  exact put_no _ _ hb e (by rw [get_other _ [] 2 (by omega) rfl]; simp)
theorem put_few3 (hb : b.length ≤ 4096) (hr : ((sealOf b).length : Int) ≤ room) : putD (still room [] 3) b = (⟨room, [(placeB (shaOf b), sealOf b)], [(aheadB (shaOf b), sealOf b)], [.rn (aheadB (shaOf b)) (placeB (shaOf b))], 0⟩, zero32, 6) := by
  have e : putS (still room [] 3) (shaOf b) b = (⟨room, [(placeB (shaOf b), sealOf b)], [(aheadB (shaOf b), sealOf b)], [.rn (aheadB (shaOf b)) (placeB (shaOf b))], 0⟩, 6) := by
    unfold putS
    rw [put_one [] 3 (.inl rfl) (by simp) hr, then_ok, show lessP 3 = 2 from rfl, put_sync _ _ _ _ (by decide), then_ok, show lessP 2 = 1 from rfl, put_turn _ _ (by decide), then_ok, show lessP 1 = 0 from rfl, put_down _ rfl]
  exact put_no _ _ hb e (by rw [get_other _ [] 3 (by omega) rfl]; simp)
theorem put_few (hb : b.length ≤ 4096) (n : Nat) (hn : n ≤ 3) (hr : ((sealOf b).length : Int) ≤ room) (ks : List Bool) :
    ∃ D', putD (still room [] n) b = (D', zero32, 6) ∧ ∃ S, restartD D' ks = still room S (-1) ∧ (Own1 b S ∨ S = [(placeB (shaOf b), sealOf b)]) := by
  have h4 : n = 0 ∨ n = 1 ∨ n = 2 ∨ n = 3 := by omega
  rcases h4 with rfl | rfl | rfl | rfl
  · exact ⟨_, put_few0 hb, [], restart_still _ _ _ _, .inl (.inl rfl)⟩
  · refine ⟨_, put_few1 hb hr, _, restart_mk _ _ _ _ _, .inl ?_⟩
    unfold rstF
    split
    · exact .inr ⟨_, rfl⟩
    · exact .inl rfl
  · exact ⟨_, put_few2 hb hr, _, restart_still _ _ _ _, .inl (.inr ⟨_, rfl⟩)⟩
  · refine ⟨_, put_few3 hb hr, _, restart_mk _ _ _ _ _, ?_⟩
    unfold rstF
    split
    · right
      have hg : fGet [(aheadB (shaOf b), sealOf b)] (aheadB (shaOf b)) = some (sealOf b) := by rw [fGet_one, if_pos rfl]
      show (match fGet [(aheadB (shaOf b), sealOf b)] (aheadB (shaOf b)) with | none => _ | some b => _) = _
      rw [hg, fDel_cons, if_pos rfl]
      rfl
    · exact .inl (.inr ⟨_, rfl⟩)
end
end Go.Proofs.YtbcldknecdbemaaGreatDoor

/-
  store: done, inTurn (whatever is handed to it), Place.
-/
namespace Go.Proofs.YtbcldknecdbemaaGreatDoor
open Go.RowKit
set_option linter.unusedVariables false
set_option maxRecDepth 20000

theorem Keys.turned {w w' : World} {S : Nat → Prop} (h : Keys w) (ht : Turns S w w') (hS : ¬ S 1) : Keys w' := fun j u hu => ht.cell (h j u hu) hS
theorem cat_text (l r : Byts) : (⟨l.toArray⟩ : ByteArray) ++ ⟨r.toArray⟩ = ⟨(l ++ r).toArray⟩ := by
  apply ByteArray.ext
  simp
theorem done_any (z : Int) (w : World) : Calls Tryz.prog 61 #[rv z] w fun e w' => e = .returned (.bool (decide (z = 0))) ∧ w' = w := by
  by_cases h : z = 0
  · subst h
    go_enter Tryz.func61, Tryz.ntmps61
    go_wp2_with fail
    refine (is_true 0 w).mono ?_
    rintro e w' ⟨rfl, rfl⟩
    go_wp2_with fail
    go_ret
    exact ⟨rfl, rfl⟩
  · have hd : decide (z = 0) = false := by simpa using h
    rw [hd]
    have H := Lib.hid (is_false z 0 w h)
    clear hd
    go_enter Tryz.func61, Tryz.ntmps61
    go_wp2_with fail
    refine H.out.mono ?_
    rintro e w' ⟨rfl, rfl⟩
    go_wp2_with fail
    go_ret
    exact ⟨rfl, rfl⟩

set_option maxHeartbeats 1000000 in
theorem inturn_any (n : Nat) (A : Option Addr) (c : Nat) (q : Nat → FuncId) (fi ca : Nat → Array Value)
    (hq : ∀ i, i < n → ∀ w, (callFunc (q i) (fi i ++ ca i)).run Tryz.prog w = .ok (.enter (q i) (fi i ++ ca i)) w)
    (J : Nat → World → Prop) (R : Int → World → Prop)
    (hc : ∀ i, i < n → ∀ w, J i w → ∃ ad, A = some ad ∧ w.cell? (ad.add i) = some (.func (.func (q i)) (fi i) (ca i)))
    (hs : ∀ i, i < n → ∀ w, J i w → Calls Tryz.prog (q i) (fi i ++ ca i) w fun e w' => ∃ er : Int, e = .returned (rv er) ∧ (er = 0 → J (i + 1) w') ∧ (er ≠ 0 → R er w'))
    (w : World) (hn : n ≤ 1000000) (h0 : J 0 w) :
    Calls Tryz.prog 54 #[.slice A n c] w fun e w' => ∃ er : Int, e = .returned (rv er) ∧ (er = 0 → J n w') ∧ (er ≠ 0 → R er w') := by
  go_enter Tryz.func54, Tryz.ntmps54
  go_wp2_with fail
  go_loopw [8] (fun i wr => ∃ k : Nat, k ≤ n ∧ i = .int .i64 (k : Int) ∧ J k wr) (fun i _ => n - (intOf i).toNat)
  case atStart => exact ⟨0, Nat.zero_le _, rfl, h0⟩
  case round =>
    obtain ⟨k, hk, rfl, hj⟩ := hrel
    by_cases hlt : k < n
    · obtain ⟨ad, rfl, hcell⟩ := hc k hlt wr hj
      have Q := hq k hlt
      have S := hs k hlt wr hj
      generalize q k = f at *
      generalize hx : fi k = x at *
      generalize hy : ca k = y at *
      have hki : (k : Int) < (n : Int) := by omega
      clear hc hs hq
      go_wp2_with fail
      refine S.mono ?_
      rintro e w2 ⟨er, rfl, h1, h2⟩
      go_wp2_with fail
      refine (done_any er w2).mono ?_
      rintro e w2 ⟨rfl, rfl⟩
      by_cases he : er = 0
      · subst he
        have hd : decide ((0 : Int) = 0) = true := rfl
        go_wp2_with fail
        go_roundw
        case rel => exact ⟨k + 1, by omega, by go_num, h1 trivial⟩
        case measure => simp [intOf]; omega
      · have hd : decide (er = 0) = false := by simpa using he
        go_wp2_with fail
        go_ret
        exact ⟨er, rfl, fun h => absurd h he, h2⟩
    · obtain rfl : k = n := by omega
      go_wp2_with fail
      go_ret
      exact ⟨0, rfl, fun _ => hj, fun h => absurd rfl h⟩

set_option maxHeartbeats 400000 in
theorem place_any (l : Byts) (w : World) (hl : l.length = 32) :
    Calls Tryz.prog 50 #[dv l] w fun e w' => e = .returned (tv (placeB l)) ∧ Grows w w' := by
  have hbox := Box.new w 46 l
  have hg : Grows w (w.alloc (.cells (l.map bv).toArray 46)) := grows_alloc _ _
  have hld := hbox.load Tryz.underlying46 Hx.dig_size hl
  have NM := fun u => Hx.name_any l u hl
  have hx := hex_len hl
  have hp : placeB l = [99, 47] ++ (Hx.hexOf l).take 2 ++ [47] ++ Hx.hexOf l := rfl
  rw [hp]
  generalize Hx.hexOf l = x at *
  have hsz : (⟨x.toArray⟩ : ByteArray).size = 64 := by show x.toArray.size = 64; simpa using hx
  have hex := Hx.extract_take x 2
  have e1 := cat_text [99, 47] (x.take 2)
  have e2 := cat_text ([99, 47] ++ x.take 2) [47]
  have e3 := cat_text ([99, 47] ++ x.take 2 ++ [47]) x
  have HL := Lib.hid hl
  clear hl hp hx
  go_enter Tryz.func50, Tryz.ntmps50
  go_wp2_with (with_reducible refine wpList_loads rfl 46 (.tmp 1) rfl _ rfl _ hld ?_)
  refine (NM _).mono ?_
  rintro e w1 ⟨rfl, hb⟩
  go_wp2_with fail
  go_ret
  exact ⟨rfl, Grows.trans hg hb⟩
end Go.Proofs.YtbcldknecdbemaaGreatDoor

/-
  store: Get, Has.
-/
namespace Go.Proofs.YtbcldknecdbemaaGreatDoor
open Go.RowKit
set_option linter.unusedVariables false
set_option maxRecDepth 20000

theorem were_len {pk : Bool} {k : Nat} {l b : Byts} (h : wereOf pk k l = some b) : b.length = k := by
  unfold wereOf at h
  split at h
  · split at h
    · rename_i h1
      injection h with h
      rw [← h]; exact h1.2
    · cases h
  · split at h
    · rename_i h1
      injection h with h
      rw [← h]; exact h1
    · cases h
theorem open_le (f : Byts) (m : Nat) : (openOf f m).1.length ≤ m := by
  unfold openOf
  split
  · exact Nat.zero_le _
  · split
    · exact Nat.zero_le _
    · unfold sumOf
      split
      · exact Nat.zero_le _
      · rename_i b hb
        split
        · have := were_len hb
          show b.length ≤ m
          omega
        · exact Nat.zero_le _
theorem fGet_le {S : Fls} (h : (S.map (·.1)).Nodup) {p b : Byts} (hg : fGet S p = some b) : b.length ≤ fUsed S := by
  have := used_del h p
  rw [hg] at this
  simp at this
  omega
theorem read_le {D : Dk} (h : D.Ok) (p : Byts) : (readD D p).1.length ≤ D.weight := by
  unfold readD
  split
  · exact Nat.zero_le _
  · have hu := h.used
    cases hg : fGet D.seen p with
    | none => exact Nat.zero_le _
    | some b => have := fGet_le h.srt.nodup hg; show b.length ≤ _; omega
theorem Fresh.lies2 {w0 w : World} {v : Value} {l : Byts} (h : Fresh w0 w v l) : ∃ A c, v = .slice A l.length c ∧ l.length ≤ c ∧ c ≤ maxLen ∧ Lies w w.heap.size A (l.map bv) := by
  obtain ⟨A, c, h1, h2⟩ := h.lies
  rcases h with ⟨rfl, rfl⟩ | ⟨g, c', e, hc, hm, _⟩
  · injection h1 with h3 h4 h5
    exact ⟨A, c, by rw [← h3, ← h5]; rfl, Nat.zero_le _, by rw [← h5]; exact Nat.zero_le _, h2⟩
  · rw [h1] at e
    injection e with e1 _ e3
    exact ⟨A, c, h1, by rw [e3]; exact hc, by rw [e3]; exact hm, h2⟩
/-- What Get hands out. -/
def GetOut (D : Dk) (nm : Byts) (w : World) (e : Ending) (w' : World) : Prop :=
  ∃ A c, e = .returned (.tuple #[.slice A (getD D nm).1.length c, rv (getD D nm).2]) ∧ (getD D nm).1.length ≤ c ∧ Lies w' w'.heap.size A ((getD D nm).1.map bv) ∧ Grows w w'
theorem getout_nil {D : Dk} {nm : Byts} {w w' : World} {er : Int} (h : getD D nm = ([], er)) (hg : Grows w w') : GetOut D nm w (.returned (.tuple #[.slice none 0 0, rv er])) w' :=
  ⟨none, 0, by rw [h]; rfl, by rw [h]; exact Nat.le_refl _, by rw [h]; exact Lies.empty, hg⟩
theorem getD_no {D : Dk} {nm f : Byts} {er : Int} (h : readD D (placeB nm) = (f, er)) (he : er ≠ 0) : getD D nm = ([], er) := by
  unfold getD; rw [h, if_pos he]
theorem getD_yes {D : Dk} {nm f l : Byts} {er2 : Nat} (h : readD D (placeB nm) = (f, 0)) (ho : openOf f 4096 = (l, er2)) :
    getD D nm = if er2 = 0 ∧ shaOf l = nm then (l, 0) else ([], 7) := by
  unfold getD; rw [h, if_neg (by simp)]
  simp only [ho]

set_option maxHeartbeats 4000000 in
theorem sget_any (a m : Nat) (X : Nat → Prop) (D : Dk) (w : World) (nm : Byts) (hd : Dsk w a m X D) (hk : Keys w) (hW : D.weight ≤ 100000000) (hl : nm.length = 32) :
    Calls Tryz.prog 20 #[.pointer (some ⟨a, 0, none⟩), dv nm] w fun e w' => GetOut D nm w e w' := by
  have hbox := Box.new w 46 nm
  have hg : Grows w (w.alloc (.cells (nm.map bv).toArray 46)) := grows_alloc _ _
  have hld := hbox.load Tryz.underlying46 Hx.dig_size hl
  have PL := fun u => place_any nm u hl
  have hle := read_le hd.ok (placeB nm)
  have RD := fun u (h : Grows w u) => read_d a m X D u (placeB nm) (hd.later h) hW
  obtain ⟨R, hR⟩ : ∃ R, R = readD D (placeB nm) := ⟨_, rfl⟩
  rw [← hR] at RD hle
  obtain ⟨f, er⟩ := R
  simp only at RD hle
  have HR := Lib.hid hR.symm
  have HL := Lib.hid hl
  clear hR hl
  go_enter Tryz.func20, Tryz.ntmps20
  go_wp2_with (with_reducible refine wpList_loads rfl 46 (.tmp 3) rfl _ rfl _ hld ?_)
  change Calls _ _ _ (w.alloc (.cells (nm.map bv).toArray 46)) _
  generalize w.alloc (.cells (nm.map bv).toArray 46) = w1 at *
  generalize w.heap.size = B at *
  refine (PL w1).mono ?_
  rintro e w2 ⟨rfl, g2⟩
  go_wp2_with fail
  refine (RD w2 (Grows.trans hg g2)).mono ?_
  rintro e w3 ⟨v, rfl, F, g3⟩
  obtain ⟨A3, c3, rfl, hc3, hm3, hL3⟩ := F.lies2
  have G3 := Grows.trans hg (Grows.trans g2 g3)
  clear PL RD hld F
  go_wp2_with fail
  refine (done_any er w3).mono ?_
  rintro e w3 ⟨rfl, rfl⟩
  by_cases he : er = 0
  · subst he
    have hdd : decide ((0 : Int) = 0) = true := rfl
    have OP := open_any A3 f.length c3 f 4096 w3 rfl hL3 hc3 (by omega)
    go_wp2_with fail
    refine OP.mono ?_
    rintro e w4 ⟨l, er2, ln, c4, A4, HO, HLN, rfl, hlc, hL4, g4⟩
    have hb4 := (hbox.later (Grows.trans g2 (Grows.trans g3 g4)))
    have G4 := Grows.trans G3 g4
    have hll : l.length ≤ 4096 := by have := open_le f 4096; rw [show ((4096 : Nat) : Int) = 4096 from rfl, HO.out] at this; exact this
    have gd := (Grows.refl w4).drew
    have DN : Hid (∀ u, Calls Tryz.prog 61 #[rv (er2 : Int)] u fun e w' => e = .returned (.bool (decide ((er2 : Int) = 0))) ∧ Grows u w') := fun u => (done_any er2 u).mono fun e w' ⟨h1, h2⟩ => ⟨h1, by rw [h2]; exact Grows.refl _⟩
    have SM : Hid (∀ u, Grows w4.drew u → Calls Tryz.prog 52 #[.slice A4 ln c4] u fun e w' => e = .returned (dv (shaOf l)) ∧ Grows u w') := fun u h => sum_any A4 ln c4 l u (hk.later (Grows.trans G4 (Grows.trans gd h))) HLN.out (hL4.later (Grows.trans gd h)) (by have := HLN.out; omega)
    have ld : ∀ u, Grows w4.drew u → (Instr.loadAt 46 (.pointer (some ⟨B, 0, none⟩))).run Tryz.prog u = .ok (dv nm) u := fun u h => (hb4.later (Grows.trans gd h)).load Tryz.underlying46 Hx.dig_size HL.out
    have hne := fun u => Hx.neq_dig (shaOf l) nm (shaOf_len l) HL.out u
    have HOK := Lib.hid (shaOf_len l)
    have GY := Lib.hid (getD_yes HR.out HO.out)
    obtain ⟨sm, hsm⟩ : ∃ sm, sm = shaOf l := ⟨_, rfl⟩
    rw [← hsm] at SM hne GY
    clear hsm hdd
    by_cases h2 : er2 = 0
    · subst h2
      have hdd : decide (((0 : Nat) : Int) = 0) = true := rfl
      rw [hdd] at DN
      go_wp2_with fail
      refine wp_region_ord 9 [(0, true), (1, true), (2, true), (3, true), (4, true), (5, true), (6, true), (7, true), (8, true)] (by kernel_rfl) (by kernel_rfl) ?_
      have hO := Grows.refl w4.drew
      repeat (first | (refine ord_load hO _ _ (by simp only [List.getElem?_cons_succ, List.getElem?_cons_zero]; rfl) (by rfl) 46 (.tmp 3) (by rfl) _ (by rfl) ld ?_; try simp only [Act.put, List.setIfInBounds_toArray, List.set_cons_zero, List.set_cons_succ]) | (refine ord_take hO _ ?_ (by simp only [List.getElem?_cons_succ, List.getElem?_cons_zero]; rfl) (by rfl) ?_ ?_; rotate_left; (· (intro u hu0 hu; (try go_simp); (try with_reducible rfl))); try simp only [Act.put, List.setIfInBounds_toArray, List.set_cons_zero, List.set_cons_succ]) | (refine ord_skip _ (by simp only [List.getElem?_cons_succ, List.getElem?_cons_zero]; rfl) (by rfl) ?_; try simp only [Act.put, List.setIfInBounds_toArray, List.set_cons_zero, List.set_cons_succ]) | (refine ord_call hO _ ?_ (by simp only [List.getElem?_cons_succ, List.getElem?_cons_zero]; rfl) (by rfl) ?_ ?_; rotate_left; (· (intro u hu0 hu; go_simp; (try refine quiet_enter ?_); (first | with_reducible exact DN.out u | with_reducible exact SM.out u hu0))); try simp only [Act.put, List.setIfInBounds_toArray, List.set_cons_zero, List.set_cons_succ]))
      refine ord_done (fun w5 hu => ?_)
      simp only [List.drop_succ_cons, List.drop_zero]
      have G5 := Grows.trans G4 (Grows.trans gd hu)
      have hL5 := hL4.later (Grows.trans gd hu)
      clear hO ld hdd
      cases hs : (sm == nm) with
      | true =>
        have hsn : sm = nm := by simpa using hs
        go_wp2_with fail
        refine NoPanic.normal ?_
        go_wp2_with fail
        go_ret2
        have h3 := GY.out
        rw [if_pos ⟨trivial, hsn⟩] at h3
        refine ⟨A4, c4, ?_, ?_, ?_, G5⟩
        · rw [h3, HLN.out]; rfl
        · rw [h3, HLN.out]; exact hlc
        · rw [h3]; exact hL5
      | false =>
        have hsn : sm ≠ nm := by simpa using hs
        go_wp2_with fail
        refine NoPanic.normal ?_
        go_wp2_with fail
        go_ret2
        have h3 := GY.out
        rw [if_neg (fun h => hsn h.2)] at h3
        exact getout_nil h3 G5
    · have hdd : decide ((er2 : Int) = 0) = false := by simp; omega
      rw [hdd] at DN
      go_wp2_with fail
      refine wp_region_ord 9 [(0, true), (1, true), (2, true), (3, true), (4, true), (5, true), (6, true), (7, true), (8, true)] (by kernel_rfl) (by kernel_rfl) ?_
      have hO := Grows.refl w4.drew
      repeat (first | (refine ord_load hO _ _ (by simp only [List.getElem?_cons_succ, List.getElem?_cons_zero]; rfl) (by rfl) 46 (.tmp 3) (by rfl) _ (by rfl) ld ?_; try simp only [Act.put, List.setIfInBounds_toArray, List.set_cons_zero, List.set_cons_succ]) | (refine ord_take hO _ ?_ (by simp only [List.getElem?_cons_succ, List.getElem?_cons_zero]; rfl) (by rfl) ?_ ?_; rotate_left; (· (intro u hu0 hu; (try go_simp); (try with_reducible rfl))); try simp only [Act.put, List.setIfInBounds_toArray, List.set_cons_zero, List.set_cons_succ]) | (refine ord_skip _ (by simp only [List.getElem?_cons_succ, List.getElem?_cons_zero]; rfl) (by rfl) ?_; try simp only [Act.put, List.setIfInBounds_toArray, List.set_cons_zero, List.set_cons_succ]) | (refine ord_call hO _ ?_ (by simp only [List.getElem?_cons_succ, List.getElem?_cons_zero]; rfl) (by rfl) ?_ ?_; rotate_left; (· (intro u hu0 hu; go_simp; (try refine quiet_enter ?_); (first | with_reducible exact DN.out u | with_reducible exact SM.out u hu0))); try simp only [Act.put, List.setIfInBounds_toArray, List.set_cons_zero, List.set_cons_succ]))
      refine ord_done (fun w5 hu => ?_)
      simp only [List.drop_succ_cons, List.drop_zero]
      have G5 := Grows.trans G4 (Grows.trans gd hu)
      clear hO ld hdd
      go_wp2_with fail
      refine NoPanic.normal ?_
      go_wp2_with fail
      go_ret2
      have h3 := GY.out
      rw [if_neg (fun h => h2 h.1)] at h3
      exact getout_nil h3 G5
  · have hdd : decide (er = 0) = false := by simpa using he
    go_wp2_with fail
    go_ret2
    exact getout_nil (getD_no HR.out he) G3

set_option maxHeartbeats 1000000 in
theorem shas_any (a m : Nat) (X : Nat → Prop) (D : Dk) (w : World) (nm : Byts) (hd : Dsk w a m X D) (hk : Keys w) (hW : D.weight ≤ 100000000) (hl : nm.length = 32) :
    Calls Tryz.prog 22 #[.pointer (some ⟨a, 0, none⟩), dv nm] w fun e w' => e = .returned (.bool (decide ((getD D nm).2 = 0))) ∧ Grows w w' := by
  have hbox := Box.new w 46 nm
  have hg : Grows w (w.alloc (.cells (nm.map bv).toArray 46)) := grows_alloc _ _
  have hld := hbox.load Tryz.underlying46 Hx.dig_size hl
  have GT := fun u (h : Grows w u) => sget_any a m X D u nm (hd.later h) (hk.later h) hW hl
  unfold GetOut at GT
  generalize getD D nm = R at *
  obtain ⟨b, er⟩ := R
  simp only at GT
  have HL := Lib.hid hl
  clear hl
  go_enter Tryz.func22, Tryz.ntmps22
  go_wp2_with (with_reducible refine wpList_loads rfl 46 (.tmp 3) rfl _ rfl _ hld ?_)
  refine (GT _ hg).mono ?_
  rintro e w2 ⟨A, c, rfl, _, _, g2⟩
  go_wp2_with fail
  refine (done_any er w2).mono ?_
  rintro e w2 ⟨rfl, rfl⟩
  go_wp2_with fail
  go_ret
  exact ⟨rfl, Grows.trans hg g2⟩
end Go.Proofs.YtbcldknecdbemaaGreatDoor

/-
  store: what Put does one behind the other.
-/
namespace Go.Proofs.YtbcldknecdbemaaGreatDoor
open Go.RowKit
set_option linter.unusedVariables false
set_option maxRecDepth 20000

section
variable (a m : Nat) (X : Nat → Prop) (D : Dk) (u : World) (B2 B7 B3 : Nat)
set_option maxHeartbeats 2000000 in
theorem put1_any (A : Option Addr) (n c : Nat) (b p : Byts) (hd : Dsk u a m X D) (hX : ∀ k, X k → k < u.heap.size) (h2 : Has u B2 [.pointer (some ⟨a, 0, none⟩)]) (h7 : Has u B7 [tv p]) (h3 : Has u B3 [.slice A n c])
    (x2 : X B2) (x7 : X B7) (x3 : X B3) (hl : b.length = n) (hr : Lies u u.heap.size A (b.map bv)) (hc : n ≤ c) (hn : n ≤ 1000000) (hW : D.weight + n + 10 ≤ 100000000) (hw : D.waits.length ≤ 1000000) (hro : 0 ≤ D.room ∧ D.room ≤ 1048576) :
    Calls Tryz.prog 55 #[.pointer (some ⟨B2, 0, none⟩), .pointer (some ⟨B7, 0, none⟩), .pointer (some ⟨B3, 0, none⟩)] u fun e w' => e = .returned (rv (writeD D p (sealOf b)).2) ∧ Dsk w' a m X (writeD D p (sealOf b)).1 ∧ Turns (fun k => m ≤ k ∧ ¬ X k) u w' := by
  have SE := fun v (h : Grows u v) => seal_out A n c b v hl (hr.later h) hc (by omega)
  have WR := fun (v : World) (A' : Option Addr) (fn c' : Nat) (f : Byts) (hv : Dsk v a m X D) (hx : ∀ k, X k → k < v.heap.size) (hf : f.length = fn) (hfl : fn ≤ n + 10) (hl : Lies v v.heap.size A' (f.map bv)) => write_d a m X D v p A' fn c' f hv hx hf hl (by omega) hw hro
  have gd := (Grows.refl u).drew
  have f2 : ∀ v, Turns (fun k => m ≤ k ∧ ¬ X k) u.drew v → v.cell? ⟨B2, 0, none⟩ = some (.pointer (some ⟨a, 0, none⟩)) := fun v h => ((h2.later gd).turned h (fun e => e.2 x2)).cell (k := 0) rfl
  have f7 : ∀ v, Turns (fun k => m ≤ k ∧ ¬ X k) u.drew v → v.cell? ⟨B7, 0, none⟩ = some (tv p) := fun v h => ((h7.later gd).turned h (fun e => e.2 x7)).cell (k := 0) rfl
  have f3 : ∀ v, Turns (fun k => m ≤ k ∧ ¬ X k) u.drew v → v.cell? ⟨B3, 0, none⟩ = some (.slice A n c) := fun v h => ((h3.later gd).turned h (fun e => e.2 x3)).cell (k := 0) rfl
  have hO := Turns.refl (fun k => m ≤ k ∧ ¬ X k) u.drew
  clear h2 h7 h3
  go_enter Tryz.func55, Tryz.ntmps55
  go_wp2_with fail
  refine wp_region_callw (S := fun k => m ≤ k ∧ ¬ X k) 6 [(0, true), (1, true), (2, true), (3, false), (4, false), (5, true)] (by kernel_rfl) (by kernel_rfl) ?_
  repeat (refine orc_take hO _ ?_ (by simp only [List.getElem?_cons_succ, List.getElem?_cons_zero]; rfl) (by rfl) ?_ ?_; rotate_left; (· (intro u hu0 hu; (try go_simp); (try with_reducible rfl))); try simp only [Act.put, List.setIfInBounds_toArray, List.set_cons_zero, List.set_cons_succ])
  refine orc_move _ (by simp only [List.getElem?_cons_succ, List.getElem?_cons_zero]; rfl) (by rfl) (fun v hv K hK => ?_)
  go_simp
  have gv := Grows.trans gd hv
  refine (SE v gv).mono ?_
  rintro e v1 ⟨f, fn, c1, A1, HF, HFN, _, hfl, rfl, _, hown, hL1, g1⟩
  refine hK.out _ _ (Turns.of_grows g1) ?_
  clear hK K hO f2 f7 f3
  have hO := Turns.refl (fun k => m ≤ k ∧ ¬ X k) v1
  repeat (refine orc_take hO _ ?_ (by simp only [List.getElem?_cons_succ, List.getElem?_cons_zero]; rfl) (by rfl) ?_ ?_; rotate_left; (· (intro u hu0 hu; (try go_simp); (try with_reducible rfl))); try simp only [Act.put, List.setIfInBounds_toArray, List.set_cons_zero, List.set_cons_succ])
  refine orc_move _ (by simp only [List.getElem?_cons_succ, List.getElem?_cons_zero]; rfl) (by rfl) (fun v2 hv2 K hK => ?_)
  go_simp
  have G2 := Grows.trans gv (Grows.trans g1 hv2)
  refine (WR v2 A1 fn c1 f (hd.later G2) (fun k hk => Nat.lt_of_lt_of_le (hX k hk) G2.size) HFN.out hfl (hL1.later hv2)).mono ?_
  rintro e v3 ⟨rfl, d3, t3⟩
  refine hK.out _ _ t3 ?_
  clear hK K hO
  have hO := Turns.refl (fun k => m ≤ k ∧ ¬ X k) v3
  repeat (refine orc_take hO _ ?_ (by simp only [List.getElem?_cons_succ, List.getElem?_cons_zero]; rfl) (by rfl) ?_ ?_; rotate_left; (· (intro u hu0 hu; (try go_simp); (try with_reducible rfl))); try simp only [Act.put, List.setIfInBounds_toArray, List.set_cons_zero, List.set_cons_succ])
  refine orc_done (fun v4 hv4 => ?_)
  simp only [List.drop_succ_cons, List.drop_zero]
  go_wp2_with fail
  refine NoPanic.normal ?_
  go_wp2_with fail
  go_ret
  rw [HF.out]
  exact ⟨rfl, d3.later hv4, ((Turns.of_grows G2).trans t3).trans (Turns.of_grows hv4)⟩

set_option maxHeartbeats 2000000 in
theorem put2_any (nm p : Byts) (hd : Dsk u a m X D) (hX : ∀ k, X k → k < u.heap.size) (h2 : Has u B2 [.pointer (some ⟨a, 0, none⟩)]) (h7 : Has u B7 [tv p]) (h3 : Has u B3 (nm.map bv))
    (x2 : X B2) (x7 : X B7) (x3 : X B3) (hl : nm.length = 32) (hp : p.length ≤ 1000) (hW : D.weight ≤ 100000000) (hw : D.waits.length ≤ 1000000) :
    Calls Tryz.prog 59 #[.pointer (some ⟨B2, 0, none⟩), .pointer (some ⟨B7, 0, none⟩), .pointer (some ⟨B3, 0, none⟩)] u fun e w' => e = .returned (rv (renameD D p (placeB nm)).2) ∧ Dsk w' a m X (renameD D p (placeB nm)).1 ∧ Turns (fun k => m ≤ k ∧ ¬ X k) u w' := by
  have PL := fun v => place_any nm v hl
  have RN := fun (v : World) (hv : Dsk v a m X D) (hx : ∀ k, X k → k < v.heap.size) => rename_d a m X D v p (placeB nm) hv hx hW hw (by omega)
  have hL32 : (Tryz.prog.info? 46).map (·.size) = some (nm.map bv).length := by rw [List.length_map, hl]; exact Hx.dig_size
  have gd := (Grows.refl u).drew
  have f2 : ∀ v, Turns (fun k => m ≤ k ∧ ¬ X k) u.drew v → v.cell? ⟨B2, 0, none⟩ = some (.pointer (some ⟨a, 0, none⟩)) := fun v h => ((h2.later gd).turned h (fun e => e.2 x2)).cell (k := 0) rfl
  have f7 : ∀ v, Turns (fun k => m ≤ k ∧ ¬ X k) u.drew v → v.cell? ⟨B7, 0, none⟩ = some (tv p) := fun v h => ((h7.later gd).turned h (fun e => e.2 x7)).cell (k := 0) rfl
  have ldn : ∀ v, Turns (fun k => m ≤ k ∧ ¬ X k) u.drew v → (Instr.loadAt 46 (.pointer (some ⟨B3, 0, none⟩))).run Tryz.prog v = .ok (dv nm) v := fun v h => ((h3.later gd).turned h (fun e => e.2 x3)).load Tryz.underlying46 rfl hL32
  have hO := Turns.refl (fun k => m ≤ k ∧ ¬ X k) u.drew
  generalize placeB nm = q at *
  clear h2 h7 h3
  go_enter Tryz.func59, Tryz.ntmps59
  go_wp2_with fail
  refine wp_region_callw (S := fun k => m ≤ k ∧ ¬ X k) 6 [(0, true), (1, true), (2, true), (3, true), (4, false), (5, true)] (by kernel_rfl) (by kernel_rfl) ?_
  repeat (first | (refine orc_load hO _ _ (by simp only [List.getElem?_cons_succ, List.getElem?_cons_zero]; rfl) (by rfl) 46 (.tmp 2) (by rfl) _ (by rfl) ldn ?_; try simp only [Act.put, List.setIfInBounds_toArray, List.set_cons_zero, List.set_cons_succ]) | (refine orc_take hO _ ?_ (by simp only [List.getElem?_cons_succ, List.getElem?_cons_zero]; rfl) (by rfl) ?_ ?_; rotate_left; (· (intro u hu0 hu; (try go_simp); (try with_reducible rfl))); try simp only [Act.put, List.setIfInBounds_toArray, List.set_cons_zero, List.set_cons_succ]) | (refine orc_call hO _ ?_ (by simp only [List.getElem?_cons_succ, List.getElem?_cons_zero]; rfl) (by rfl) ?_ ?_; rotate_left; (· (intro u hu0 hu; go_simp; (try refine quiet_enter ?_); (exact PL u))); try simp only [Act.put, List.setIfInBounds_toArray, List.set_cons_zero, List.set_cons_succ]))
  refine orc_move _ (by simp only [List.getElem?_cons_succ, List.getElem?_cons_zero]; rfl) (by rfl) (fun v2 hv2 K hK => ?_)
  go_simp
  have G2 := Grows.trans gd hv2
  refine (RN v2 (hd.later G2) (fun k hk => Nat.lt_of_lt_of_le (hX k hk) G2.size)).mono ?_
  rintro e v3 ⟨rfl, d3, t3⟩
  refine hK.out _ _ t3 ?_
  clear hK K hO ldn f2 f7
  have hO := Turns.refl (fun k => m ≤ k ∧ ¬ X k) v3
  repeat (refine orc_take hO _ ?_ (by simp only [List.getElem?_cons_succ, List.getElem?_cons_zero]; rfl) (by rfl) ?_ ?_; rotate_left; (· (intro u hu0 hu; (try go_simp); (try with_reducible rfl))); try simp only [Act.put, List.setIfInBounds_toArray, List.set_cons_zero, List.set_cons_succ])
  refine orc_done (fun v4 hv4 => ?_)
  simp only [List.drop_succ_cons, List.drop_zero]
  go_wp2_with fail
  refine NoPanic.normal ?_
  go_wp2_with fail
  go_ret
  exact ⟨rfl, d3.later hv4, ((Turns.of_grows G2).trans t3).trans (Turns.of_grows hv4)⟩
end
end Go.Proofs.YtbcldknecdbemaaGreatDoor

/-
  store: Put.
-/
namespace Go.Proofs.YtbcldknecdbemaaGreatDoor
open Go.RowKit
set_option linter.unusedVariables false
set_option maxRecDepth 20000

theorem enter_plainS {P : Program} {q : FuncId} {fn : Func} (hf : P.funcs[q]? = some fn) (hn : (fn.name == "runtime.NumGoroutine") = false) (hb : fn.body.isNone = false) (args : Array Value) (w : World) : (callFunc q args).run P w = .ok (.enter q args) w := by
  have hn' : fn.name ≠ "runtime.NumGoroutine" := by simpa using hn
  have hb' : fn.body ≠ none := by intro h; rw [h] at hb; cases hb
  simp [callFunc, hf, hn', hb']
/-- What Put does, step by step. -/
def putF (nm b : Byts) : Nat → Dk → Dk × Int
  | 0 => fun D => writeD D (aheadB nm) (sealOf b)
  | 2 => fun D => renameD D (aheadB nm) (placeB nm)
  | _ => syncD
def putE (D : Dk) (nm b : Byts) : Nat → Dk × Int
  | 0 => (D, 0)
  | i + 1 => thenD (putE D nm b i) (putF nm b i)
theorem putE_four (D : Dk) (nm b : Byts) : putE D nm b 4 = putS D nm b := by
  unfold putS putE putE putE putE putE
  rw [then_ok]
  rfl
theorem putE_next {D : Dk} {nm b : Byts} {i : Nat} (h : (putE D nm b i).2 = 0) : putE D nm b (i + 1) = putF nm b i (putE D nm b i).1 := by
  show thenD _ _ = _
  unfold thenD; rw [if_pos h]
theorem putE_stop {D : Dk} {nm b : Byts} {i : Nat} (h : (putE D nm b i).2 ≠ 0) : ∀ k, putE D nm b (i + k) = putE D nm b i
  | 0 => rfl
  | k + 1 => by
    have ih := putE_stop h k
    show thenD (putE D nm b (i + k)) _ = _
    rw [ih]
    unfold thenD; rw [if_neg h]
structure PutW (D : Dk) (n : Nat) (E : Dk) (i : Nat) : Prop where
  wt : E.weight ≤ D.weight + n + 10
  wl : E.waits.length ≤ D.waits.length + i
  rm : E.room = D.room
  ok : E.Ok
theorem putF_w {D E : Dk} {nm b : Byts} {i : Nat} (hp : PutW D b.length E i) (hi : i < 4) (h0 : i = 0 → E = D) : PutW D b.length (putF nm b i E).1 (i + 1) := by
  have hsl := (seal_len b).1
  have h4 : i = 0 ∨ i = 1 ∨ i = 2 ∨ i = 3 := by omega
  rcases h4 with rfl | rfl | rfl | rfl
  · have := h0 rfl
    subst this
    have h1 := weight_write E (aheadB nm) (sealOf b)
    have h2 := waits_write E (aheadB nm) (sealOf b)
    exact ⟨by show (writeD _ _ _).1.weight ≤ _; omega, by show (writeD _ _ _).1.waits.length ≤ _; omega, room_write _ _ _, hp.ok.write _ _⟩
  · have h1 := weight_sync hp.ok
    have h2 := waits_sync E
    exact ⟨by have := hp.wt; show (syncD _).1.weight ≤ _; omega, by have := hp.wl; show (syncD _).1.waits.length ≤ _; omega, (room_sync _).trans hp.rm, hp.ok.sync⟩
  · have h1 := weight_rename E (aheadB nm) (placeB nm)
    have h2 := waits_rename E (aheadB nm) (placeB nm)
    exact ⟨by have := hp.wt; show (renameD _ _ _).1.weight ≤ _; omega, by have := hp.wl; show (renameD _ _ _).1.waits.length ≤ _; omega, (room_rename _ _ _).trans hp.rm, hp.ok.rename _ _⟩
  · have h1 := weight_sync hp.ok
    have h2 := waits_sync E
    exact ⟨by have := hp.wt; show (syncD _).1.weight ≤ _; omega, by have := hp.wl; show (syncD _).1.waits.length ≤ _; omega, (room_sync _).trans hp.rm, hp.ok.sync⟩
def pq : Nat → FuncId
  | 0 => 55
  | 2 => 59
  | _ => 58
def pfi (a : Nat) : Nat → Array Value
  | 0 => #[]
  | 2 => #[]
  | _ => #[.pointer (some ⟨a, 0, none⟩)]
def pca (B2 B7 B3 B6 : Nat) : Nat → Array Value
  | 0 => #[.pointer (some ⟨B2, 0, none⟩), .pointer (some ⟨B7, 0, none⟩), .pointer (some ⟨B3, 0, none⟩)]
  | 2 => #[.pointer (some ⟨B2, 0, none⟩), .pointer (some ⟨B7, 0, none⟩), .pointer (some ⟨B6, 0, none⟩)]
  | _ => #[]
def psteps (a B2 B7 B3 B6 : Nat) : List Value := [.func (.func 55) #[] (pca B2 B7 B3 B6 0), .func (.func 58) #[.pointer (some ⟨a, 0, none⟩)] #[], .func (.func 59) #[] (pca B2 B7 B3 B6 2), .func (.func 58) #[.pointer (some ⟨a, 0, none⟩)] #[]]
theorem pq_enters (a B2 B7 B3 B6 i : Nat) (hi : i < 4) (w : World) : (callFunc (pq i) (pfi a i ++ pca B2 B7 B3 B6 i)).run Tryz.prog w = .ok (.enter (pq i) (pfi a i ++ pca B2 B7 B3 B6 i)) w := by
  have h4 : i = 0 ∨ i = 1 ∨ i = 2 ∨ i = 3 := by omega
  rcases h4 with rfl | rfl | rfl | rfl
  · exact enter_plainS Tryz.func55 (by kernel_rfl) (by kernel_rfl) _ w
  · exact enter_plainS Tryz.func58 (by kernel_rfl) (by kernel_rfl) _ w
  · exact enter_plainS Tryz.func59 (by kernel_rfl) (by kernel_rfl) _ w
  · exact enter_plainS Tryz.func58 (by kernel_rfl) (by kernel_rfl) _ w

/-- What is done one behind the other. -/
theorem puts_any (a m : Nat) (X : Nat → Prop) (D : Dk) (w : World) (B2 B7 B3 B6 S : Nat) (A : Option Addr) (n c : Nat) (b nm : Byts) (hd : Dsk w a m X D) (hX : ∀ k, X k → k < w.heap.size)
    (h2 : Has w B2 [.pointer (some ⟨a, 0, none⟩)]) (h7 : Has w B7 [tv (aheadB nm)]) (h3 : Has w B3 [.slice A n c]) (h6 : Has w B6 (nm.map bv)) (hS : Has w S (psteps a B2 B7 B3 B6))
    (x2 : X B2) (x7 : X B7) (x3 : X B3) (x6 : X B6) (xS : X S) (hl : b.length = n) (hr : LiesIn (fun k => k < w.heap.size ∧ ¬ (m ≤ k ∧ ¬ X k)) w A (b.map bv)) (hc : n ≤ c) (hn : n ≤ 100000) (hnm : nm.length = 32)
    (hW : D.weight ≤ 90000000) (hw : D.waits.length ≤ 100000) (hro : 0 ≤ D.room ∧ D.room ≤ 1048576) :
    Calls Tryz.prog 54 #[.slice (some ⟨S, 0, none⟩) 4 4] w fun e w' => e = .returned (rv (putS D nm b).2) ∧ Dsk w' a m X (putS D nm b).1 ∧ Turns (fun k => m ≤ k ∧ ¬ X k) w w' := by
  subst hl
  have HS : ∀ i, i < 4 → ∀ u, ((putE D nm b i).2 = 0 ∧ Dsk u a m X (putE D nm b i).1 ∧ Turns (fun k => m ≤ k ∧ ¬ X k) w u ∧ PutW D b.length (putE D nm b i).1 i) →
      Calls Tryz.prog (pq i) (pfi a i ++ pca B2 B7 B3 B6 i) u fun e w' => ∃ er : Int, e = .returned (rv er) ∧ (er = 0 → ((putE D nm b (i + 1)).2 = 0 ∧ Dsk w' a m X (putE D nm b (i + 1)).1 ∧ Turns (fun k => m ≤ k ∧ ¬ X k) w w' ∧ PutW D b.length (putE D nm b (i + 1)).1 (i + 1))) ∧
        (er ≠ 0 → (er = (putS D nm b).2 ∧ Dsk w' a m X (putS D nm b).1 ∧ Turns (fun k => m ≤ k ∧ ¬ X k) w w')) := by
    rintro i hi u ⟨h0, du, tu, pu⟩
    have hne := putE_next (D := D) (nm := nm) (b := b) h0
    have hwn := putF_w (nm := nm) pu hi (fun h => by subst h; rfl)
    rw [← hne] at hwn
    have key : ∀ (e : Ending) (w' : World), (e = .returned (rv (putF nm b i (putE D nm b i).1).2) ∧ Dsk w' a m X (putF nm b i (putE D nm b i).1).1 ∧ Turns (fun k => m ≤ k ∧ ¬ X k) u w') → ∃ er : Int, e = .returned (rv er) ∧ (er = 0 → ((putE D nm b (i + 1)).2 = 0 ∧ Dsk w' a m X (putE D nm b (i + 1)).1 ∧ Turns (fun k => m ≤ k ∧ ¬ X k) w w' ∧ PutW D b.length (putE D nm b (i + 1)).1 (i + 1))) ∧
        (er ≠ 0 → (er = (putS D nm b).2 ∧ Dsk w' a m X (putS D nm b).1 ∧ Turns (fun k => m ≤ k ∧ ¬ X k) w w')) := by
      rintro e w' ⟨rfl, d', t'⟩
      rw [← hne] at d' ⊢
      refine ⟨_, rfl, fun h => ⟨h, d', tu.trans t', hwn⟩, fun h => ?_⟩
      have hst := putE_stop h (3 - i)
      rw [show i + 1 + (3 - i) = 4 by omega, putE_four] at hst
      rw [hst]
      exact ⟨rfl, d', tu.trans t'⟩
    have hXu : ∀ k, X k → k < u.heap.size := fun k hk => Nat.lt_of_lt_of_le (hX k hk) tu.size
    have b2 := h2.turned tu (fun e => e.2 x2)
    have b7 := h7.turned tu (fun e => e.2 x7)
    have b3 := h3.turned tu (fun e => e.2 x3)
    have b6 := h6.turned tu (fun e => e.2 x6)
    have hru : Lies u u.heap.size A (b.map bv) := fun j v hv => by
      obtain ⟨ad, e, h1, h2⟩ := hr j v hv
      exact ⟨ad, e, Nat.lt_of_lt_of_le h1.1 tu.size, tu.cell h2 (by rw [add_block]; exact h1.2)⟩
    have p1 := pu.wt
    have p2 := pu.wl
    have p3 := pu.rm
    have h4 : i = 0 ∨ i = 1 ∨ i = 2 ∨ i = 3 := by omega
    rcases h4 with rfl | rfl | rfl | rfl
    · exact (put1_any a m X _ u B2 B7 B3 A b.length c b (aheadB nm) du hXu b2 b7 b3 x2 x7 x3 rfl hru hc (by omega) (by show D.weight + _ + _ ≤ _; omega) (by omega) (by rw [p3]; exact hro)).mono key
    · exact (sync_d a m X _ u du hXu (by omega) (by omega)).mono key
    · exact (put2_any a m X _ u B2 B7 B6 nm (aheadB nm) du hXu b2 b7 b6 x2 x7 x6 hnm (by rw [ahead_len hnm]; omega) (by omega) (by omega)).mono key
    · exact (sync_d a m X _ u du hXu (by omega) (by omega)).mono key
  refine (inturn_any 4 (some ⟨S, 0, none⟩) 4 pq (pfi a) (pca B2 B7 B3 B6) (fun i hi w => pq_enters a B2 B7 B3 B6 i hi w)
    (fun i u => (putE D nm b i).2 = 0 ∧ Dsk u a m X (putE D nm b i).1 ∧ Turns (fun k => m ≤ k ∧ ¬ X k) w u ∧ PutW D b.length (putE D nm b i).1 i)
    (fun er u => er = (putS D nm b).2 ∧ Dsk u a m X (putS D nm b).1 ∧ Turns (fun k => m ≤ k ∧ ¬ X k) w u)
    (fun i hi u hj => ⟨_, rfl, by
      have hs := (hS.turned hj.2.2.1 (fun e => e.2 xS))
      rw [add_plain, Nat.zero_add]
      have h4 : i = 0 ∨ i = 1 ∨ i = 2 ∨ i = 3 := by omega
      rcases h4 with rfl | rfl | rfl | rfl
      · exact hs.cell (k := 0) rfl
      · exact hs.cell (k := 1) rfl
      · exact hs.cell (k := 2) rfl
      · exact hs.cell (k := 3) rfl⟩) HS w (by omega) ⟨rfl, hd, Turns.refl _ _, ⟨by show D.weight ≤ _; omega, Nat.le_refl _, rfl, hd.ok⟩⟩).mono ?_
  rintro e w' ⟨er, rfl, h1, h2⟩
  by_cases h : er = 0
  · obtain ⟨q0, q1, q2, _⟩ := h1 h
    rw [putE_four] at q0 q1
    exact ⟨by rw [h, q0], q1, q2⟩
  · obtain ⟨q0, q1, q2⟩ := h2 h
    exact ⟨by rw [q0], q1, q2⟩
end Go.Proofs.YtbcldknecdbemaaGreatDoor

/-
  store: Put, whole.
-/
namespace Go.Proofs.YtbcldknecdbemaaGreatDoor
open Go.RowKit
set_option linter.unusedVariables false
set_option maxRecDepth 20000

theorem zero32_len : (zero32.map bv).length = 32 := rfl
theorem dig_load {u : World} {b : Nat} {l : Byts} (hl : l.length = 32) (h : Has u b (l.map bv)) : (Instr.loadAt 46 (.pointer (some ⟨b, 0, none⟩))).run Tryz.prog u = .ok (dv l) u :=
  h.load Tryz.underlying46 rfl (by rw [List.length_map, hl]; exact Hx.dig_size)
/-- What Put leaves and answers. -/
def PutOut (D : Dk) (b : Byts) (a m : Nat) (X : Nat → Prop) (w : World) (e : Ending) (w' : World) : Prop :=
  e = .returned (.tuple #[dv (putD D b).2.1, rv (putD D b).2.2]) ∧ Dsk w' a m X (putD D b).1 ∧ Turns (fun k => m ≤ k ∧ ¬ X k) w w' ∧ ((4096 < b.length ∨ (getD D (shaOf b)).2 = 0) → Grows w w')

set_option maxHeartbeats 4000000 in
theorem sput_any (a m : Nat) (X : Nat → Prop) (D : Dk) (w : World) (A : Option Addr) (n c : Nat) (b : Byts) (hd : Dsk w a m X D) (hX : ∀ k, X k → k < w.heap.size) (hk : Keys w) (hl : b.length = n) (hr : LiesIn (fun k => k < w.heap.size ∧ ¬ (m ≤ k ∧ ¬ X k)) w A (b.map bv)) (hc : n ≤ c) (hn : n ≤ 100000)
    (hW : D.weight ≤ 90000000) (hw : D.waits.length ≤ 100000) (hro : 0 ≤ D.room ∧ D.room ≤ 1048576) :
    Calls Tryz.prog 17 #[.pointer (some ⟨a, 0, none⟩), .slice A n c] w fun e w' => PutOut D b a m X w e w' := by
  have hrl : Lies w w.heap.size A (b.map bv) := fun j v hv => by
    obtain ⟨ad, e, h1, h2⟩ := hr j v hv
    exact ⟨ad, e, h1.1, h2⟩
  have SM := fun u (h : Grows w u) => sum_any A n c b u (hk.later h) hl (hrl.later h) (by omega)
  have HA := fun u (h : Grows w u) => shas_any a m X D u (shaOf b) (hd.later h) (hk.later h) (by omega) (shaOf_len b)
  have NM := fun u => Hx.name_any (shaOf b) u (shaOf_len b)
  have PS := fun (u : World) (X' : Nat → Prop) (B2 B7 B3 B6 S : Nat) (g : Grows w u) (hdu : Dsk u a m X' D) (hXu : ∀ k, X' k → k < u.heap.size) (hXX : ∀ k, X k → X' k) (h2 : Has u B2 [.pointer (some ⟨a, 0, none⟩)]) (h7 : Has u B7 [tv (aheadB (shaOf b))]) (h3 : Has u B3 [.slice A n c]) (h6 : Has u B6 ((shaOf b).map bv)) (hS : Has u S (psteps a B2 B7 B3 B6))
    (x2 : X' B2) (x7 : X' B7) (x3 : X' B3) (x6 : X' B6) (xS : X' S) => puts_any a m X' D u B2 B7 B3 B6 S A n c b (shaOf b) hdu hXu h2 h7 h3 h6 hS x2 x7 x3 x6 xS hl (fun j v hv => by
      obtain ⟨ad, e, h1, h2⟩ := hr j v hv
      exact ⟨ad, e, ⟨by have := g.size; omega, fun hh => h1.2 ⟨hh.1, fun hx => hh.2 (hXX _ hx)⟩⟩, hcell_later h2 g⟩) hc hn (shaOf_len b) hW hw hro
  have hnl := shaOf_len b
  obtain ⟨R, hR⟩ : ∃ R, R = putD D b := ⟨_, rfl⟩
  have HP := Lib.hid hR
  unfold PutOut
  rw [← hR]
  clear hR
  have hah : aheadB (shaOf b) = [116, 47] ++ Hx.hexOf (shaOf b) := rfl
  have hct := cat_text [116, 47] (Hx.hexOf (shaOf b))
  rw [← hah] at hct
  obtain ⟨nm, hnm⟩ : ∃ nm, nm = shaOf b := ⟨_, rfl⟩
  rw [← hnm] at SM HA NM PS hnl hct hah
  have hsz : (⟨(Hx.hexOf nm).toArray⟩ : ByteArray).size = 64 := by show (Hx.hexOf nm).toArray.size = 64; have := hex_len hnl; simpa using this
  have HNM := Lib.hid hnm
  have HL := Lib.hid hl
  clear hah hnm
  obtain ⟨b2, b3, b4, g3, s3⟩ := three_b w [Value.pointer (some ⟨a, 0, none⟩)] [Value.slice A n c] (zero32.map bv) 35 27 46 _ rfl
  obtain ⟨w3, hw3⟩ : ∃ w3, w3 = (((w.alloc (.cells [Value.pointer (some ⟨a, 0, none⟩)].toArray 35)).alloc (.cells [Value.slice A n c].toArray 27)).alloc (.cells (zero32.map bv).toArray 46)) := ⟨_, rfl⟩
  rw [← hw3] at b2 b3 b4 g3 s3
  have HW3 := Lib.hid hw3
  obtain ⟨B2, hB2⟩ : ∃ B, B = w.heap.size := ⟨_, rfl⟩
  obtain ⟨B3, hB3⟩ : ∃ B, B = w.heap.size + 1 := ⟨_, rfl⟩
  obtain ⟨B4, hB4⟩ : ∃ B, B = w.heap.size + 2 := ⟨_, rfl⟩
  rw [← hB2] at b2
  rw [← hB3] at b3
  rw [← hB4] at b4
  have HB := Lib.hid (show B2 = w.heap.size ∧ B3 = w.heap.size + 1 ∧ B4 = w.heap.size + 2 ∧ w3.heap.size = w.heap.size + 3 from ⟨hB2, hB3, hB4, s3⟩)
  have HE3 := Lib.hid (show w.heap.size + 1 = B3 from hB3.symm)
  have HE4 := Lib.hid (show w.heap.size + 1 + 1 = B4 from hB4.symm)
  have HE2 := Lib.hid hB2.symm
  have c3 := b3.cell (k := 0) rfl
  have z4 := zero32_len
  clear hw3 hB2 hB3 hB4 s3 hl
  by_cases hbig : 4096 < n
  · have hi : (4096 : Int) < (n : Int) := by omega
    go_enter Tryz.func17, Tryz.ntmps17
    go_wp2_with (first | (change wpList _ _ _ _ _ (((w.alloc (.cells [Value.pointer (some ⟨a, 0, none⟩)].toArray 35)).alloc (.cells [Value.slice A n c].toArray 27)).alloc (.cells (zero32.map bv).toArray 46)); rw [← HW3.out, HE4.out, HE3.out, HE2.out]; clear HW3) | (refine wpList_storeT rfl 46 (.tmp 4) (.tmp 12) rfl B4 (zero32.map bv) (zero32.map bv) 32 rfl rfl b4 z4 z4 Hx.dig_size (bv_one _) ?_; intro w9 b9 t9))
    (try simp only [Exit.inBlock, Exit.then])
    refine bodyPost_ret (res_has_two (vs := zero32.map bv) Tryz.results17 _ rfl Tryz.underlying46 rfl Hx.dig_size b9) rfl ?_
    have hp : putD D b = (D, zero32, 3) := by unfold putD; rw [if_pos (by have := HL.out; omega)]
    have hRe := HP.out
    rw [hp] at hRe
    subst hRe
    have hB := HB.out
    refine ⟨rfl, ?_, (Turns.of_grows g3).then_ t9 (fun k hk e => by omega), fun _ => ((Turns.of_grows (S := fun k => w.heap.size ≤ k) g3).trans (t9.mono fun k _ e => by omega)).grows (fun k h1 h2 => by omega)⟩
    exact (((hd.more (X' := fun k => X k ∨ w.heap.size ≤ k) (fun k h => h)).later g3).turned t9 (fun k e h => h.2 (.inr (by omega)))).more (fun k hk => .inl (.inl hk))
  · have hi : ¬ ((4096 : Int) < (n : Int)) := by omega
    have hi2 : (n : Int) ≤ 4096 := by omega
    go_enter Tryz.func17, Tryz.ntmps17
    go_wp2_with (first | (change wpList _ _ _ _ _ (((w.alloc (.cells [Value.pointer (some ⟨a, 0, none⟩)].toArray 35)).alloc (.cells [Value.slice A n c].toArray 27)).alloc (.cells (zero32.map bv).toArray 46)); rw [← HW3.out, HE4.out, HE3.out, HE2.out]; clear HW3))
    refine (SM w3 g3).mono ?_
    rintro e w4 ⟨rfl, g4⟩
    have hz6 := Has.new w4 46 (zero32.map bv)
    have ga4 := grows_alloc w4 (.cells (zero32.map bv).toArray 46)
    have hnl2 : (nm.map bv).length = 32 := by rw [List.length_map]; exact hnl
    obtain ⟨B6, hB6⟩ : ∃ B, B = w4.heap.size := ⟨_, rfl⟩
    have h34 := g4.size
    have b2 := b2.later (Grows.trans g4 ga4)
    have b3 := b3.later (Grows.trans g4 ga4)
    have b4 := b4.later (Grows.trans g4 ga4)
    rw [← hB6] at hz6
    have HB6 := Lib.hid hB6.symm
    have n26 : ¬ B2 = B6 := by have := HB.out; omega
    have n36 : ¬ B3 = B6 := by have := HB.out; omega
    have n46 : ¬ B4 = B6 := by have := HB.out; omega
    clear hB6
    go_wp2_with (first
      | (change wpList _ _ _ _ _ (w4.alloc (.cells (zero32.map bv).toArray 46)); rw [HB6.out]; generalize w4.alloc (.cells (zero32.map bv).toArray 46) = w5 at *)
      | (refine wpList_storeT rfl 46 (.tmp 6) (.tmp 14) rfl B6 (zero32.map bv) (nm.map bv) 32 rfl rfl hz6 z4 hnl2 Hx.dig_size (bv_one _) ?_; intro w6 b6 t6; have c2 := (b2.turned t6 n26).cell (k := 0) rfl; have ld6 := dig_load hnl b6)
      | (with_reducible refine wpList_loads rfl 46 (.tmp 6) rfl _ rfl _ ld6 ?_))
    have G6 : Grows w w6 := ((Turns.of_grows (S := fun k => w.heap.size ≤ k) (Grows.trans g3 (Grows.trans g4 ga4))).trans (t6.mono fun k _ e => by rw [e, ← HB6.out]; exact (Grows.trans g3 g4).size)).grows (fun k h1 h2 => by omega)
    have b2 := b2.turned t6 n26
    have b3 := b3.turned t6 n36
    have b4 := b4.turned t6 n46
    clear t6 ld6 c2 hz6 ga4 g4 g3 c3
    refine (HA w6 G6).mono ?_
    rintro e w7 ⟨rfl, g7⟩
    have G7 := Grows.trans G6 g7
    have b2 := b2.later g7
    have b3 := b3.later g7
    have b4 := b4.later g7
    have b6 := b6.later g7
    have ld7 := dig_load hnl b6
    by_cases hg : (getD D nm).2 = 0
    · have hdd : decide ((getD D nm).2 = 0) = true := by simpa using hg
      rw [hdd]
      clear hdd
      go_wp2_with (first
        | (refine wpList_storeT rfl 46 (.tmp 4) (.tmp 18) rfl B4 (zero32.map bv) (nm.map bv) 32 rfl rfl b4 z4 hnl2 Hx.dig_size (bv_one _) ?_; intro w9 b9 t9)
        | (with_reducible refine wpList_loads rfl 46 (.tmp 6) rfl _ rfl _ ld7 ?_))
      (try simp only [Exit.inBlock, Exit.then])
      refine bodyPost_ret (res_has_two (vs := nm.map bv) Tryz.results17 _ rfl Tryz.underlying46 rfl (by rw [hnl2]; exact Hx.dig_size) b9) rfl ?_
      have hp : putD D b = (D, nm, 0) := by unfold putD; rw [if_neg (by have := HL.out; omega), ← HNM.out, if_pos hg]
      have hRe := HP.out
      rw [hp] at hRe
      subst hRe
      have hB := HB.out
      refine ⟨rfl, ?_, (Turns.of_grows G7).then_ t9 (fun k hk e => by omega), fun _ => ((Turns.of_grows (S := fun k => w.heap.size ≤ k) G7).trans (t9.mono fun k _ e => by omega)).grows (fun k h1 h2 => by omega)⟩
      exact (((hd.more (X' := fun k => X k ∨ w.heap.size ≤ k) (fun k h => h)).later G7).turned t9 (fun k e h => h.2 (.inr (by omega)))).more (fun k hk => .inl (.inl hk))
    · have hdd : decide ((getD D nm).2 = 0) = false := by simpa using hg
      rw [hdd]
      clear hdd
      go_wp2_with (with_reducible refine wpList_loads rfl 46 (.tmp 6) rfl _ rfl _ ld7 ?_)
      refine (NM w7).mono ?_
      rintro e w8 ⟨rfl, g8⟩
      have G8 := Grows.trans G7 g8
      have h7s := Has.new w8 9 [tv (aheadB nm)]
      have ga8 := grows_alloc w8 (.cells [tv (aheadB nm)].toArray 9)
      have b2 := (b2.later g8).later ga8
      have b3 := (b3.later g8).later ga8
      have b4 := (b4.later g8).later ga8
      have b6 := (b6.later g8).later ga8
      have G9 := Grows.trans G8 ga8
      have hs9 := h7s.lt
      have h8s := G8.size
      have c2 := b2.cell (k := 0) rfl
      have hmf : ∀ (fn : Fn) (first cap : Array Value) (w : World), (Instr.makeFunc fn first cap).run Tryz.prog w = .ok (.func fn first cap) w := fun _ _ _ _ => rfl
      obtain ⟨w9, hw9⟩ : ∃ u, u = w8.alloc (.cells [tv (aheadB nm)].toArray 9) := ⟨_, rfl⟩
      obtain ⟨B7, hB7⟩ : ∃ u, u = w8.heap.size := ⟨_, rfl⟩
      rw [← hw9] at b2 b3 b4 b6 G9 hs9 c2 h7s
      rw [← hB7] at h7s hs9 h8s
      have HW9 := Lib.hid hw9.symm
      have HB7 := Lib.hid hB7.symm
      clear ga8 ld7 hw9 hB7
      go_wp2_with (first
        | (change wpList _ _ _ _ _ (w8.alloc (.cells [tv (aheadB nm)].toArray 9)); rw [HW9.out, HB7.out]))
      have hS := Has.new w9 97 (psteps a B2 B7 B3 B6)
      have ga9 := grows_alloc w9 (.cells (psteps a B2 B7 B3 B6).toArray 97)
      have h9s := G9.size
      change Calls _ _ _ (w9.alloc (.cells (psteps a B2 B7 B3 B6).toArray 97)) _
      generalize (w9.alloc (.cells (psteps a B2 B7 B3 B6).toArray 97)) = w10 at *
      generalize w9.heap.size = SB at *
      have G10 := Grows.trans G9 ga9
      have b2 := b2.later ga9
      have b3 := b3.later ga9
      have b4 := b4.later ga9
      have b6 := b6.later ga9
      have b7 := h7s.later ga9
      have hB := HB.out
      have hB6 := HB6.out
      have xB2 : Xn w w10 X B2 := ⟨.inr (by omega), b2.lt⟩
      have xB3 : Xn w w10 X B3 := ⟨.inr (by omega), b3.lt⟩
      have xB4 : Xn w w10 X B4 := ⟨.inr (by omega), b4.lt⟩
      have xB6 : Xn w w10 X B6 := ⟨.inr (by omega), b6.lt⟩
      have xB7 : Xn w w10 X B7 := ⟨.inr (by omega), b7.lt⟩
      have xS : Xn w w10 X SB := ⟨.inr (by omega), hS.lt⟩
      clear hB hB6
      refine (PS w10 (Xn w w10 X) B2 B7 B3 B6 SB G10 ((hd.more (X' := Xn w w10 X) (fun k hk => hk.1)).later G10) (fun k hk => hk.2) (fun k hk => ⟨.inl hk, Nat.lt_of_lt_of_le (hX k hk) G10.size⟩) b2 b7 b3 b6 hS xB2 xB7 xB3 xB6 xS).mono ?_
      rintro e w11 ⟨rfl, d11, t11⟩
      have hp : putD D b = ((putS D nm b).1, if (putS D nm b).2 = 0 then nm else zero32, (putS D nm b).2) := by unfold putD; rw [if_neg (by have := HL.out; omega), ← HNM.out, if_neg hg]
      have hRe := HP.out
      rw [hp] at hRe
      have b4 := b4.turned t11 (fun e => e.2 xB4)
      have b6 := b6.turned t11 (fun e => e.2 xB6)
      have ld11 := dig_load hnl b6
      have T11 : Turns (fun k => m ≤ k ∧ ¬ X k) w w11 := (Turns.of_grows G10).then_ t11 (fun k hk e => ⟨e.1, fun hx => e.2 ⟨.inl hx, Nat.lt_of_lt_of_le hk G10.size⟩⟩)
      clear hp b2 b3 b7 hS t11 PS SM HA NM hct c2 h7s
      generalize putS D nm b = E at *
      obtain ⟨D', er⟩ := E
      simp only at hRe d11
      have HRE := Lib.hid hRe
      clear hRe
      go_wp2_with fail
      refine (done_any er w11).mono ?_
      rintro e w11 ⟨rfl, rfl⟩
      by_cases he : er = 0
      · subst he
        have hd0 : decide ((0 : Int) = 0) = true := rfl
        go_wp2_with (first
          | (refine wpList_storeT rfl 46 (.tmp 4) (.tmp 35) rfl B4 (zero32.map bv) (nm.map bv) 32 rfl rfl b4 z4 hnl2 Hx.dig_size (bv_one _) ?_; intro w12 b9 t9)
          | (with_reducible refine wpList_loads rfl 46 (.tmp 6) rfl _ rfl _ ld11 ?_))
        (try simp only [Exit.inBlock, Exit.then])
        refine bodyPost_ret (res_has_two (vs := nm.map bv) Tryz.results17 _ rfl Tryz.underlying46 rfl (by rw [hnl2]; exact Hx.dig_size) b9) rfl ?_
        have hRe := HRE.out
        rw [if_pos trivial] at hRe
        subst hRe
        have hB := HB.out
        refine ⟨rfl, ((d11.turned t9 (fun k e h => h.2 (by rw [e]; exact xB4))).more (fun k hk => .inl ⟨.inl hk, Nat.lt_of_lt_of_le (hX k hk) G10.size⟩)), T11.then_ t9 (fun k hk e => by omega), fun h => (h.elim (fun h => absurd h (by have := HL.out; omega)) (fun h => absurd (by rw [HNM.out]; exact h) hg))⟩
      · have hd0 : decide (er = 0) = false := by simpa using he
        go_wp2_with (refine wpList_storeT rfl 46 (.tmp 4) (.tmp 33) rfl B4 (zero32.map bv) (zero32.map bv) 32 rfl rfl b4 z4 z4 Hx.dig_size (bv_one _) ?_; intro w12 b9 t9)
        (try simp only [Exit.inBlock, Exit.then])
        refine bodyPost_ret (res_has_two (vs := zero32.map bv) Tryz.results17 _ rfl Tryz.underlying46 rfl Hx.dig_size b9) rfl ?_
        have hRe := HRE.out
        rw [if_neg he] at hRe
        subst hRe
        have hB := HB.out
        refine ⟨rfl, ((d11.turned t9 (fun k e h => h.2 (by rw [e]; exact xB4))).more (fun k hk => .inl ⟨.inl hk, Nat.lt_of_lt_of_le (hX k hk) G10.size⟩)), T11.then_ t9 (fun k hk e => by omega), fun h => (h.elim (fun h => absurd h (by have := HL.out; omega)) (fun h => absurd (by rw [HNM.out]; exact h) hg))⟩
end Go.Proofs.YtbcldknecdbemaaGreatDoor

/-
  Law 13: begin.
-/
namespace Go.Proofs.YtbcldknecdbemaaGreatDoor
open Go.RowKit
set_option linter.unusedVariables false
set_option maxRecDepth 20000

theorem lies_text {w : World} {A : Option Addr} {c B : Nat} {l : Byts} (hl : Lies w B A (l.map bv)) : (convert 27 9 (.slice A l.length c)).run Tryz.prog w = .ok (tv l) w :=
  run_string_of w 27 5 Tryz.underlying27 Tryz.underlying5 9 Tryz.underlying9 _ A _ c l rfl hl
/-- A world at hand: the box of W, the disk. -/
def wL (a : Nat) (room : Int) : List Value := [.pointer (some ⟨a, 0, none⟩), rv room, .slice none 0 0, .slice none 0 0, .slice none 0 0, rv (-1)]
set_option maxHeartbeats 1000000 in
theorem begin_any (room : Int) (w : World) (hr : 1 ≤ room ∧ room ≤ 1048576) :
    Calls Tryz.prog 8 #[rv room] w fun e w' => ∃ bw a, e = .returned (.pointer (some ⟨bw, 0, none⟩)) ∧ Has w' bw (wL a room) ∧ Dsk w' a w.heap.size (fun k => k = bw) (newD room) ∧ w.heap.size ≤ bw ∧ Grows w w' := by
  have N0 := new_d room w hr
  have NR := fun u => new_r room u (fun _ => False)
  go_enter Tryz.func8, Tryz.ntmps8
  go_wp2_with fail
  refine N0.mono ?_
  rintro e w1 ⟨a, rfl, d1, g1⟩
  go_wp2_with fail
  refine (NR w1).mono ?_
  rintro e w2 ⟨rfl, _, g2⟩
  have hb := Has.new w2 41 (wL a room)
  have ga := grows_alloc w2 (.cells (wL a room).toArray 41)
  have d3 := ((d1.later g2).more (X' := fun k => k = w2.heap.size) (fun k e => .inr (Nat.le_of_eq e.symm))).later ga
  go_wp2_with fail
  go_ret
  exact ⟨_, a, rfl, hb, d3, (Grows.trans g1 g2).size, Grows.trans (Grows.trans g1 g2) ga⟩
end Go.Proofs.YtbcldknecdbemaaGreatDoor

/-
  Law 13: its example.
-/
namespace Go.Proofs.YtbcldknecdbemaaGreatDoor
open Go.RowKit
set_option linter.unusedVariables false
set_option maxRecDepth 20000

theorem seal_le (b : Byts) : (sealOf b).length ≤ b.length + 10 := (seal_len b).1
theorem new_still (room : Int) : newD room = still room [] (-1) := rfl
/-- A first Put of a disk. -/
theorem put_first (b : Byts) (room : Int) (hb : b.length ≤ 4096) (hr : (b.length : Int) + 10 ≤ room) : putD (newD room) b = (still room [(placeB (shaOf b), sealOf b)] (-1), shaOf b, 0) := by
  have := seal_le b
  exact put_all [] (-1) (.inl rfl) hb (.inl (by omega)) (by omega)
theorem still_wt (b : Byts) (room k : Int) (p : Byts) : (still room [(p, sealOf b)] k).weight ≤ b.length + 10 := by
  have := seal_le b
  show fUsed [(p, sealOf b)] + 0 ≤ _
  simp [fUsed]; omega

theorem lies_mark_in (w : World) (l : Byts) (fr : Nat × Nat) (ok : Nat → Prop) (h : ok w.heap.size) : LiesIn ok (w.alloc (.cells (l.map bv).toArray 5 fr)) (some ⟨w.heap.size, 0, none⟩) (l.map bv) := fun j u hu => by
  refine ⟨_, rfl, h, ?_⟩
  rw [add_plain, Nat.zero_add, World.cell?_alloc_mark]
  simpa using hu
set_option maxHeartbeats 4000000 in
theorem lives13_any (w : World) (hk : Keys w) : Calls Tryz.prog 15 #[] w fun e w' => e = .returned (.bool true) ∧ Grows w w' := by
  have B0 := begin_any 1000 w (by omega)
  have hp := put_first [104, 101, 108, 108, 111] 1000 (by decide) (by decide)
  have hg := get_whole (b := [104, 101, 108, 108, 111]) (room := 1000) (by decide) (-1) (by decide)
  have hwt := still_wt [104, 101, 108, 108, 111] 1000 (-1) (placeB (shaOf [104, 101, 108, 108, 111]))
  have PU := fun (u : World) (a m : Nat) (X : Nat → Prop) (A : Option Addr) (c : Nat) (hd : Dsk u a m X (newD 1000)) (hX : ∀ k, X k → k < u.heap.size) (hk : Keys u) (hr : LiesIn (fun k => k < u.heap.size ∧ ¬ (m ≤ k ∧ ¬ X k)) u A (([104, 101, 108, 108, 111] : Byts).map bv)) (hc : 5 ≤ c) => sput_any a m X (newD 1000) u A 5 c [104, 101, 108, 108, 111] hd hX hk rfl hr hc (by omega) (by decide) (by decide) (by decide)
  unfold PutOut at PU
  rw [hp] at PU
  have GT := fun (u : World) (a m : Nat) (X : Nat → Prop) (hd : Dsk u a m X (still 1000 [(placeB (shaOf [104, 101, 108, 108, 111]), sealOf [104, 101, 108, 108, 111])] (-1))) (hk : Keys u) => sget_any a m X _ u (shaOf [104, 101, 108, 108, 111]) hd hk (by have : ([104, 101, 108, 108, 111] : Byts).length = 5 := rfl; omega) (shaOf_len _)
  unfold GetOut at GT
  rw [hg] at GT
  have hnl := shaOf_len [104, 101, 108, 108, 111]
  generalize shaOf [104, 101, 108, 108, 111] = nm at *
  generalize hD1 : still 1000 [(placeB nm, sealOf [104, 101, 108, 108, 111])] (-1) = D1 at *
  have hw0 : D1.waits.length = 0 := by rw [← hD1]; rfl
  generalize newD 1000 = D0 at *
  have PL := fun u => place_any zero32 u rfl
  have hpz : placeB zero32 = [99, 47, 48, 48, 47, 48, 48, 48, 48, 48, 48, 48, 48, 48, 48, 48, 48, 48, 48, 48, 48, 48, 48, 48, 48, 48, 48, 48, 48, 48, 48, 48, 48, 48, 48, 48, 48, 48, 48, 48, 48, 48, 48, 48, 48, 48, 48, 48, 48, 48, 48, 48, 48, 48, 48, 48, 48, 48, 48, 48, 48, 48, 48, 48, 48, 48, 48, 48, 48] := by decide +kernel
  have SH := fun (s : Byts) (u : World) (hs : s.length ≤ 1000) => Hx.short_any s 6 u (by unfold maxLen; omega) (by omega)
  have hpl := place_len (nm := zero32) rfl
  have hp6 : (placeB zero32).take 6 = [99, 47, 48, 48, 47, 48] := by rw [hpz]; rfl
  have SH6 := fun u => SH (placeB zero32) u (by omega)
  rw [hp6] at SH6
  generalize placeB zero32 = pz at *
  have hsz : (⟨pz.toArray⟩ : ByteArray).size = 69 := by show pz.toArray.size = 69; simpa using hpl
  clear hpz hp hg hwt hD1 SH hp6 hpl
  go_enter Tryz.func15, Tryz.ntmps15
  go_wp2_with fail
  refine B0.mono ?_
  rintro e w1 ⟨bw, a, rfl, hb, d1, hbw, g1⟩
  generalize hme : w.heap.size = m at *
  have HM := Lib.hid hme
  clear hme
  have k1 := hk.later g1
  have hkp := hk.pos
  have cw := hb.cell (k := 0) rfl
  have hbl := hb.lt
  have hcv := Lib.run_convert_bytes_const (P := Tryz.prog) w1 27 5 #[.int .u8 104, .int .u8 101, .int .u8 108, .int .u8 108, .int .u8 111] 5 5 Tryz.underlying27 Tryz.underlying5
  have ga := grows_alloc w1 (.cells (([104, 101, 108, 108, 111] : Byts).map bv).toArray 5 (5, 6))
  have hs2 : (w1.alloc (.cells (([104, 101, 108, 108, 111] : Byts).map bv).toArray 5 (5, 6))).heap.size = w1.heap.size + 1 := World.size_alloc _ _
  have L1 := lies_mark_in w1 [104, 101, 108, 108, 111] (5, 6) (fun k => k < (w1.alloc (.cells (([104, 101, 108, 108, 111] : Byts).map bv).toArray 5 (5, 6))).heap.size ∧ ¬ (m ≤ k ∧ ¬ (k = bw ∨ k = w1.heap.size))) ⟨by rw [hs2]; omega, fun h => h.2 (.inr rfl)⟩
  have d2 := (d1.more (X' := fun k => k = bw ∨ k = w1.heap.size) (fun k h => h.imp id (fun e => Nat.le_of_eq e.symm))).later ga
  have C1 := PU _ a m _ _ 5 d2 (fun k h => by rw [hs2]; rcases h with h | h <;> omega) (k1.later ga) L1 (by omega)
  have hb2 := hb.later ga
  have hkm : ¬ (m ≤ 1) := by have := HM.out; omega
  clear hs2 L1 PU hb d1 d2
  go_wp2_with fail
  refine C1.mono ?_
  rintro e w3 ⟨rfl, d3, t3, _⟩
  have k3 := (k1.later ga).turned t3 (fun e => hkm e.1)
  have hb3 := hb2.turned t3 (fun e => e.2 (.inl rfl))
  have T3 : Turns (fun k => m ≤ k) w w3 := ((Turns.of_grows g1).trans (Turns.of_grows ga)).trans (t3.mono fun k _ e => e.1)
  clear C1 hcv t3 hb2 ga
  have hz4 := Has.new w3 46 (zero32.map bv)
  have ga3 := grows_alloc w3 (.cells (zero32.map bv).toArray 46)
  have hnl2 : (nm.map bv).length = 32 := by rw [List.length_map]; exact hnl
  have z4 := zero32_len
  obtain ⟨w4, hw4⟩ : ∃ u, u = w3.alloc (.cells (zero32.map bv).toArray 46) := ⟨_, rfl⟩
  obtain ⟨B2, hB2⟩ : ∃ u, u = w3.heap.size := ⟨_, rfl⟩
  have hb4 := hb3.later ga3
  have d4 := (d3.more (X' := fun k => (k = bw ∨ k = w1.heap.size) ∨ k = w3.heap.size) (fun k h => h.imp id (fun e => Nat.le_of_eq e.symm))).later ga3
  have k4 := k3.later ga3
  have n4 : ¬ bw = B2 := by have := hb3.lt; omega
  have hmB : m ≤ B2 := by have := HM.out; have := T3.size; omega
  rw [← hw4] at hz4 ga3 hb4 d4 k4
  rw [← hB2] at hz4 d4
  have HW4 := Lib.hid hw4.symm
  have HB2 := Lib.hid hB2.symm
  clear hw4 hB2 hb3 d3 k3
  go_wp2_with (first
    | (change wpList _ _ _ _ _ (w3.alloc (.cells (zero32.map bv).toArray 46)); rw [HW4.out, HB2.out])
    | (refine wpList_storeT rfl 46 (.tmp 2) (.tmp 18) rfl B2 (zero32.map bv) (nm.map bv) 32 rfl rfl hz4 z4 hnl2 Hx.dig_size (bv_one _) ?_; intro w5 b5 t5))
  have hb5 := hb4.turned t5 n4
  have d5 := d4.turned t5 (fun k e h => h.2 (.inr e))
  have k5 := k4.turned t5 (fun e => by rw [e] at hkm; exact hkm hmB)
  have T5 : Turns (fun k => m ≤ k) w w5 := (T3.trans (Turns.of_grows ga3)).trans (t5.mono fun k _ e => by rw [e]; exact hmB)
  have gd := (Grows.refl w5).drew
  have cw5 : ∀ u, Grows w5.drew u → u.cell? ⟨bw, 0, none⟩ = some (.pointer (some ⟨a, 0, none⟩)) := fun u h => hcell_later (hb5.cell (k := 0) rfl) (Grows.trans gd h)
  have ld5 : ∀ u, Grows w5.drew u → (Instr.loadAt 46 (.pointer (some ⟨B2, 0, none⟩))).run Tryz.prog u = .ok (dv nm) u := fun u h => dig_load hnl (b5.later (Grows.trans gd h))
  clear hz4 hb4 t5 d4 k4 ga3 T3
  refine wp_region_ord 11 [(0, true), (1, true), (2, true), (3, true), (4, true), (5, false), (6, true), (7, true), (8, true), (9, true), (10, true)] (by kernel_rfl) (by kernel_rfl) ?_
  have hO := Grows.refl w5.drew
  repeat (first | (refine ord_load hO _ _ (by simp only [List.getElem?_cons_succ, List.getElem?_cons_zero]; rfl) (by rfl) 46 (.tmp 2) (by rfl) _ (by rfl) ld5 ?_; try simp only [Act.put, List.setIfInBounds_toArray, List.set_cons_zero, List.set_cons_succ]) | (refine ord_take hO _ ?_ (by simp only [List.getElem?_cons_succ, List.getElem?_cons_zero]; rfl) (by rfl) ?_ ?_; rotate_left; (· (intro u hu0 hu; (try go_simp); (try with_reducible rfl))); try simp only [Act.put, List.setIfInBounds_toArray, List.set_cons_zero, List.set_cons_succ]) | (refine ord_skip _ (by simp only [List.getElem?_cons_succ, List.getElem?_cons_zero]; rfl) (by rfl) ?_; try simp only [Act.put, List.setIfInBounds_toArray, List.set_cons_zero, List.set_cons_succ]))
  (refine ord_move _ (by simp only [List.getElem?_cons_succ, List.getElem?_cons_zero]; rfl) (by rfl) (fun u hu K hK => ?_); go_simp)
  have gu := Grows.trans gd hu
  refine (GT u a m _ (d5.later gu) (k5.later gu)).mono ?_
  rintro e w6 ⟨A6, c6, rfl, hc6, hL6, g6⟩
  refine hK.out _ _ g6 ?_
  clear hK K hO cw5 ld5
  have hO := Grows.refl w6
  repeat (first | (refine ord_take hO _ ?_ (by simp only [List.getElem?_cons_succ, List.getElem?_cons_zero]; rfl) (by rfl) ?_ ?_; rotate_left; (· (intro u hu0 hu; (try go_simp); (try with_reducible rfl))); try simp only [Act.put, List.setIfInBounds_toArray, List.set_cons_zero, List.set_cons_succ]) | (refine ord_skip _ (by simp only [List.getElem?_cons_succ, List.getElem?_cons_zero]; rfl) (by rfl) ?_; try simp only [Act.put, List.setIfInBounds_toArray, List.set_cons_zero, List.set_cons_succ]))
  refine ord_done (fun w7 hu7 => ?_)
  simp only [List.drop_succ_cons, List.drop_zero]
  have G7 := Grows.trans gu (Grows.trans g6 hu7)
  have hb7 := hb5.later G7
  have d7 := d5.later G7
  have hL7 := hL6.later hu7
  have T7 := T5.trans (Turns.of_grows G7)
  clear hb5 d5 hL6 hO T5
  go_wp2_with fail
  refine NoPanic.normal ?_
  go_wp2_with fail
  refine (PL w7).mono ?_
  rintro e w8 ⟨rfl, g8⟩
  have cs : (convert 27 9 (.slice A6 5 c6)).run Tryz.prog w8 = .ok (tv [104, 101, 108, 108, 111]) w8 := lies_text (c := c6) (hL7.later g8)
  have e1 : ∀ t, binOp .eql t (tv [104, 101, 108, 108, 111]) (.string ⟨#[104, 101, 108, 108, 111]⟩) = (pure (.bool true) : Sem Value) := fun t => run_teq (P := Tryz.prog) t [104, 101, 108, 108, 111] [104, 101, 108, 108, 111]
  have e2 : ∀ t, binOp .eql t (tv [99, 47, 48, 48, 47, 48]) (.string ⟨#[99, 47, 48, 48, 47, 48]⟩) = (pure (.bool true) : Sem Value) := fun t => run_teq (P := Tryz.prog) t [99, 47, 48, 48, 47, 48] [99, 47, 48, 48, 47, 48]
  have hb8 := hb7.later g8
  have WT := fun (u : World) (h : Grows w8 u) => waits_d a m _ _ u (d7.later (Grows.trans g8 h))
  rw [hw0] at WT
  go_wp2_with fail
  refine (SH6 w8).mono ?_
  rintro e w9 ⟨rfl, rfl⟩
  have cw9 := hb8.cell (k := 0) rfl
  clear cs e1
  go_wp2_with fail
  refine (WT w8 (Grows.refl _)).mono ?_
  rintro e w10 ⟨rfl, rfl⟩
  go_wp2_with fail
  go_ret
  have T9 := T7.trans (Turns.of_grows g8)
  exact ⟨rfl, T9.grows fun k hk => by have := HM.out; omega⟩
end Go.Proofs.YtbcldknecdbemaaGreatDoor

/-
  store: Missing, of one that is good; Clean, where nothing is left ahead.
-/
namespace Go.Proofs.YtbcldknecdbemaaGreatDoor
open Go.RowKit
set_option linter.unusedVariables false
set_option maxRecDepth 20000

set_option maxHeartbeats 2000000 in
theorem clean_none (a m : Nat) (X : Nat → Prop) (D : Dk) (w : World) (hd : Dsk w a m X D) (hn : D.seen.length ≤ 1000000) (hp : preF D.seen [116, 47] = []) :
    Calls Tryz.prog 25 #[.pointer (some ⟨a, 0, none⟩)] w fun e w' => e = .returned (rv 0) ∧ Grows w w' := by
  have hbox := Has.new w 35 [Value.pointer (some ⟨a, 0, none⟩)]
  have hg := grows_alloc w (.cells [Value.pointer (some ⟨a, 0, none⟩)].toArray 35)
  have LS := list_d a m X D (w.alloc (.cells [Value.pointer (some ⟨a, 0, none⟩)].toArray 35)) [116, 47] (hd.later hg) hn
  rw [hp] at LS
  go_enter Tryz.func25, Tryz.ntmps25
  go_wp2_with fail
  refine LS.mono ?_
  rintro e w2 ⟨v, rfl, ho, g2⟩
  obtain ⟨A', c', rfl, _⟩ := own_form ho
  go_wp2_with fail
  go_ret
  exact ⟨rfl, Grows.trans hg g2⟩

set_option maxHeartbeats 2000000 in
theorem missing_one (a m : Nat) (X : Nat → Prop) (D : Dk) (w : World) (nm : Byts) (g : Nat) (hd : Dsk w a m X D) (hk : Keys w) (hW : D.weight ≤ 100000000) (hl : nm.length = 32) (hg : Has w g (nm.map bv)) (hgd : (getD D nm).2 = 0) :
    Calls Tryz.prog 23 #[.pointer (some ⟨a, 0, none⟩), .slice (some ⟨g, 0, none⟩) 1 1] w fun e w' => e = .returned (.slice none 0 0) ∧ Grows w w' := by
  have HA := fun u (h : Grows w u) => shas_any a m X D u nm (hd.later h) (hk.later h) hW hl
  rw [hgd] at HA
  have hl2 : (nm.map bv).length = 32 := by rw [List.length_map]; exact hl
  have z4 := zero32_len
  clear hgd
  go_enter Tryz.func23, Tryz.ntmps23
  go_wp2_with fail
  go_loopw [10, 5] (fun i v wr => ∃ k : Nat, k ≤ 1 ∧ i = .int .i64 (k : Int) ∧ v = .slice none 0 0 ∧ Grows w wr) (fun i _ _ => 1 - (intOf i).toNat)
  case atStart => exact ⟨0, by omega, rfl, rfl, Grows.refl _⟩
  case round =>
    obtain ⟨k, hk1, rfl, rfl, G⟩ := hrel
    by_cases h0 : k = 0
    · subst h0
      have ld := dig_load hl (hg.later G)
      have hz := Has.new wr 46 (zero32.map bv)
      have ga := grows_alloc wr (.cells (zero32.map bv).toArray 46)
      obtain ⟨w4, hw4⟩ : ∃ u, u = wr.alloc (.cells (zero32.map bv).toArray 46) := ⟨_, rfl⟩
      obtain ⟨B, hB⟩ : ∃ u, u = wr.heap.size := ⟨_, rfl⟩
      rw [← hw4] at hz ga
      rw [← hB] at hz
      have HW4 := Lib.hid hw4.symm
      have HB := Lib.hid hB.symm
      clear hw4 hB
      go_wp2_with (first
        | (with_reducible refine wpList_loads rfl 46 (.tmp 12) rfl _ rfl _ ld ?_)
        | (change wpList _ _ _ _ _ (wr.alloc (.cells (zero32.map bv).toArray 46)); rw [HW4.out, HB.out])
        | (refine wpList_storeT rfl 46 (.tmp 7) (.tmp 13) rfl B (zero32.map bv) (nm.map bv) 32 rfl rfl hz z4 hl2 Hx.dig_size (bv_one _) ?_; intro w5 b5 t5; have ld5 := dig_load hl b5)
        | (with_reducible refine wpList_loads rfl 46 (.tmp 7) rfl _ rfl _ ld5 ?_))
      have G5 : Grows w w5 := ((Turns.of_grows (S := fun k => w.heap.size ≤ k) (Grows.trans G ga)).trans (t5.mono fun k _ e => by rw [e, ← HB.out]; exact G.size)).grows (fun k h1 h2 => by omega)
      refine (HA w5 G5).mono ?_
      rintro e w6 ⟨rfl, g6⟩
      go_wp2_with fail
      go_roundw
      case rel => exact ⟨1, by omega, rfl, rfl, Grows.trans G5 g6⟩
      case measure => simp [intOf]
    · obtain rfl : k = 1 := by omega
      go_wp2_with fail
      go_ret
      exact ⟨rfl, G⟩
end Go.Proofs.YtbcldknecdbemaaGreatDoor
