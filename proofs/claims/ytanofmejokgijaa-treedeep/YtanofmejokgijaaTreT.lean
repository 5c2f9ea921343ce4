/-
  Which trees may be, as tree.formed asks it: node by node, with its kids' names (of no program).
-/
import Derived.Test.YtanofmejokgijaaTreQ
namespace Go.Proofs.Ytanofmejokgijaa
set_option linter.unusedVariables false

def riseB : List (List UInt8) → Bool
  | [] => true
  | [_] => true
  | x :: y :: l => decide (cmpB x y = -1) && riseB (y :: l)
theorem rise_all : ∀ {l : List (List UInt8)}, riseB l = true ↔ ∀ i a b, l[i]? = some a → l[i + 1]? = some b → cmpB a b = -1
  | [] => by simp [riseB]
  | [x] => by simp [riseB]
  | x :: y :: l => by
    have ih := rise_all (l := y :: l)
    simp only [riseB, Bool.and_eq_true, decide_eq_true_eq, ih]
    constructor
    · rintro ⟨h1, h2⟩ i a b ha hb
      cases i with
      | zero => simp at ha hb; subst ha hb; exact h1
      | succ i => exact h2 i a b (by simpa using ha) (by simpa using hb)
    · intro h
      exact ⟨h 0 x y rfl rfl, fun i a b ha hb => h (i + 1) a b (by simpa using ha) (by simpa using hb)⟩
theorem rise_not {l : List (List UInt8)} {i : Nat} {a b : List UInt8} (ha : l[i]? = some a) (hb : l[i + 1]? = some b) (h : cmpB a b ≠ -1) : riseB l = false := by
  rw [Bool.eq_false_iff]
  exact fun e => h (rise_all.1 e i a b ha hb)
def upB (x : Int) (m : Int) : Bool := decide (0 ≤ x) && decide (x ≤ m)
def attrB (a : List UInt8 × List UInt8) : Bool := nameB a.1 && decide (a.2.length ≤ 24)
def attrsM (l : List (List UInt8 × List UInt8)) : Bool := decide (l.length ≤ 4) && l.all attrB && riseB (l.map (·.1))
def targetB (s : List UInt8) : Bool := !(s == []) && decide (s.length ≤ 64) && s.all (fun c => c != 0)
/-- Nothing that is of one kind alone: kids, data, target, major, minor. -/
def nothingB (nk nd : Nat) (tg : List UInt8) (ma mi : Int) : Bool := decide (nk = 0) && decide (nd = 0) && (tg == []) && decide (ma = 0) && decide (mi = 0)
def kindB (o : Own) (nk : Nat) : Bool :=
  if o.kind = 1 then nothingB 0 o.data.length o.target o.major o.minor
  else if o.kind = 2 then decide (o.data.length ≤ 4096) && nothingB nk 0 o.target o.major o.minor
  else if o.kind = 3 then targetB o.target && nothingB nk o.data.length [] o.major o.minor
  else if o.kind = 4 then (upB o.major 255 && upB o.minor 255) && nothingB nk o.data.length o.target 0 0
  else false
def fieldsB (o : Own) (nk : Nat) : Bool := upB o.mode 4095 && upB o.uid 2147483647 && upB o.gid 2147483647 && upB o.mtime 1099511627776 && attrsM o.attrs && kindB o nk

def headB (last : List UInt8) : List (List UInt8) → Bool
  | [] => true
  | x :: _ => decide (cmpB last x = -1)
theorem riseB_cons (x : List UInt8) (l : List (List UInt8)) : riseB (x :: l) = (headB x l && riseB l) := by cases l <;> simp [riseB, headB]
theorem lenK_tops (K : Fo) : (tops K).length = 0 ↔ K = .nil := by cases K <;> simp [tops]
theorem attrs_same (l : List (List UInt8 × List UInt8)) (last : List UInt8) : attrsB last l = (l.all attrB && riseB (l.map (·.1)) && headB last (l.map (·.1))) := by
  induction l generalizing last with
  | nil => rfl
  | cons a l ih =>
    rw [attrsB, ih a.1]
    cases l with
    | nil => simp only [List.all_cons, List.all_nil, List.map_cons, List.map_nil, riseB, attrB, Bool.and_true, headB]; cases nameB a.1 <;> cases decide (cmpB last a.1 = -1) <;> simp
    | cons b l =>
      simp only [List.all_cons, List.map_cons, riseB, attrB, headB]
      cases nameB a.1 <;> cases decide (cmpB last a.1 = -1) <;> cases decide (a.2.length ≤ 24) <;> cases decide (cmpB a.1 b.1 = -1) <;> simp
theorem attrs_may (l : List (List UInt8 × List UInt8)) : (decide (l.length ≤ 4) && attrsB [] l) = attrsM l := by
  unfold attrsM
  rw [attrs_same, Bool.eq_iff_iff]
  simp only [Bool.and_eq_true]
  constructor
  · rintro ⟨h1, ⟨h2, h3⟩, h4⟩
    exact ⟨⟨h1, h2⟩, h3⟩
  · rintro ⟨⟨h1, h2⟩, h3⟩
    refine ⟨h1, ⟨h2, h3⟩, ?_⟩
    cases l with
    | nil => rfl
    | cons a l =>
      rw [List.all_cons] at h2
      have hn : nameB a.1 = true := by
        unfold attrB at h2
        simp only [Bool.and_eq_true] at h2
        exact h2.1.1
      simp [headB, cmpB_nil (name_ne hn)]
/-- The kind's part, and the rest. -/
theorem fields_own (o : Own) (nk : Nat) : fieldsB o nk = (ownB o && (decide (o.kind = 1) || decide (nk = 0))) := by
  have ha := attrs_may o.attrs
  unfold fieldsB ownB
  rw [← ha]
  have hu : ∀ x m : Int, upB x m = decide (0 ≤ x ∧ x ≤ m) := fun x m => by unfold upB; simp
  simp only [hu]
  have hd : o.data.length = 0 ↔ o.data = [] := List.length_eq_zero_iff
  have ht : o.target.length = 0 ↔ o.target = [] := List.length_eq_zero_iff
  have hkind : kindB o nk = (decide (1 ≤ o.kind ∧ o.kind ≤ 4) && (decide (o.kind = 2) || decide (o.data.length = 0)) && (decide (o.kind = 3) || decide (o.target.length = 0)) && (decide (o.kind = 4) || decide (o.major = 0 ∧ o.minor = 0)) &&
      (if o.kind = 3 then o.target.all (fun c => c != 0) && decide (0 < o.target.length ∧ o.target.length < 65) else decide (o.data.length < 4097 ∧ 0 ≤ o.major ∧ o.major < 256 ∧ 0 ≤ o.minor ∧ o.minor < 256)) && (decide (o.kind = 1) || decide (nk = 0))) := by
    unfold kindB
    have htl : (o.target == []) = decide (o.target.length = 0) := by rw [Bool.eq_iff_iff]; simp
    by_cases k1 : o.kind = 1
    · rw [if_pos k1, if_neg (show ¬ o.kind = 3 by omega), Bool.eq_iff_iff]
      unfold nothingB
      rw [htl]
      generalize o.data.length = nd
      generalize o.target.length = nt
      simp only [Bool.and_eq_true, Bool.or_eq_true, decide_eq_true_eq, true_and, and_true]
      constructor
      · intro h; omega
      · intro h; omega
    by_cases k2 : o.kind = 2
    · rw [if_neg k1, if_pos k2, if_neg (show ¬ o.kind = 3 by omega), Bool.eq_iff_iff]
      unfold nothingB
      rw [htl]
      generalize o.data.length = nd
      generalize o.target.length = nt
      simp only [Bool.and_eq_true, Bool.or_eq_true, decide_eq_true_eq, true_and, and_true]
      constructor
      · intro h; omega
      · intro h; omega
    by_cases k3 : o.kind = 3
    · simp only [k3]
      rw [Bool.eq_iff_iff]
      have hl : 0 < o.target.length ↔ ¬ o.target = [] := List.length_pos_iff
      simp [nothingB, targetB, hl]
      constructor
      · rintro ⟨⟨⟨h1, h2⟩, h3⟩, ⟨⟨h4, h5⟩, h6⟩, h7⟩
        exact ⟨⟨⟨h5, h6, h7⟩, h3, h1, by omega⟩, h4⟩
      · rintro ⟨⟨⟨h5, h6, h7⟩, h3, h1, h2⟩, h4⟩
        exact ⟨⟨⟨h1, by omega⟩, h3⟩, ⟨⟨h4, h5⟩, h6⟩, h7⟩
    by_cases k4 : o.kind = 4
    · simp only [k4]
      rw [Bool.eq_iff_iff]
      simp [nothingB, hu, ht]
      constructor
      · rintro ⟨⟨⟨h1, h2⟩, h3, h4⟩, ⟨h5, h6⟩, h7⟩
        exact ⟨⟨⟨h6, h7⟩, by rw [h6]; simp; omega⟩, h5⟩
      · rintro ⟨⟨⟨h6, h7⟩, h8⟩, h5⟩
        exact ⟨⟨⟨by omega, by omega⟩, by omega, by omega⟩, ⟨h5, h6⟩, h7⟩
    · rw [if_neg k1, if_neg k2, if_neg k3, if_neg k4, show decide (1 ≤ o.kind ∧ o.kind ≤ 4) = false by rw [decide_eq_false_iff_not]; omega]
      simp
  rw [hkind, Bool.eq_iff_iff]
  generalize attrsB [] o.attrs = q1
  generalize (if o.kind = 3 then o.target.all (fun c => c != 0) && decide (0 < o.target.length ∧ o.target.length < 65) else decide (o.data.length < 4097 ∧ 0 ≤ o.major ∧ o.major < 256 ∧ 0 ≤ o.minor ∧ o.minor < 256)) = q2
  simp only [Bool.and_eq_true, Bool.or_eq_true, decide_eq_true_eq]
  constructor
  · rintro ⟨⟨⟨⟨⟨m1, m2⟩, m3⟩, m4⟩, m5, m6⟩, ⟨⟨⟨⟨m7, m8⟩, m9⟩, m10⟩, m11⟩, m12⟩
    exact ⟨⟨⟨⟨⟨⟨⟨m7.1, m7.2, m1.1, m1.2, m2.1, m2.2, m3.1, m3.2, m4.1, m4.2, m5⟩, m6⟩, m8⟩, m9⟩, m10⟩, m11⟩, m12⟩
  · rintro ⟨⟨⟨⟨⟨⟨⟨a1, a2, a3, a4, a5, a6, a7, a8, a9, a10, a11⟩, m6⟩, m8⟩, m9⟩, m10⟩, m11⟩, m12⟩
    exact ⟨⟨⟨⟨⟨⟨a3, a4⟩, a5, a6⟩, a7, a8⟩, a9, a10⟩, a11, m6⟩, ⟨⟨⟨⟨⟨a1, a2⟩, m8⟩, m9⟩, m10⟩, m11⟩, m12⟩

def chkN (d : Nat) (o : Own) (k : Fo) : Bool := (decide (d = 0) || nameB o.name) && fieldsB o (tops k).length && riseB (tops k)
def allB (d : Nat) : Fo → Bool
  | .nil => true
  | .cons o k r => chkN d o k && allB (d + 1) k && allB d r
/-- Over all that it is still within. -/
def stackB (d : Nat) : List Fo → Bool
  | [] => true
  | K :: l => allB d K && stackB (d + 1) l
theorem stackB_app (l r : List Fo) (d : Nat) : stackB d (l ++ r) = (stackB d l && stackB (d + l.length) r) := by
  induction l generalizing d with
  | nil => simp [stackB]
  | cons K l ih => simp only [List.cons_append, stackB, ih, List.length_cons, Bool.and_assoc, show d + 1 + l.length = d + (l.length + 1) by omega]
/-- Kids, of a directory or of none, whose names rise. -/
theorem form_all (K : Fo) (pk : Int) (last : List UInt8) (d : Nat) (hd : 0 < d) : formF pk last K = ((decide (pk = 1) || decide ((tops K).length = 0)) && riseB (tops K) && headB last (tops K) && allB d K) := by
  induction K generalizing pk last d with
  | nil => simp [formF, tops, riseB, allB, headB]
  | cons o k r ik ir =>
    have h0 : decide (d = 0) = false := by simp; omega
    have e1 := ik o.kind [] (d + 1) (by omega)
    have e2 := ir pk o.name d hd
    have f1 := fields_own o (tops k).length
    simp only [formF, e1, e2, allB, chkN, f1, h0, Bool.false_or, tops, List.length_cons]
    have hk : allB (d + 1) k = true → headB [] (tops k) = true := fun ha => by
      cases k with
      | nil => rfl
      | cons p a b =>
        simp only [allB, chkN, Bool.and_eq_true, Bool.or_eq_true, decide_eq_true_eq] at ha
        rcases ha.1.1.1.1 with h | h
        · omega
        · simp [headB, tops, cmpB_nil (name_ne h)]
    rw [Bool.eq_iff_iff, riseB_cons]
    simp only [headB, Bool.and_eq_true, Bool.or_eq_true, decide_eq_true_eq]
    constructor
    · rintro ⟨⟨⟨⟨⟨h1, h2⟩, h3⟩, h4⟩, ⟨⟨h5, h6⟩, h7⟩, h8⟩, ⟨⟨h9, h10⟩, h11⟩, h12⟩
      exact ⟨⟨⟨.inl h3, h11, h10⟩, h4⟩, ⟨⟨⟨h2, h1, h5⟩, h6⟩, h8⟩, h12⟩
    · rintro ⟨⟨⟨h3, h11, h10⟩, h4⟩, ⟨⟨⟨h2, h1, h5⟩, h6⟩, h8⟩, h12⟩
      rcases h3 with h3 | h3
      · exact ⟨⟨⟨⟨⟨h1, h2⟩, h3⟩, h4⟩, ⟨⟨h5, h6⟩, hk h8⟩, h8⟩, ⟨⟨.inl h3, h10⟩, h11⟩, h12⟩
      · simp at h3
/-- The whole. -/
theorem formed_may (ro : Own) (K : Fo) : ((decide (ro.kind = 1) && (ro.name == [])) && allB 0 (.cons ro K .nil)) = decide (mayOf ro K ≠ 2) := by
  have e1 := form_all K ro.kind [] 1 (by omega)
  have f1 := fields_own ro (tops K).length
  have hm : decide (mayOf ro K ≠ 2) = decide (ro.kind = 1 ∧ ro.name = [] ∧ ownB ro = true ∧ formF ro.kind [] K = true) := by
    unfold mayOf
    split
    · rename_i h
      rw [decide_eq_true h]
      split <;> rfl
    · rename_i h
      simp only [h, decide_false]; simp
  rw [hm, Bool.eq_iff_iff, e1]
  simp only [allB, chkN, f1, Bool.and_eq_true, Bool.or_eq_true, decide_eq_true_eq, beq_iff_eq, and_true]
  have hk : allB 1 K = true → headB [] (tops K) = true := fun ha => by
    cases K with
    | nil => rfl
    | cons p a b =>
      simp only [tops]
      simp only [allB, chkN, Bool.and_eq_true, Bool.or_eq_true, decide_eq_true_eq] at ha
      rcases ha.1.1.1.1 with h | h
      · omega
      · simp [headB, cmpB_nil (name_ne h)]
  constructor
  · rintro ⟨⟨h1, h2⟩, ⟨⟨h3, h4, h5⟩, h6⟩, h7⟩
    exact ⟨h1, h2, h4, ⟨⟨⟨h5, h6⟩, hk h7⟩, h7⟩⟩
  · rintro ⟨h1, h2, h4, ⟨⟨h5, h6⟩, h8⟩, h7⟩
    exact ⟨⟨h1, h2⟩, ⟨⟨.inl trivial, h4, h5⟩, h6⟩, h7⟩
end Go.Proofs.Ytanofmejokgijaa
