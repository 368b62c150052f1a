import PyProof.Rows.All
import Wide.All
import OpenK.AllK
import Wide.FinOn
import PyProof.EqAt
import PyProof.EqKinds
import PyProof.TupleCall
import HandS.ForMost
import HandS.Evl
import HandS.Wide
import HandS.Gcd
import HandS.IsInst
import HandS.Defaults
import HandS.Zip
import HandS.Conv
import HandS.Style
import HandS.TryOnly
import PyProof.ReprRoads
import HandS.Lambda
import HandS.Ends
import HandS.Words
import HandS.Flow
import HandS.List
import PyProof.LongRange
import PyProof.ListRange
import PyProof.ReprLen
import PyProof.CallFns
import HandS.ListItems
import HandS.SortInts
import KE.KExcInit
import KE.KIsAll
import KE.KTryMore
import HandS.ForExc
import HandS.ExcInit
import HandS.ExcIs
import HandS.ExcField
import HandS.FStr
import HandS.ClsMeth
import HandS.Head0
import HandS.Head1
import HandS.Head2
import HandS.HeadEnd
import HandS.HeadHook1
import HandS.HeadHook2
import HandS.HeadHook3
import HandS.HeadHook4
import HandS.HeadWalk
import KE.KStateDown
import HandS.Head3
import PyProof.ZipIter
import HandS.RevRange
import HandS.SortKw
import KE.KSortKey
import KE.SortKeyHeap
import KE.DataMinKey
import KE.DataMinMax
import HandS.FStrTup
import PyProof.ReprHeads
import PyProof.ReprLoop
import HandS.Dict
import KE.KeyNested
import KE.KDictDisplayH
import PyProof.DictRoadsH
import PyProof.DictMoreH
import HandS.Nested
import HandS.TupAny
import HandS.Iter
import KE.GoesEnum
import KE.GoesMore
import PyProof.Draws
import HandS.Sort
import PySem.Challenge.RW_signbook_k35_tasks_that_are_not_whole
set_option Elab.async false
set_option linter.all false
set_option maxRecDepth 100000
set_option maxHeartbeats 2000000
/-! Determinants by the first row, over the rational numbers: what rows do to them. No library is needed. -/
namespace Dt
abbrev Mx := Nat → Nat → Rat
/-! ### sums -/
def sm : Nat → (Nat → Rat) → Rat
  | 0, _ => 0
  | n + 1, f => sm n f + f n
theorem sm_congr {f g : Nat → Rat} : ∀ {n : Nat}, (∀ j, j < n → f j = g j) → sm n f = sm n g
  | 0, _ => rfl
  | n + 1, h => by
    show sm n f + f n = sm n g + g n
    rw [sm_congr fun j hj => h j (by omega), h n (by omega)]
theorem sm_zero : ∀ n : Nat, sm n (fun _ => 0) = 0
  | 0 => rfl
  | n + 1 => by
    show sm n (fun _ => 0) + 0 = 0
    rw [sm_zero n]
    exact Rat.add_zero 0
theorem sm_add {f g : Nat → Rat} : ∀ n : Nat, sm n (fun j => f j + g j) = sm n f + sm n g
  | 0 => (Rat.add_zero 0).symm
  | n + 1 => by
    show sm n (fun j => f j + g j) + (f n + g n) = (sm n f + f n) + (sm n g + g n)
    rw [sm_add n]
    grind
theorem sm_mul {f : Nat → Rat} (c : Rat) : ∀ n : Nat, sm n (fun j => c * f j) = c * sm n f
  | 0 => by
    show (0 : Rat) = c * 0
    grind
  | n + 1 => by
    show sm n (fun j => c * f j) + c * f n = c * (sm n f + f n)
    rw [sm_mul c n]
    grind
theorem sm_comm {f : Nat → Nat → Rat} (m : Nat) : ∀ n : Nat, sm n (fun i => sm m fun j => f i j) = sm m fun j => sm n fun i => f i j
  | 0 => (sm_zero m).symm
  | n + 1 => by
    show sm n (fun i => sm m fun j => f i j) + sm m (fun j => f n j) = sm m fun j => (sm n fun i => f i j) + f n j
    rw [sm_comm m n, sm_add]
def skip (j l : Nat) : Nat := if l < j then l else l + 1
theorem skip_lt {j l : Nat} (h : l < j) : skip j l = l := if_pos h
theorem skip_ge {j l : Nat} (h : j ≤ l) : skip j l = l + 1 := if_neg (by omega)
/-- the sum over all but j -/
theorem sm_skip {g : Nat → Rat} {j : Nat} : ∀ {n : Nat}, j ≤ n → sm n (fun k => g (skip j k)) = sm (n + 1) fun m => if m = j then 0 else g m
  | 0, h => by
    have : j = 0 := by omega
    subst this
    show (0 : Rat) = 0 + (if (0 : Nat) = 0 then 0 else g 0)
    rw [if_pos rfl]
    exact (Rat.add_zero 0).symm
  | n + 1, h => by
    by_cases c : j = n + 1
    · subst c
      have e : sm (n + 1) (fun k => g (skip (n + 1) k)) = sm (n + 1) fun m => if m = n + 1 then 0 else g m := sm_congr fun k hk => by
        rw [skip_lt hk, if_neg (by omega)]
      show _ = sm (n + 1) (fun m => if m = n + 1 then 0 else g m) + (if n + 1 = n + 1 then 0 else g (n + 1))
      rw [e, if_pos rfl]
      grind
    · show sm n (fun k => g (skip j k)) + g (skip j n) = sm (n + 1) (fun m => if m = j then 0 else g m) + (if n + 1 = j then 0 else g (n + 1))
      rw [sm_skip (by omega), skip_ge (by omega), if_neg (by omega)]
/-! ### determinants -/
def sg (j : Nat) : Rat := if j % 2 = 0 then 1 else -1
theorem sg_succ (j : Nat) : sg (j + 1) = -sg j := by
  unfold sg
  by_cases c : j % 2 = 0
  · rw [if_pos c, if_neg (by omega)]
  · rw [if_neg c, if_pos (by omega)]
    rfl
theorem sg_sq (j : Nat) : sg j * sg j = 1 := by
  unfold sg
  split <;> decide +kernel
def minor (M : Mx) (j : Nat) : Mx := fun i l => M (i + 1) (skip j l)
def det : Nat → Mx → Rat
  | 0, _ => 1
  | n + 1, M => sm (n + 1) fun j => sg j * M 0 j * det n (minor M j)
theorem det_congr : ∀ {n : Nat} {M N : Mx}, (∀ i j, i < n → j < n → M i j = N i j) → det n M = det n N
  | 0, _, _, _ => rfl
  | n + 1, M, N, h => sm_congr fun j hj => by
    rw [h 0 j (by omega) hj, det_congr (n := n) (M := minor M j) (N := minor N j) fun i l hi hl => h (i + 1) (skip j l) (by omega) (by unfold skip; split <;> omega)]
/-- linear in each row -/
theorem det_lin {c : Rat} {r : Nat} : ∀ {n : Nat} {M A B : Mx}, r < n → (∀ j, j < n → M r j = A r j + c * B r j) → (∀ i j, i ≠ r → i < n → j < n → M i j = A i j ∧ M i j = B i j) → det n M = det n A + c * det n B
  | 0, _, _, _, h, _, _ => by omega
  | n + 1, M, A, B, hr, h1, h2 => by
    show sm (n + 1) _ = sm (n + 1) _ + c * sm (n + 1) _
    rw [← sm_mul, ← sm_add]
    refine sm_congr fun j hj => ?_
    by_cases c0 : r = 0
    · subst c0
      have e1 : det n (minor M j) = det n (minor A j) := det_congr fun i l hi hl => (h2 (i + 1) (skip j l) (by omega) (by omega) (by unfold skip; split <;> omega)).1
      have e2 : det n (minor M j) = det n (minor B j) := det_congr fun i l hi hl => (h2 (i + 1) (skip j l) (by omega) (by omega) (by unfold skip; split <;> omega)).2
      rw [h1 j hj, ← e1, ← e2]
      grind
    · have e := det_lin (c := c) (r := r - 1) (n := n) (M := minor M j) (A := minor A j) (B := minor B j) (by omega) (fun l hl => by
        have := h1 (skip j l) (by unfold skip; split <;> omega)
        unfold minor
        rw [show r - 1 + 1 = r by omega]
        exact this) (fun i l hi hi2 hl => h2 (i + 1) (skip j l) (by omega) (by omega) (by unfold skip; split <;> omega))
      have g := h2 0 j (fun z => c0 z.symm) (by omega) hj
      rw [e, ← g.1, ← g.2]
      grind
/-! ### two rows exchanged -/
/-- the columns but j and m -/
def skip2 (j m l : Nat) : Nat := if m < j then skip j (skip m l) else skip j (skip (m - 1) l)
theorem skip_skip {j m : Nat} (h : m < j) (l : Nat) : skip j (skip m l) = skip m (skip (j - 1) l) := by
  by_cases a : l < m
  · rw [skip_lt a, skip_lt (show l < j by omega), skip_lt (show l < j - 1 by omega), skip_lt a]
  · by_cases b : l < j - 1
    · rw [skip_ge (show m ≤ l by omega), skip_lt (show l + 1 < j by omega), skip_lt b, skip_ge (show m ≤ l by omega)]
    · rw [skip_ge (show m ≤ l by omega), skip_ge (show j ≤ l + 1 by omega), skip_ge (show j - 1 ≤ l by omega), skip_ge (show m ≤ l + 1 by omega)]
theorem skip2_comm {j m : Nat} (h : j ≠ m) (l : Nat) : skip2 j m l = skip2 m j l := by
  unfold skip2
  by_cases c : m < j
  · rw [if_pos c, if_neg (by omega)]
    exact skip_skip c l
  · rw [if_neg c, if_pos (by omega)]
    exact (skip_skip (by omega) l).symm
def s2 (j m : Nat) : Rat := if m < j then sg j * sg m else -(sg j * sg m)
theorem s2_comm {j m : Nat} (h : j ≠ m) : s2 j m = -s2 m j := by
  unfold s2
  by_cases c : m < j
  · rw [if_pos c, if_neg (by omega)]
    grind
  · rw [if_neg c, if_pos (by omega)]
    grind
def D2 (n : Nat) (M : Mx) (j m : Nat) : Rat := det n fun i l => M (i + 2) (skip2 j m l)
theorem det_two (n : Nat) (M : Mx) : det (n + 2) M = sm (n + 2) fun j => sm (n + 2) fun m => if m = j then 0 else s2 j m * M 0 j * M 1 m * D2 n M j m := by
  show sm (n + 2) _ = _
  refine sm_congr fun j hj => ?_
  show sg j * M 0 j * sm (n + 1) (fun k => sg k * (minor M j) 0 k * det n (minor (minor M j) k)) = _
  rw [← sm_mul, ← sm_skip (g := fun m => s2 j m * M 0 j * M 1 m * D2 n M j m) (n := n + 1) (j := j) (by omega)]
  refine sm_congr fun k hk => ?_
  have e1 : (minor M j) 0 k = M 1 (skip j k) := rfl
  have e2 : det n (minor (minor M j) k) = D2 n M j (skip j k) := by
    refine det_congr fun i l _ _ => ?_
    show M (i + 2) (skip j (skip k l)) = M (i + 2) (skip2 j (skip j k) l)
    congr 1
    unfold skip2
    by_cases c : k < j
    · rw [skip_lt c, if_pos c]
    · have hs : skip j k = k + 1 := skip_ge (by omega)
      rw [hs, if_neg (by omega), Nat.add_sub_cancel]
  have e3 : s2 j (skip j k) = sg j * sg k := by
    unfold s2
    by_cases c : k < j
    · rw [skip_lt c, if_pos c]
    · rw [skip_ge (by omega), if_neg (by omega), sg_succ]
      grind
  rw [e1, e2, e3]
  grind
/-- rows r and r + 1 exchanged -/
def sw (r : Nat) (M : Mx) : Mx := fun i j => M (if i = r then r + 1 else if i = r + 1 then r else i) j
theorem det_sw : ∀ {n r : Nat} {M : Mx}, r + 1 < n → det n (sw r M) = -det n M
  | n + 2, 0, M, _ => by
    rw [det_two, det_two, sm_comm]
    have : ∀ x : Rat, -x = (-1) * x := fun x => by grind
    rw [this, ← sm_mul]
    refine sm_congr fun j hj => ?_
    rw [← sm_mul]
    refine sm_congr fun m hm => ?_
    by_cases c : j = m
    · subst c
      rw [if_pos rfl]
      grind
    · rw [if_neg c, if_neg (fun z => c z.symm)]
      have e : D2 n (sw 0 M) m j = D2 n M j m := by
        refine det_congr fun i l _ _ => ?_
        show M (if i + 2 = 0 then 1 else if i + 2 = 0 + 1 then 0 else i + 2) _ = M (i + 2) _
        rw [if_neg (by omega), if_neg (by omega), skip2_comm (fun z => c z.symm)]
      have e0 : (sw 0 M) 0 m = M 1 m := rfl
      have e1 : (sw 0 M) 1 j = M 0 j := rfl
      rw [e, e0, e1, s2_comm c]
      grind
  | 1, 0, _, h => by omega
  | 0, _, _, h => by omega
  | n + 1, r + 1, M, h => by
    have : ∀ x : Rat, -x = (-1) * x := fun x => by grind
    show sm (n + 1) _ = -sm (n + 1) _
    rw [this, ← sm_mul]
    refine sm_congr fun j hj => ?_
    have e : det n (minor (sw (r + 1) M) j) = -det n (minor M j) := by
      rw [← det_sw (n := n) (r := r) (M := minor M j) (by omega)]
      refine det_congr fun i l _ _ => ?_
      show M (if i + 1 = r + 1 then r + 1 + 1 else if i + 1 = r + 1 + 1 then r + 1 else i + 1) _ = M ((if i = r then r + 1 else if i = r + 1 then r else i) + 1) _
      congr 1
      repeat' split
      all_goals omega
    have e0 : (sw (r + 1) M) 0 j = M 0 j := rfl
    rw [e, e0]
    grind

/-! ### equal rows, rows added -/
theorem neg_self {x : Rat} (h : x = -x) : x = 0 := by grind
theorem det_eq1 {n r : Nat} {M : Mx} (h : r + 1 < n) (e : ∀ j, j < n → M r j = M (r + 1) j) : det n M = 0 := by
  have h1 := det_sw (M := M) h
  have h2 : det n (sw r M) = det n M := det_congr fun i j _ hj => by
    show M (if i = r then r + 1 else if i = r + 1 then r else i) j = M i j
    by_cases c1 : i = r
    · rw [if_pos c1, c1, e j hj]
    · rw [if_neg c1]
      by_cases c2 : i = r + 1
      · rw [if_pos c2, c2, e j hj]
      · rw [if_neg c2]
  rw [h2] at h1
  exact neg_self h1
theorem det_eq {n r : Nat} : ∀ {d : Nat} {M : Mx}, r + d + 1 < n → (∀ j, j < n → M r j = M (r + d + 1) j) → det n M = 0
  | 0, M, h, e => det_eq1 h e
  | d + 1, M, h, e => by
    have h1 := det_sw (n := n) (r := r + d + 1) (M := M) (by omega)
    have h2 : det n (sw (r + d + 1) M) = 0 := det_eq (r := r) (d := d) (by omega) fun j hj => by
      show M (if r = r + d + 1 then r + d + 1 + 1 else if r = r + d + 1 + 1 then r + d + 1 else r) j = M (if r + d + 1 = r + d + 1 then r + d + 1 + 1 else _) j
      rw [if_neg (by omega), if_neg (by omega), if_pos rfl]
      exact e j hj
    rw [h2] at h1
    grind
/-- c times row p added to row r -/
def ad (r p : Nat) (c : Rat) (M : Mx) : Mx := fun i j => if i = r then M r j + c * M p j else M i j
theorem det_ad {n r p : Nat} {c : Rat} {M : Mx} (hr : r < n) (hp : p < n) (ne : p ≠ r) : det n (ad r p c M) = det n M := by
  have h := det_lin (c := c) (r := r) (n := n) (M := ad r p c M) (A := M) (B := fun i j => if i = r then M p j else M i j) hr
    (fun j _ => by
      show (if r = r then M r j + c * M p j else M r j) = M r j + c * (if r = r then M p j else M r j)
      rw [if_pos rfl, if_pos rfl])
    (fun i j hi _ _ => by
      show (if i = r then _ else M i j) = M i j ∧ (if i = r then _ else M i j) = (if i = r then M p j else M i j)
      rw [if_neg hi]
      exact ⟨rfl, (if_neg hi).symm⟩)
  have z : det n (fun i j => if i = r then M p j else M i j) = 0 := by
    rcases Nat.lt_or_gt_of_ne ne with l | l
    · refine det_eq (r := p) (d := r - p - 1) (by omega) fun j _ => ?_
      show (if p = r then _ else M p j) = (if p + (r - p - 1) + 1 = r then M p j else _)
      rw [if_neg ne, if_pos (by omega)]
    · refine det_eq (r := r) (d := p - r - 1) (by omega) fun j _ => ?_
      show (if r = r then M p j else _) = (if r + (p - r - 1) + 1 = r then _ else M (r + (p - r - 1) + 1) j)
      rw [if_pos rfl, if_neg (by omega), show r + (p - r - 1) + 1 = p by omega]
  rw [h, z]
  grind
/-! ### a step of the clearing -/
theorem det_col0 : ∀ {n : Nat} {M : Mx}, 0 < n → (∀ i, i < n → M i 0 = 0) → det n M = 0
  | 0, _, h, _ => by omega
  | n + 1, M, _, h => by
    have : sm (n + 1) (fun j => sg j * M 0 j * det n (minor M j)) = sm (n + 1) fun _ => 0 := sm_congr fun j hj => by
      by_cases c : j = 0
      · rw [c, h 0 (by omega)]
        grind
      · have e : det n (minor M j) = 0 := det_col0 (by omega) fun i hi => by
          show M (i + 1) (skip j 0) = 0
          rw [skip_lt (by omega)]
          exact h (i + 1) (by omega)
        rw [e]
        grind
    show sm (n + 1) _ = 0
    rw [this, sm_zero]
/-- the first column has its first entry alone -/
theorem det_col1 {n : Nat} {M : Mx} (h : ∀ i, i < n → M (i + 1) 0 = 0) : det (n + 1) M = M 0 0 * det n (fun i j => M (i + 1) (j + 1)) := by
  have e : sm (n + 1) (fun j => sg j * M 0 j * det n (minor M j)) = sm (n + 1) fun j => if j = 0 then M 0 0 * det n (fun i j => M (i + 1) (j + 1)) else 0 := sm_congr fun j hj => by
    by_cases c : j = 0
    · subst c
      have e1 : det n (minor M 0) = det n (fun i j => M (i + 1) (j + 1)) := det_congr fun i l _ _ => by
        show M (i + 1) (skip 0 l) = _
        rw [skip_ge (by omega)]
      rw [if_pos rfl, e1]
      have : sg 0 = 1 := rfl
      rw [this]
      grind
    · have z : det n (minor M j) = 0 := det_col0 (by omega) fun i hi => by
        show M (i + 1) (skip j 0) = 0
        rw [skip_lt (by omega)]
        exact h i hi
      rw [if_neg c, z]
      grind
  show sm (n + 1) _ = _
  rw [e]
  have one : ∀ (m : Nat) (x : Rat), sm (m + 1) (fun j => if j = 0 then x else 0) = x := fun m x => by
    induction m with
    | zero =>
      show (0 : Rat) + (if (0 : Nat) = 0 then x else 0) = x
      rw [if_pos rfl]
      grind
    | succ m ih =>
      show sm (m + 1) (fun j => if j = 0 then x else 0) + (if m + 1 = 0 then x else 0) = x
      rw [ih, if_neg (by omega)]
      grind
  exact one n _
/-- the rest behind the first row and column, cleared by them -/
def ga (M : Mx) : Mx := fun i j => M (i + 1) (j + 1) - M (i + 1) 0 / M 0 0 * M 0 (j + 1)
/-- rows 1 to k cleared -/
def el (M : Mx) (k : Nat) : Mx := fun i j => if 0 < i ∧ i ≤ k then M i j - M i 0 / M 0 0 * M 0 j else M i j
theorem det_el {n : Nat} {M : Mx} : ∀ k, k < n → det n (el M k) = det n M
  | 0, h => det_congr fun i j _ _ => if_neg (by omega)
  | k + 1, h => by
    have ih := det_el (n := n) (M := M) k (by omega)
    rw [← ih, ← det_ad (r := k + 1) (p := 0) (c := -(M (k + 1) 0 / M 0 0)) (M := el M k) h (by omega) (by omega)]
    refine det_congr fun i j _ _ => ?_
    show (if 0 < i ∧ i ≤ k + 1 then M i j - M i 0 / M 0 0 * M 0 j else M i j) = if i = k + 1 then (if 0 < k + 1 ∧ k + 1 ≤ k then _ else M (k + 1) j) + _ * (if 0 < 0 ∧ 0 ≤ k then _ else M 0 j) else (if 0 < i ∧ i ≤ k then M i j - M i 0 / M 0 0 * M 0 j else M i j)
    by_cases c : i = k + 1
    · rw [if_pos ⟨by omega, by omega⟩, if_pos c, if_neg (by omega), if_neg (by omega), c]
      grind
    · rw [if_neg c]
      by_cases c2 : 0 < i ∧ i ≤ k
      · rw [if_pos c2, if_pos ⟨c2.1, by omega⟩]
      · rw [if_neg c2, if_neg (by omega)]
theorem det_ga {n : Nat} {M : Mx} (h : M 0 0 ≠ 0) : det (n + 1) M = M 0 0 * det n (ga M) := by
  rw [← det_el n (by omega), det_col1]
  · have e : (el M n) 0 0 = M 0 0 := if_neg (by omega)
    rw [e]
    congr 1
    refine det_congr fun i j hi _ => ?_
    show (if 0 < i + 1 ∧ i + 1 ≤ n then _ else _) = _
    rw [if_pos ⟨by omega, by omega⟩]
    rfl
  · intro i hi
    show (if 0 < i + 1 ∧ i + 1 ≤ n then M (i + 1) 0 - M (i + 1) 0 / M 0 0 * M 0 0 else _) = 0
    rw [if_pos ⟨by omega, by omega⟩, Rat.div_mul_cancel h]
    grind
/-- so many steps -/
def gas : Nat → Mx → Mx
  | 0, M => M
  | k + 1, M => gas k (ga M)
/-- the product of the first leading entries -/
def cor : Nat → Mx → Rat
  | 0, _ => 1
  | k + 1, M => M 0 0 * cor k (ga M)
def leads : Nat → Mx → Prop
  | 0, _ => True
  | k + 1, M => M 0 0 ≠ 0 ∧ leads k (ga M)
theorem det_gas {n : Nat} : ∀ {k : Nat} {M : Mx}, leads k M → det (n + k) M = cor k M * det n (gas k M)
  | 0, M, _ => by
    show det n M = 1 * det n M
    grind
  | k + 1, M, h => by
    show det ((n + k) + 1) M = M 0 0 * cor k (ga M) * det n (gas k (ga M))
    rw [det_ga h.1, det_gas h.2]
    grind

/-! ### two rows exchanged, whichever -/
theorem det_neg {n r : Nat} {M : Mx} (hr : r < n) : det n (fun i j => if i = r then -(M r j) else M i j) = -det n M := by
  have h := det_lin (c := -2) (r := r) (n := n) (M := fun i j => if i = r then -(M r j) else M i j) (A := M) (B := M) hr
    (fun j _ => by
      show (if r = r then -(M r j) else M r j) = _
      rw [if_pos rfl]
      grind)
    (fun i j hi _ _ => by
      show (if i = r then _ else M i j) = M i j ∧ (if i = r then _ else M i j) = M i j
      rw [if_neg hi]
      exact ⟨rfl, rfl⟩)
  rw [h]
  grind
def xch (r t : Nat) (M : Mx) : Mx := fun i j => M (if i = r then t else if i = t then r else i) j
theorem det_xch {n r t : Nat} {M : Mx} (hr : r < n) (ht : t < n) (ne : r ≠ t) : det n (xch r t M) = -det n M := by
  have a1 := det_ad (c := 1) (M := M) hr ht (fun z => ne z.symm)
  have a2 := det_ad (c := -1) (M := ad r t 1 M) ht hr ne
  have a3 := det_ad (c := 1) (M := ad t r (-1) (ad r t 1 M)) hr ht (fun z => ne z.symm)
  have e : det n (ad r t 1 (ad t r (-1) (ad r t 1 M))) = det n (fun i j => if i = t then -((xch r t M) t j) else (xch r t M) i j) := det_congr fun i j _ _ => by
    unfold ad xch
    by_cases c1 : i = r
    · subst c1
      simp only [if_pos rfl, if_neg ne, if_neg (fun z => ne z.symm : ¬ t = i)]
      grind
    · by_cases c2 : i = t
      · subst c2
        simp only [if_neg c1, if_pos rfl, if_neg ne]
        grind
      · simp only [if_neg c1, if_neg c2]
  rw [e, det_neg ht] at a3
  grind
/-! ### whole numbers -/
def Wh (x : Rat) : Prop := ∃ z : Int, x = (z : Rat)
theorem wh_int (z : Int) : Wh (z : Rat) := ⟨z, rfl⟩
theorem wh_add {x y : Rat} (h : Wh x) (g : Wh y) : Wh (x + y) := by
  obtain ⟨a, rfl⟩ := h
  obtain ⟨b, rfl⟩ := g
  exact ⟨a + b, (Rat.intCast_add a b).symm⟩
theorem wh_mul {x y : Rat} (h : Wh x) (g : Wh y) : Wh (x * y) := by
  obtain ⟨a, rfl⟩ := h
  obtain ⟨b, rfl⟩ := g
  exact ⟨a * b, (Rat.intCast_mul a b).symm⟩
theorem wh_sg (j : Nat) : Wh (sg j) := by
  unfold sg
  split
  · exact ⟨1, rfl⟩
  · exact ⟨-1, by decide +kernel⟩
theorem wh_sm {f : Nat → Rat} : ∀ {n : Nat}, (∀ j, j < n → Wh (f j)) → Wh (sm n f)
  | 0, _ => ⟨0, rfl⟩
  | n + 1, h => wh_add (wh_sm fun j hj => h j (by omega)) (h n (by omega))
theorem wh_det : ∀ {n : Nat} {M : Mx}, (∀ i j, i < n → j < n → Wh (M i j)) → Wh (det n M)
  | 0, _, _ => ⟨1, rfl⟩
  | n + 1, M, h => wh_sm fun j hj => wh_mul (wh_mul (wh_sg j) (h 0 j (by omega) hj)) (wh_det fun i l hi hl => h (i + 1) (skip j l) (by omega) (by unfold skip; split <;> omega))
/-! ### the rest is a determinant over the corner -/
/-- rows 0 to k - 1 and from k + i on, columns likewise -/
def sel (k i j : Nat) (M : Mx) : Mx := fun a b => M (if a < k then a else i + a) (if b < k then b else j + b)
theorem sel_ga (k i j : Nat) (M : Mx) : ga (sel (k + 1) i j M) = sel k i j (ga M) := by
  funext a b
  have h1 : (if a + 1 < k + 1 then a + 1 else i + (a + 1)) = (if a < k then a else i + a) + 1 := by split <;> split <;> omega
  have h2 : (if b + 1 < k + 1 then b + 1 else j + (b + 1)) = (if b < k then b else j + b) + 1 := by split <;> split <;> omega
  have h0 : (if 0 < k + 1 then 0 else i + 0) = 0 := if_pos (by omega)
  have h0' : (if 0 < k + 1 then 0 else j + 0) = 0 := if_pos (by omega)
  unfold ga sel
  simp only [h1, h2, h0, h0']
theorem sel_zero (i j : Nat) (M : Mx) : (sel 0 i j M) 0 0 = M i j := rfl
theorem sel_top (k i j : Nat) (M : Mx) : (sel (k + 1) i j M) 0 0 = M 0 0 := by
  unfold sel
  rw [if_pos (by omega), if_pos (by omega)]
theorem sel_gas (i j : Nat) : ∀ (k : Nat) (M : Mx), (gas k (sel k i j M)) 0 0 = gas k M i j
  | 0, M => rfl
  | k + 1, M => by
    show (gas k (ga (sel (k + 1) i j M))) 0 0 = gas k (ga M) i j
    rw [sel_ga]
    exact sel_gas i j k (ga M)
theorem sel_cor (i j : Nat) : ∀ (k : Nat) (M : Mx), cor k (sel k i j M) = cor k M
  | 0, _ => rfl
  | k + 1, M => by
    show (sel (k + 1) i j M) 0 0 * cor k (ga (sel (k + 1) i j M)) = M 0 0 * cor k (ga M)
    rw [sel_top, sel_ga, sel_cor i j k]
theorem sel_leads (i j : Nat) : ∀ (k : Nat) (M : Mx), leads k M → leads k (sel k i j M)
  | 0, _, _ => trivial
  | k + 1, M, h => by
    refine ⟨by rw [sel_top]; exact h.1, ?_⟩
    rw [sel_ga]
    exact sel_leads i j k (ga M) h.2
theorem det_one (M : Mx) : det 1 M = M 0 0 := by
  show (0 : Rat) + sg 0 * M 0 0 * 1 = M 0 0
  have : sg 0 = 1 := rfl
  rw [this]
  grind
theorem rest_det {k i j : Nat} {M : Mx} (h : leads k M) : cor k M * gas k M i j = det (1 + k) (sel k i j M) := by
  rw [det_gas (n := 1) (sel_leads i j k M h), det_one, sel_gas, sel_cor]
theorem rest_wh {k i j : Nat} {M : Mx} (h : leads k M) (w : ∀ a b, Wh (M a b)) : Wh (cor k M * gas k M i j) := by
  rw [rest_det h]
  exact wh_det fun a b _ _ => w _ _
theorem gas_succ : ∀ (k : Nat) (M : Mx), gas (k + 1) M = ga (gas k M)
  | 0, _ => rfl
  | k + 1, M => gas_succ k (ga M)
theorem cor_succ : ∀ (k : Nat) (M : Mx), cor (k + 1) M = cor k M * gas k M 0 0
  | 0, M => by
    show M 0 0 * 1 = 1 * M 0 0
    grind
  | k + 1, M => by
    show M 0 0 * cor (k + 1) (ga M) = M 0 0 * cor k (ga M) * gas k (ga M) 0 0
    rw [cor_succ k (ga M)]
    grind
theorem leads_succ : ∀ {k : Nat} {M : Mx}, leads k M → gas k M 0 0 ≠ 0 → leads (k + 1) M
  | 0, _, _, h => ⟨h, trivial⟩
  | k + 1, _, h, g => ⟨h.1, leads_succ (k := k) h.2 g⟩
theorem cor_ne : ∀ {k : Nat} {M : Mx}, leads k M → cor k M ≠ 0
  | 0, _, _ => by
    show (1 : Rat) ≠ 0
    decide +kernel
  | k + 1, M, h => by
    have := cor_ne h.2
    show M 0 0 * cor k (ga M) ≠ 0
    have h1 := h.1
    grind
/-- a step of the program: exact -/
theorem bar_step {k : Nat} {M : Mx} {B : Nat → Nat → Int} {c : Int} (w : ∀ a b, Wh (M a b)) (h : leads k M) (hc : (c : Rat) = cor k M) (hB : ∀ i j, ((B i j : Int) : Rat) = cor k M * gas k M i j) (h0 : B 0 0 ≠ 0) :
    leads (k + 1) M ∧ ((B 0 0 : Int) : Rat) = cor (k + 1) M ∧ ∀ i j, (((B (i + 1) (j + 1) * B 0 0 - B (i + 1) 0 * B 0 (j + 1)).fdiv c : Int) : Rat) = cor (k + 1) M * gas (k + 1) M i j := by
  have cn := cor_ne h
  have b0 : ((B 0 0 : Int) : Rat) ≠ 0 := fun z => h0 (by exact_mod_cast z)
  have g0 : gas k M 0 0 ≠ 0 := fun z => b0 (by rw [hB, z]; grind)
  have l := leads_succ h g0
  refine ⟨l, by rw [hB, cor_succ], fun i j => ?_⟩
  obtain ⟨z, hz⟩ := rest_wh (i := i) (j := j) l w
  have key : ((c * z : Int) : Rat) = ((B (i + 1) (j + 1) * B 0 0 - B (i + 1) 0 * B 0 (j + 1) : Int) : Rat) := by
    rw [Rat.intCast_mul, ← hz, hc, Rat.intCast_sub, Rat.intCast_mul, Rat.intCast_mul, hB, hB, hB, hB, cor_succ, gas_succ]
    show cor k M * (cor k M * gas k M 0 0 * (gas k M (i + 1) (j + 1) - gas k M (i + 1) 0 / gas k M 0 0 * gas k M 0 (j + 1))) = _
    have d : gas k M (i + 1) 0 / gas k M 0 0 * gas k M 0 0 = gas k M (i + 1) 0 := Rat.div_mul_cancel g0
    grind
  have key2 : c * z = B (i + 1) (j + 1) * B 0 0 - B (i + 1) 0 * B 0 (j + 1) := by exact_mod_cast key
  have c0 : c ≠ 0 := fun q => cn (by rw [← hc, q]; rfl)
  rw [← key2, hz, Int.mul_fdiv_cancel_left _ c0]

/-! ### cleared by an entry anywhere -/
theorem det_colz {c : Nat} : ∀ {n : Nat} {M : Mx}, c < n → (∀ i, i < n → M i c = 0) → det n M = 0
  | 0, _, h, _ => by omega
  | n + 1, M, hc, h => by
    have : sm (n + 1) (fun j => sg j * M 0 j * det n (minor M j)) = sm (n + 1) fun _ => 0 := sm_congr fun j hj => by
      by_cases e : j = c
      · rw [e, h 0 (by omega)]
        grind
      · have z : det n (minor M j) = 0 := by
          by_cases l : c < j
          · refine det_colz (c := c) (by omega) fun i hi => ?_
            show M (i + 1) (skip j c) = 0
            rw [skip_lt l]
            exact h (i + 1) (by omega)
          · refine det_colz (c := c - 1) (by omega) fun i hi => ?_
            show M (i + 1) (skip j (c - 1)) = 0
            rw [skip_ge (by omega), show c - 1 + 1 = c by omega]
            exact h (i + 1) (by omega)
        rw [z]
        grind
    show sm (n + 1) _ = 0
    rw [this, sm_zero]
termination_by n => n
/-- row r at the top, the others below in their order -/
def top (r : Nat) (M : Mx) : Mx := fun i j => M (if i = 0 then r else skip r (i - 1)) j
theorem det_top {n : Nat} : ∀ {r : Nat} {M : Mx}, r < n → det n (top r M) = sg r * det n M
  | 0, M, _ => by
    have e : det n (top 0 M) = det n M := det_congr fun i j _ _ => by
      unfold top
      by_cases c : i = 0
      · rw [if_pos c, c]
      · rw [if_neg c, skip_ge (by omega), show i - 1 + 1 = i by omega]
    have : sg 0 = 1 := rfl
    rw [e, this]
    grind
  | r + 1, M, h => by
    have e : det n (top (r + 1) M) = det n (top r (sw r M)) := det_congr fun i j _ _ => by
      unfold top sw
      by_cases c : i = 0
      · rw [if_pos c, if_pos c, if_pos rfl]
      · rw [if_neg c, if_neg c]
        congr 1
        by_cases l : i - 1 < r
        · rw [skip_lt l, skip_lt (by omega), if_neg (by omega), if_neg (by omega)]
        · by_cases l2 : i - 1 = r
          · rw [l2, skip_lt (by omega), skip_ge (by omega), if_neg (by omega), if_pos rfl]
          · rw [skip_ge (by omega), skip_ge (by omega), if_neg (by omega), if_neg (by omega)]
    rw [e, det_top (by omega), det_sw (by omega), sg_succ]
    grind
/-- all rows but r cleared at column c, the first k of them -/
def cl (r c k : Nat) (M : Mx) : Mx := fun i j => if i ≠ r ∧ i < k then M i j - M i c / M r c * M r j else M i j
theorem det_cl {n r c : Nat} {M : Mx} (hr : r < n) : ∀ k, k ≤ n → det n (cl r c k M) = det n M
  | 0, _ => det_congr fun i j _ _ => if_neg (by omega)
  | k + 1, h => by
    have ih := det_cl (c := c) (M := M) hr k (by omega)
    by_cases e : k = r
    · rw [← ih]
      refine det_congr fun i j _ _ => ?_
      unfold cl
      by_cases g : i ≠ r ∧ i < k
      · rw [if_pos g, if_pos ⟨g.1, by omega⟩]
      · rw [if_neg g, if_neg (by omega)]
    · rw [← ih, ← det_ad (r := k) (p := r) (c := -(M k c / M r c)) (M := cl r c k M) (by omega) hr (fun z => e z.symm)]
      refine det_congr fun i j _ _ => ?_
      show (if i ≠ r ∧ i < k + 1 then M i j - M i c / M r c * M r j else M i j) = if i = k then (if k ≠ r ∧ k < k then _ else M k j) + -(M k c / M r c) * (if r ≠ r ∧ r < k then _ else M r j) else (if i ≠ r ∧ i < k then M i j - M i c / M r c * M r j else M i j)
      by_cases g : i = k
      · rw [if_pos ⟨by omega, by omega⟩, if_pos g, if_neg (by omega), if_neg (by omega), g]
        grind
      · rw [if_neg g]
        by_cases g2 : i ≠ r ∧ i < k
        · rw [if_pos g2, if_pos ⟨g2.1, by omega⟩]
        · rw [if_neg g2, if_neg (by omega)]
/-- the determinant by a pivot: its sign, the entry, the rest -/
theorem det_piv {n r c : Nat} {M : Mx} (hr : r < n + 1) (hc : c < n + 1) (h : M r c ≠ 0) :
    det (n + 1) M = sg r * sg c * M r c * det n (fun a b => M (skip r a) (skip c b) - M (skip r a) c / M r c * M r (skip c b)) := by
  have e1 := det_cl (c := c) (M := M) hr (n + 1) (Nat.le_refl _)
  have e2 := det_top (M := cl r c (n + 1) M) hr
  have e3 : det (n + 1) (top r (cl r c (n + 1) M)) = sg c * M r c * det n (fun a b => M (skip r a) (skip c b) - M (skip r a) c / M r c * M r (skip c b)) := by
    have row0 : ∀ j, (top r (cl r c (n + 1) M)) 0 j = M r j := fun j => by
      show (if r ≠ r ∧ r < n + 1 then _ else M r j) = M r j
      rw [if_neg (by omega)]
    have rest : ∀ a j, a < n → (top r (cl r c (n + 1) M)) (a + 1) j = M (skip r a) j - M (skip r a) c / M r c * M r j := fun a j ha => by
      show (if skip r a ≠ r ∧ skip r a < n + 1 then _ else _) = _
      rw [if_pos (by unfold skip; split <;> omega), if_neg (by omega), Nat.add_sub_cancel]
    have e : sm (n + 1) (fun j => sg j * (top r (cl r c (n + 1) M)) 0 j * det n (minor (top r (cl r c (n + 1) M)) j)) = sm (n + 1) fun j => if j = c then sg c * M r c * det n (fun a b => M (skip r a) (skip c b) - M (skip r a) c / M r c * M r (skip c b)) else 0 := sm_congr fun j hj => by
      rw [row0]
      by_cases g : j = c
      · subst g
        rw [if_pos rfl]
        congr 1
        exact det_congr fun a b ha hb => rest a (skip j b) ha
      · rw [if_neg g]
        have z : ∀ a, a < n → (top r (cl r c (n + 1) M)) (a + 1) c = 0 := fun a ha => by
          rw [rest a c ha, Rat.div_mul_cancel h]
          grind
        have z2 : det n (minor (top r (cl r c (n + 1) M)) j) = 0 := by
          by_cases l : c < j
          · refine det_colz (c := c) (by omega) fun i hi => ?_
            show (top r (cl r c (n + 1) M)) (i + 1) (skip j c) = 0
            rw [skip_lt l]
            exact z i hi
          · refine det_colz (c := c - 1) (by omega) fun i hi => ?_
            show (top r (cl r c (n + 1) M)) (i + 1) (skip j (c - 1)) = 0
            rw [skip_ge (by omega), show c - 1 + 1 = c by omega]
            exact z i hi
        rw [z2]
        grind
    show sm (n + 1) _ = _
    rw [e]
    have one : ∀ (m : Nat) (x : Rat), c < m → sm m (fun j => if j = c then x else 0) = x := fun m x => by
      induction m with
      | zero => intro h; omega
      | succ m ih =>
        intro hm
        show sm m (fun j => if j = c then x else 0) + (if m = c then x else 0) = x
        by_cases g : m = c
        · have : sm m (fun j => if j = c then x else 0) = sm m fun _ => 0 := sm_congr fun j hj => if_neg (by omega)
          rw [if_pos g, this, sm_zero]
          grind
        · rw [if_neg g, ih (by omega)]
          grind
    exact one _ _ hc
  have s2 := sg_sq r
  rw [e1] at e2
  have : det (n + 1) M = sg r * det (n + 1) (top r (cl r c (n + 1) M)) := by
    rw [e2]
    grind
  rw [this, e3]
  grind

/-! ### rows exchanged behind the cleared ones -/
theorem xch_ga {a b : Nat} (M : Mx) : ga (xch (a + 1) (b + 1) M) = xch a b (ga M) := by
  funext i j
  have h : (if i + 1 = a + 1 then b + 1 else if i + 1 = b + 1 then a + 1 else i + 1) = (if i = a then b else if i = b then a else i) + 1 := by
    by_cases c1 : i = a
    · rw [if_pos (by omega), if_pos c1]
    · rw [if_neg (by omega), if_neg c1]
      by_cases c2 : i = b
      · rw [if_pos (by omega), if_pos c2]
      · rw [if_neg (by omega), if_neg c2]
  have h0 : (if 0 = a + 1 then b + 1 else if 0 = b + 1 then a + 1 else 0) = 0 := by
    rw [if_neg (by omega), if_neg (by omega)]
  unfold ga xch
  simp only [h, h0]
theorem xch_top {a b : Nat} (M : Mx) : (xch (a + 1) (b + 1) M) 0 0 = M 0 0 := by
  unfold xch
  rw [if_neg (by omega), if_neg (by omega)]
theorem xch_gas {a b : Nat} : ∀ (k : Nat) (M : Mx), gas k (xch (k + a) (k + b) M) = xch a b (gas k M)
  | 0, M => by
    show xch (0 + a) (0 + b) M = xch a b M
    rw [Nat.zero_add, Nat.zero_add]
  | k + 1, M => by
    show gas k (ga (xch (k + 1 + a) (k + 1 + b) M)) = xch a b (gas k (ga M))
    rw [show k + 1 + a = (k + a) + 1 by omega, show k + 1 + b = (k + b) + 1 by omega, xch_ga, xch_gas k]
theorem xch_cor {a b : Nat} : ∀ (k : Nat) (M : Mx), cor k (xch (k + a) (k + b) M) = cor k M
  | 0, _ => rfl
  | k + 1, M => by
    show (xch (k + 1 + a) (k + 1 + b) M) 0 0 * cor k (ga (xch (k + 1 + a) (k + 1 + b) M)) = M 0 0 * cor k (ga M)
    rw [show k + 1 + a = (k + a) + 1 by omega, show k + 1 + b = (k + b) + 1 by omega, xch_ga, xch_top, xch_cor k]
theorem xch_leads {a b : Nat} : ∀ (k : Nat) (M : Mx), leads k M → leads k (xch (k + a) (k + b) M)
  | 0, _, _ => trivial
  | k + 1, M, h => by
    rw [show k + 1 + a = (k + a) + 1 by omega, show k + 1 + b = (k + b) + 1 by omega]
    refine ⟨by rw [xch_top]; exact h.1, ?_⟩
    rw [xch_ga]
    exact xch_leads k (ga M) h.2
theorem xch_wh {a b : Nat} {M : Mx} (w : ∀ i j, Wh (M i j)) : ∀ i j, Wh ((xch a b M) i j) := fun i j => w _ j
/-! ### the program's clearing, over lists -/
/-- the entry of a table, 0 outside -/
def at_ (R : List (List Int)) (i j : Nat) : Int := (R[i]?.getD [])[j]?.getD 0
def mx (R : List (List Int)) : Mx := fun i j => ((at_ R i j : Int) : Rat)
theorem mx_wh (R : List (List Int)) : ∀ i j, Wh (mx R i j) := fun i j => ⟨_, rfl⟩
def crow (row lead : List Int) (col : Nat) (corner : Int) : List Int := List.zipWith (fun e t => (e * lead[col]?.getD 0 - row[col]?.getD 0 * t).fdiv corner) row lead
/-- the rows behind so many steps, the row at t exchanged with the first of them -/
def others (R : List (List Int)) (s t : Nat) : List (List Int) := (List.range (R.length - (s + 1))).map fun i => if s + 1 + i = t then R[s]?.getD [] else R[s + 1 + i]?.getD []
/-- a step at a column, the row at t leading -/
def stepR (R : List (List Int)) (s t col : Nat) (corner : Int) : List (List Int) := R.take s ++ [R[t]?.getD []] ++ (others R s t).map fun row => crow row (R[t]?.getD []) col corner
structure Sq (n : Nat) (R : List (List Int)) : Prop where
  len : R.length = n
  wid : ∀ r ∈ R, r.length = n
theorem Sq.row {n : Nat} {R : List (List Int)} (h : Sq n R) {i : Nat} (hi : i < n) : (R[i]?.getD []).length = n := by
  have hl := h.len
  rw [List.getElem?_eq_getElem (by omega)]
  exact h.wid _ (List.getElem_mem _)
theorem Sq.out {n : Nat} {R : List (List Int)} (h : Sq n R) {i j : Nat} (c : n ≤ i ∨ n ≤ j) : at_ R i j = 0 := by
  unfold at_
  by_cases hi : i < n
  · have hr := h.row hi
    rw [List.getElem?_eq_none (l := R[i]?.getD []) (by omega)]
    rfl
  · rw [List.getElem?_eq_none (l := R) (by have := h.len; omega)]
    rfl
theorem step_sq {n s t col : Nat} {corner : Int} {R : List (List Int)} (h : Sq n R) (hs : s < n) (ht : t < n) : Sq n (stepR R s t col corner) := by
  have hl := h.len
  constructor
  · unfold stepR others
    rw [List.length_append, List.length_append, List.length_take, List.length_map, List.length_map, List.length_range, List.length_singleton]
    omega
  · intro r hr
    unfold stepR at hr
    rcases List.mem_append.mp hr with hr | hr
    · rcases List.mem_append.mp hr with hr | hr
      · exact h.wid r (List.mem_of_mem_take hr)
      · rw [List.mem_singleton.mp hr]
        exact h.row ht
    · obtain ⟨r', hr', rfl⟩ := List.mem_map.mp hr
      unfold others at hr'
      obtain ⟨i, hi, rfl⟩ := List.mem_map.mp hr'
      have hi := List.mem_range.mp hi
      unfold crow
      rw [List.length_zipWith, h.row ht]
      split
      · rw [h.row hs]
        omega
      · rw [h.row (by omega)]
        omega
/-- the rows with two exchanged -/
def perm (s t i : Nat) : Nat := if i = s then t else if i = t then s else i
theorem step_at {n s t : Nat} {corner : Int} {R : List (List Int)} (h : Sq n R) (hs : s < n) (ht : t < n) (hst : s ≤ t) (i j : Nat) :
    at_ (stepR R s t s corner) (s + 1 + i) (s + 1 + j) = (at_ R (perm s t (s + (i + 1))) (s + (j + 1)) * at_ R (perm s t s) s - at_ R (perm s t (s + (i + 1))) s * at_ R (perm s t s) (s + (j + 1))).fdiv corner := by
  have hl := h.len
  have hp : perm s t s = t := if_pos rfl
  rw [hp]
  by_cases c : s + 1 + i < n ∧ s + 1 + j < n
  · have e1 : (stepR R s t s corner)[s + 1 + i]? = some (crow (R[perm s t (s + (i + 1))]?.getD []) (R[t]?.getD []) s corner) := by
      unfold stepR
      have l1 : (R.take s ++ [R[t]?.getD []]).length = s + 1 := by
        rw [List.length_append, List.length_take, List.length_singleton]
        omega
      rw [List.getElem?_append_right (by omega), l1, show s + 1 + i - (s + 1) = i by omega, List.getElem?_map]
      unfold others
      rw [List.getElem?_map, List.getElem?_range (by omega)]
      show some (crow (if s + 1 + i = t then R[s]?.getD [] else R[s + 1 + i]?.getD []) _ s corner) = _
      congr 2
      unfold perm
      rw [if_neg (show ¬ s + (i + 1) = s by omega)]
      by_cases g : s + 1 + i = t
      · rw [if_pos g, if_pos (by omega)]
      · rw [if_neg g, if_neg (by omega), show s + 1 + i = s + (i + 1) by omega]
    have hpn : perm s t (s + (i + 1)) < n := by
      unfold perm
      repeat' split
      all_goals omega
    have r1 := h.row hpn
    have r2 := h.row ht
    unfold at_
    rw [e1]
    show (crow _ _ s corner)[s + 1 + j]?.getD 0 = _
    unfold crow
    rw [List.getElem?_zipWith, List.getElem?_eq_getElem (show s + 1 + j < (R[perm s t (s + (i + 1))]?.getD []).length by omega), List.getElem?_eq_getElem (show s + 1 + j < (R[t]?.getD []).length by omega)]
    show (_ * _ - _ * _ : Int).fdiv corner = _
    have ej : s + (j + 1) = s + 1 + j := by omega
    rw [ej, List.getElem?_eq_getElem (show s + 1 + j < (R[perm s t (s + (i + 1))]?.getD []).length by omega), List.getElem?_eq_getElem (show s + 1 + j < (R[t]?.getD []).length by omega)]
    rfl
  · rw [(step_sq h hs ht).out (by omega)]
    by_cases ci : n ≤ s + 1 + i
    · have hp2 : perm s t (s + (i + 1)) = s + (i + 1) := by
        unfold perm
        rw [if_neg (by omega), if_neg (by omega)]
      rw [hp2, h.out (.inl (by omega)), h.out (i := s + (i + 1)) (j := s) (.inl (by omega))]
      simp
    · rw [h.out (i := perm s t (s + (i + 1))) (j := s + (j + 1)) (.inr (by omega)), h.out (i := t) (j := s + (j + 1)) (.inr (by omega))]
      simp

/-! ### all steps -/
structure Cs where
  R : List (List Int)
  sign : Int
  corner : Int
  steps : Nat
def found (c : Cs) (col : Nat) : List Nat := (List.range (c.R.length - c.steps)).filter fun i => at_ c.R (c.steps + i) col != 0
def cstep (c : Cs) (col : Nat) : Cs := match found c col with
  | [] => c
  | i :: _ => ⟨stepR c.R c.steps (c.steps + i) col c.corner, if i = 0 then c.sign else -c.sign, at_ c.R (c.steps + i) col, c.steps + 1⟩
def clears (R : List (List Int)) : Nat → Cs
  | 0 => ⟨R, 1, 1, 0⟩
  | k + 1 => cstep (clears R k) k
structure InvC (n k : Nat) (R0 : List (List Int)) (c : Cs) : Prop where
  sq : Sq n c.R
  le : c.steps ≤ k
  cn : c.corner ≠ 0
  ss : c.sign * c.sign = 1
  good : c.steps = k → ∃ M : Mx, (∀ i j, Wh (M i j)) ∧ det n M = (c.sign : Rat) * det n (mx R0) ∧ leads k M ∧ (c.corner : Rat) = cor k M ∧ ∀ i j, ((at_ c.R (k + i) (k + j) : Int) : Rat) = cor k M * gas k M i j
  bad : c.steps < k → det n (mx R0) = 0
theorem found_mem {c : Cs} {col i : Nat} {r : List Nat} (h : found c col = i :: r) : i < c.R.length - c.steps ∧ at_ c.R (c.steps + i) col ≠ 0 := by
  have : i ∈ found c col := by rw [h]; exact List.mem_cons_self ..
  unfold found at this
  obtain ⟨h1, h2⟩ := List.mem_filter.mp this
  exact ⟨List.mem_range.mp h1, by simpa using h2⟩
theorem found_nil {c : Cs} {col i : Nat} (h : found c col = []) (hi : i < c.R.length - c.steps) : at_ c.R (c.steps + i) col = 0 := by
  unfold found at h
  have := List.filter_eq_nil_iff.mp h i (List.mem_range.mpr hi)
  simpa using this
theorem perm_add (k i a : Nat) : perm k (k + i) (k + a) = k + (if a = 0 then i else if a = i then 0 else a) := by
  unfold perm
  by_cases c1 : a = 0
  · rw [if_pos (by omega), if_pos c1]
  · rw [if_neg (by omega), if_neg c1]
    by_cases c2 : a = i
    · rw [if_pos (by omega), if_pos c2]
      rfl
    · rw [if_neg (by omega), if_neg c2]
/-- one step of the clearing as found by the program, at a width that may be another one -/
theorem inv_step {n k : Nat} {R0 : List (List Int)} {c : Cs} (h : InvC n k R0 c) (hk : k < n) : InvC n (k + 1) R0 (cstep c k) := by
  have hl := h.sq.len
  have hs := h.le
  cases e : found c k with
  | nil =>
    have ec : cstep c k = c := by unfold cstep; rw [e]
    rw [ec]
    refine ⟨h.sq, by omega, h.cn, h.ss, fun z => by omega, fun _ => ?_⟩
    by_cases g : c.steps < k
    · exact h.bad g
    have gs : c.steps = k := by omega
    obtain ⟨M, w, hd, hle, hc, hB⟩ := h.good gs
    have cn := cor_ne hle
    have z : det (n - k) (gas k M) = 0 := det_col0 (by omega) fun i hi => by
      have h1 := found_nil e (i := i) (by omega)
      rw [gs] at h1
      have h2 := hB i 0
      rw [Nat.add_zero, h1] at h2
      have h3 : cor k M * gas k M i 0 = 0 := h2.symm
      grind
    have hd2 := det_gas (n := n - k) (k := k) (M := M) hle
    rw [show n - k + k = n by omega, z] at hd2
    rw [hd2] at hd
    have s1 : ((c.sign * c.sign : Int) : Rat) = 1 := by rw [h.ss]; rfl
    rw [Rat.intCast_mul] at s1
    grind
  | cons i r =>
    obtain ⟨hi, hne⟩ := found_mem e
    have ec : cstep c k = ⟨stepR c.R c.steps (c.steps + i) k c.corner, if i = 0 then c.sign else -c.sign, at_ c.R (c.steps + i) k, c.steps + 1⟩ := by unfold cstep; rw [e]
    rw [ec]
    have s2 : (if i = 0 then c.sign else -c.sign) * (if i = 0 then c.sign else -c.sign) = 1 := by
      split
      · exact h.ss
      · rw [Int.neg_mul_neg]
        exact h.ss
    refine ⟨step_sq h.sq (by omega) (by omega), by show c.steps + 1 ≤ k + 1; omega, hne, s2, fun z => ?_, fun z => h.bad (by have : c.steps + 1 < k + 1 := z; omega)⟩
    have gs : c.steps = k := by
      have : c.steps + 1 = k + 1 := z
      omega
    obtain ⟨M, w, hd, hle, hc, hB⟩ := h.good gs
    rw [gs] at hi hne ⊢
    have hB' : ∀ a b, ((at_ c.R (perm k (k + i) (k + a)) (k + b) : Int) : Rat) = cor k (xch (k + 0) (k + i) M) * gas k (xch (k + 0) (k + i) M) a b := fun a b => by
      rw [perm_add, hB, xch_cor, xch_gas]
      rfl
    have h0 : at_ c.R (perm k (k + i) (k + 0)) (k + 0) ≠ 0 := by
      rw [perm_add, if_pos rfl]
      exact hne
    obtain ⟨b1, b2, b3⟩ := bar_step (k := k) (M := xch (k + 0) (k + i) M) (B := fun a b => at_ c.R (perm k (k + i) (k + a)) (k + b)) (c := c.corner) (xch_wh w) (xch_leads k M hle) (by rw [xch_cor]; exact hc) hB' h0
    have hp : perm k (k + i) (k + 0) = k + i := by rw [perm_add, if_pos rfl]
    refine ⟨xch (k + 0) (k + i) M, xch_wh w, ?_, b1, ?_, fun a b => ?_⟩
    · show det n (xch (k + 0) (k + i) M) = (((if i = 0 then c.sign else -c.sign) : Int) : Rat) * det n (mx R0)
      by_cases ci : i = 0
      · rw [if_pos ci, ← hd]
        refine det_congr fun a b _ _ => ?_
        unfold xch
        rw [ci]
        congr 1
        by_cases g : a = k + 0
        · rw [if_pos g, g]
        · rw [if_neg g, if_neg g]
      · rw [if_neg ci, det_xch (by omega) (by omega) (by omega), hd, Rat.intCast_neg]
        grind
    · have := b2
      rw [hp] at this
      exact this
    · have g := b3 a b
      have ss := step_at (corner := c.corner) h.sq (show k < n by omega) (show k + i < n by omega) (by omega) a b
      rw [← g, ss]
      rfl
theorem inv_zero {n : Nat} {R : List (List Int)} (h : Sq n R) : InvC n 0 R ⟨R, 1, 1, 0⟩ :=
  ⟨h, Nat.le_refl _, (by decide : (1 : Int) ≠ 0), (by decide : (1 : Int) * 1 = 1), fun _ => ⟨mx R, mx_wh R, by
    show det n (mx R) = ((1 : Int) : Rat) * det n (mx R)
    have : ((1 : Int) : Rat) = 1 := rfl
    rw [this]
    grind, trivial, rfl, fun i j => by
    rw [Nat.zero_add, Nat.zero_add]
    show mx R i j = 1 * mx R i j
    grind⟩, fun z => by omega⟩
theorem inv_all {n : Nat} {R : List (List Int)} (h : Sq n R) : ∀ k, k ≤ n → InvC n k R (clears R k)
  | 0, _ => inv_zero h
  | k + 1, hk => inv_step (inv_all h k (by omega)) (by omega)
/-- what the program tells of a square -/
theorem clears_det {n : Nat} {R : List (List Int)} (h : Sq n R) : (((if (clears R n).steps = n then (clears R n).sign * (clears R n).corner else 0) : Int) : Rat) = det n (mx R) := by
  have I := inv_all h n (Nat.le_refl _)
  by_cases c : (clears R n).steps = n
  · rw [if_pos c]
    obtain ⟨M, _, hd, hle, hc, _⟩ := I.good c
    have h1 := det_gas (n := 0) (k := n) (M := M) hle
    rw [Nat.zero_add] at h1
    have h2 : det n M = cor n M := by
      rw [h1]
      show cor n M * 1 = cor n M
      grind
    have s1 : (((clears R n).sign * (clears R n).sign : Int) : Rat) = 1 := by rw [I.ss]; rfl
    rw [Rat.intCast_mul] at s1 ⊢
    rw [hc, ← h2, hd]
    grind
  · rw [if_neg c]
    have := I.le
    exact (I.bad (by omega)).symm
/-! ### bounds of the clearing -/
def Bdz (n : Nat) (i : Int) : Prop := i.natAbs < 2 ^ n
theorem fdiv_abs (a c : Int) : (a.fdiv c).natAbs ≤ a.natAbs := by
  rcases Int.lt_trichotomy c 0 with h | h | h
  · have e : a.fdiv c = (-a).fdiv (-c) := (Int.neg_fdiv_neg a c).symm
    have e2 : (-a).fdiv (-c) = (-a) / (-c) := Int.fdiv_eq_ediv_of_nonneg _ (by omega)
    rw [e, e2]
    exact Nat.le_trans (Int.natAbs_ediv_le_natAbs _ _) (by rw [Int.natAbs_neg]; exact Nat.le_refl _)
  · rw [h, Int.fdiv_zero]
    exact Nat.zero_le _
  · rw [Int.fdiv_eq_ediv_of_nonneg _ (by omega)]
    exact Int.natAbs_ediv_le_natAbs _ _
theorem crow_one {n : Nat} {a b c d e : Int} (h1 : Bdz n a) (h2 : Bdz n b) (h3 : Bdz n c) (h4 : Bdz n d) : Bdz (2 * n + 1) ((a * b - c * d).fdiv e) := by
  unfold Bdz at *
  refine Nat.lt_of_le_of_lt (fdiv_abs _ _) ?_
  have m1 : (a * b).natAbs < 2 ^ (n + n) := by
    rw [Int.natAbs_mul, Nat.pow_add]
    exact Nat.mul_lt_mul_of_lt_of_le h1 (Nat.le_of_lt h2) (Nat.two_pow_pos _)
  have m2 : (c * d).natAbs < 2 ^ (n + n) := by
    rw [Int.natAbs_mul, Nat.pow_add]
    exact Nat.mul_lt_mul_of_lt_of_le h3 (Nat.le_of_lt h4) (Nat.two_pow_pos _)
  have e2 : (2 : Nat) ^ (2 * n + 1) = 2 ^ (n + n) + 2 ^ (n + n) := by
    rw [show 2 * n + 1 = (n + n) + 1 by omega, Nat.pow_succ]
    omega
  rw [e2]
  omega
/-- what stays of the clearing of a table of m rows and w columns, entries below 2^b -/
structure PC (m w b k : Nat) (c : Cs) : Prop where
  len : c.R.length = m
  wid : ∀ r ∈ c.R, r.length = w
  st : c.steps ≤ k
  sm_ : c.steps ≤ m
  cn : c.corner ≠ 0
  cb : Bdz ((b + 1) * 2 ^ c.steps - 1) c.corner
  eb : ∀ r ∈ c.R, ∀ y ∈ r, Bdz ((b + 1) * 2 ^ c.steps - 1) y
  sn : c.sign = 1 ∨ c.sign = -1
theorem bits_succ (b s : Nat) : 2 * ((b + 1) * 2 ^ s - 1) + 1 = (b + 1) * 2 ^ (s + 1) - 1 := by
  have h : 0 < (b + 1) * 2 ^ s := Nat.mul_pos (by omega) (Nat.two_pow_pos _)
  rw [Nat.pow_succ, ← Nat.mul_assoc]
  omega
theorem bdz_mono {a b : Nat} {i : Int} (h : Bdz a i) (hab : a ≤ b) : Bdz b i := Nat.lt_of_lt_of_le h (Nat.pow_le_pow_right (by decide) hab)
theorem PC.row {m w b k : Nat} {c : Cs} (h : PC m w b k c) {i : Nat} (hi : i < m) : (c.R[i]?.getD []) ∈ c.R ∧ (c.R[i]?.getD []).length = w := by
  have hl := h.len
  rw [List.getElem?_eq_getElem (by omega)]
  exact ⟨List.getElem_mem _, h.wid _ (List.getElem_mem _)⟩
theorem PC.entry {m w b k : Nat} {c : Cs} (h : PC m w b k c) {i j : Nat} (hi : i < m) (hj : j < w) : Bdz ((b + 1) * 2 ^ c.steps - 1) (at_ c.R i j) := by
  obtain ⟨h1, h2⟩ := h.row hi
  unfold at_
  rw [List.getElem?_eq_getElem (by omega)]
  exact h.eb _ h1 _ (List.getElem_mem _)
theorem others_mem {R : List (List Int)} {s t : Nat} (hs : s < R.length) {r : List Int} (hr : r ∈ others R s t) : r ∈ R := by
  unfold others at hr
  obtain ⟨i, hi, rfl⟩ := List.mem_map.mp hr
  have hi := List.mem_range.mp hi
  split
  · rw [List.getElem?_eq_getElem hs]
    exact List.getElem_mem _
  · rw [List.getElem?_eq_getElem (by omega)]
    exact List.getElem_mem _
theorem pc_step {m w b k : Nat} {c : Cs} (h : PC m w b k c) (hk : k < w) : PC m w b (k + 1) (cstep c k) := by
  have hl := h.len
  cases e : found c k with
  | nil =>
    have ec : cstep c k = c := by unfold cstep; rw [e]
    rw [ec]
    exact ⟨h.len, h.wid, by have := h.st; omega, h.sm_, h.cn, h.cb, h.eb, h.sn⟩
  | cons i r =>
    obtain ⟨hi, hne⟩ := found_mem e
    have ec : cstep c k = ⟨stepR c.R c.steps (c.steps + i) k c.corner, if i = 0 then c.sign else -c.sign, at_ c.R (c.steps + i) k, c.steps + 1⟩ := by unfold cstep; rw [e]
    rw [ec]
    have hb := bits_succ b c.steps
    have le : (b + 1) * 2 ^ c.steps - 1 ≤ (b + 1) * 2 ^ (c.steps + 1) - 1 := by omega
    have ld := h.row (i := c.steps + i) (by omega)
    have crw : ∀ r ∈ c.R, (crow r (c.R[c.steps + i]?.getD []) k c.corner).length = w ∧ ∀ y ∈ crow r (c.R[c.steps + i]?.getD []) k c.corner, Bdz ((b + 1) * 2 ^ (c.steps + 1) - 1) y := fun r hr => by
      have lr := h.wid r hr
      refine ⟨by unfold crow; rw [List.length_zipWith, lr, ld.2]; omega, fun y hy => ?_⟩
      unfold crow at hy
      obtain ⟨j, hj⟩ := List.mem_iff_getElem?.mp hy
      have hj2 : j < w := by
        have := (List.getElem?_eq_some_iff.mp hj).1
        rw [List.length_zipWith, lr, ld.2] at this
        omega
      rw [List.getElem?_zipWith, List.getElem?_eq_getElem (show j < r.length by omega), List.getElem?_eq_getElem (show j < (c.R[c.steps + i]?.getD []).length by omega)] at hj
      cases hj
      rw [← hb]
      refine crow_one (h.eb r hr _ (List.getElem_mem _)) ?_ ?_ (h.eb _ ld.1 _ (List.getElem_mem _))
      · rw [List.getElem?_eq_getElem (show k < (c.R[c.steps + i]?.getD []).length by omega)]
        exact h.eb _ ld.1 _ (List.getElem_mem _)
      · rw [List.getElem?_eq_getElem (show k < r.length by omega)]
        exact h.eb _ hr _ (List.getElem_mem _)
    have cases_ : ∀ r ∈ stepR c.R c.steps (c.steps + i) k c.corner, r.length = w ∧ ∀ y ∈ r, Bdz ((b + 1) * 2 ^ (c.steps + 1) - 1) y := fun r hr => by
      unfold stepR at hr
      rcases List.mem_append.mp hr with hr | hr
      · rcases List.mem_append.mp hr with hr | hr
        · have hr := List.mem_of_mem_take hr
          exact ⟨h.wid r hr, fun y hy => bdz_mono (h.eb r hr y hy) le⟩
        · rw [List.mem_singleton.mp hr]
          exact ⟨ld.2, fun y hy => bdz_mono (h.eb _ ld.1 y hy) le⟩
      · obtain ⟨r', hr', rfl⟩ := List.mem_map.mp hr
        exact crw r' (others_mem (by omega) hr')
    refine ⟨?_, fun r hr => (cases_ r hr).1, by have := h.st; show c.steps + 1 ≤ k + 1; omega, by show c.steps + 1 ≤ m; omega, hne, bdz_mono (h.entry (by omega) hk) le, fun r hr => (cases_ r hr).2, ?_⟩
    · show (stepR c.R c.steps (c.steps + i) k c.corner).length = m
      unfold stepR others
      rw [List.length_append, List.length_append, List.length_take, List.length_map, List.length_map, List.length_range, List.length_singleton]
      omega
    · show (if i = 0 then c.sign else -c.sign) = 1 ∨ (if i = 0 then c.sign else -c.sign) = -1
      have := h.sn
      split <;> omega
theorem pc_all {m w b : Nat} {R : List (List Int)} (hl : R.length = m) (hw : ∀ r ∈ R, r.length = w) (hb : ∀ r ∈ R, ∀ y ∈ r, Bdz b y) (h0 : 0 < b) : ∀ k, k ≤ w → PC m w b k (clears R k)
  | 0, _ => ⟨hl, hw, Nat.le_refl _, Nat.zero_le _, (by decide : (1 : Int) ≠ 0), by
    show (1 : Int).natAbs < 2 ^ ((b + 1) * 2 ^ 0 - 1)
    exact Nat.one_lt_two_pow (by rw [Nat.pow_zero]; omega), fun r hr y hy => bdz_mono (hb r hr y hy) (by show b ≤ (b + 1) * 2 ^ 0 - 1; rw [Nat.pow_zero]; omega), .inl rfl⟩
  | k + 1, h => pc_step (pc_all hl hw hb h0 k (by omega)) (by omega)
end Dt
/-! pivoting, entry by entry -/
namespace Dt
def pvAt (R : List (List Int)) (i j a b : Nat) : Int :=
  if a = i then (if b = j then at_ R i j else at_ R i j * at_ R i b) else if b = j then -(at_ R i j) * at_ R a j else at_ R a b - at_ R i j * at_ R a j * at_ R i b
def pivT (R : List (List Int)) (m w i j : Nat) : List (List Int) := (List.range m).map fun a => (List.range w).map fun b => pvAt R i j a b
theorem pivT_len {R : List (List Int)} {m w i j : Nat} : (pivT R m w i j).length = m := by unfold pivT; rw [List.length_map, List.length_range]
theorem pivT_wid {R : List (List Int)} {m w i j : Nat} : ∀ r ∈ pivT R m w i j, r.length = w := by
  intro r hr
  unfold pivT at hr
  obtain ⟨a, _, rfl⟩ := List.mem_map.mp hr
  rw [List.length_map, List.length_range]
theorem tab_at (f : Nat → Nat → Int) {m w a b : Nat} (ha : a < m) (hb : b < w) : at_ ((List.range m).map fun a => (List.range w).map fun b => f a b) a b = f a b := by
  unfold at_
  rw [List.getElem?_map, List.getElem?_range ha]
  show ((List.range w).map fun b => f a b)[b]?.getD 0 = _
  rw [List.getElem?_map, List.getElem?_range hb]
  rfl
theorem pivT_at {R : List (List Int)} {m w i j a b : Nat} (ha : a < m) (hb : b < w) : at_ (pivT R m w i j) a b = pvAt R i j a b := tab_at (pvAt R i j) ha hb
theorem tab_eq {R : List (List Int)} {m w : Nat} (hl : R.length = m) (hw : ∀ r ∈ R, r.length = w) : ((List.range m).map fun a => (List.range w).map fun b => at_ R a b) = R := by
  refine List.ext_getElem (by rw [List.length_map, List.length_range, hl]) fun a h1 h2 => ?_
  rw [List.getElem_map, List.getElem_range]
  have hr := hw _ (List.getElem_mem h2)
  refine List.ext_getElem (by rw [List.length_map, List.length_range, hr]) fun b h3 h4 => ?_
  rw [List.getElem_map, List.getElem_range]
  unfold at_
  rw [List.getElem?_eq_getElem h2]
  show R[a][b]?.getD 0 = _
  rw [List.getElem?_eq_getElem h4]
  rfl
theorem piv_two {R : List (List Int)} {m w i j a b : Nat} (ha : a < m) (hb : b < w) (hi : i < m) (hj : j < w) (p : at_ R i j = 1 ∨ at_ R i j = -1) : pvAt (pivT R m w i j) i j a b = at_ R a b := by
  have eij : at_ (pivT R m w i j) i j = at_ R i j := by
    rw [pivT_at hi hj]
    unfold pvAt
    rw [if_pos rfl, if_pos rfl]
  unfold pvAt
  rw [eij]
  by_cases c : a = i
  · subst c
    rw [if_pos rfl]
    by_cases d : b = j
    · subst d
      rw [if_pos rfl]
    · rw [if_neg d, pivT_at hi hb]
      unfold pvAt
      rw [if_pos rfl, if_neg d]
      rcases p with p | p <;> rw [p] <;> grind
  · rw [if_neg c]
    have ea : at_ (pivT R m w i j) a j = -(at_ R i j) * at_ R a j := by
      rw [pivT_at ha hj]
      unfold pvAt
      rw [if_neg c, if_pos rfl]
    by_cases d : b = j
    · subst d
      rw [if_pos rfl, ea]
      rcases p with p | p <;> rw [p] <;> grind
    · rw [if_neg d, ea, pivT_at ha hb, pivT_at hi hb]
      unfold pvAt
      rw [if_neg c, if_neg d, if_pos rfl, if_neg d]
      rcases p with p | p <;> rw [p] <;> grind
theorem pivT_twice {R : List (List Int)} {m w i j : Nat} (hl : R.length = m) (hw : ∀ r ∈ R, r.length = w) (hi : i < m) (hj : j < w) (p : at_ R i j = 1 ∨ at_ R i j = -1) : pivT (pivT R m w i j) m w i j = R := by
  refine Eq.trans ?_ (tab_eq hl hw)
  show (List.range m).map _ = _
  refine List.map_congr_left fun a ha => List.map_congr_left fun b hb => ?_
  exact piv_two (List.mem_range.mp ha) (List.mem_range.mp hb) hi hj p
/-- without a row and a column -/
def restT (R : List (List Int)) (i j : Nat) : List (List Int) := (R.take i ++ R.drop (i + 1)).map fun r => r.take j ++ r.drop (j + 1)
theorem out_get {α : Type} (l : List α) (i k : Nat) (h : i < l.length) : (l.take i ++ l.drop (i + 1))[k]? = l[skip i k]? := by
  by_cases c : k < i
  · rw [List.getElem?_append_left (by rw [List.length_take]; omega), List.getElem?_take_of_lt c, skip_lt c]
  · rw [List.getElem?_append_right (by rw [List.length_take]; omega), List.getElem?_drop, skip_ge (by omega), List.length_take]
    congr 1
    omega
theorem rest_at {R : List (List Int)} {m w i j : Nat} (hl : R.length = m) (hw : ∀ r ∈ R, r.length = w) (hi : i < m) (hj : j < w) (a b : Nat) (ha : skip i a < m) : at_ (restT R i j) a b = at_ R (skip i a) (skip j b) := by
  unfold at_ restT
  rw [List.getElem?_map, out_get R i a (by omega)]
  have : skip i a < R.length := by omega
  rw [List.getElem?_eq_getElem this]
  show (R[skip i a].take j ++ R[skip i a].drop (j + 1))[b]?.getD 0 = _
  rw [out_get _ j b (by rw [hw _ (List.getElem_mem this)]; exact hj)]
  rfl
theorem rest_len {R : List (List Int)} {m i j : Nat} (hl : R.length = m) (hi : i < m) : (restT R i j).length = m - 1 := by
  unfold restT
  rw [List.length_map, List.length_append, List.length_take, List.length_drop]
  omega
theorem rest_wid {R : List (List Int)} {w i j : Nat} (hw : ∀ r ∈ R, r.length = w) (hj : j < w) : ∀ r ∈ restT R i j, r.length = w - 1 := by
  intro r hr
  unfold restT at hr
  obtain ⟨r', h', rfl⟩ := List.mem_map.mp hr
  have hm : r' ∈ R := by
    rcases List.mem_append.mp h' with h | h
    · exact List.mem_of_mem_take h
    · exact List.mem_of_mem_drop h
  have := hw _ hm
  rw [List.length_append, List.length_take, List.length_drop]
  omega
theorem rest_mem {R : List (List Int)} {i j : Nat} {P : Int → Prop} (h : ∀ r ∈ R, ∀ y ∈ r, P y) : ∀ r ∈ restT R i j, ∀ y ∈ r, P y := by
  intro r hr y hy
  unfold restT at hr
  obtain ⟨r', h', rfl⟩ := List.mem_map.mp hr
  have hm : r' ∈ R := by
    rcases List.mem_append.mp h' with h | h
    · exact List.mem_of_mem_take h
    · exact List.mem_of_mem_drop h
  refine h r' hm y ?_
  rcases List.mem_append.mp hy with h | h
  · exact List.mem_of_mem_take h
  · exact List.mem_of_mem_drop h
theorem sg_pm (n : Nat) : (n % 2 = 0 ∧ sg n = 1) ∨ (n % 2 = 1 ∧ sg n = -1) := by
  induction n with
  | zero => exact .inl ⟨rfl, rfl⟩
  | succ n ih =>
    rw [sg_succ]
    rcases ih with ⟨h, e⟩ | ⟨h, e⟩
    · exact .inr ⟨by omega, by rw [e]⟩
    · exact .inl ⟨by omega, by rw [e]; rfl⟩
/-- the sign at a row and a column -/
def sgn2 (i j : Nat) : Int := if (i + j) % 2 = 0 then 1 else -1
theorem sgn2_eq (i j : Nat) : ((sgn2 i j : Int) : Rat) = sg i * sg j := by
  unfold sgn2
  rcases sg_pm i with ⟨h, e⟩ | ⟨h, e⟩ <;> rcases sg_pm j with ⟨g, f⟩ | ⟨g, f⟩ <;> rw [e, f]
  · rw [if_pos (by omega)]; simp
  · rw [if_neg (by omega)]; simp
  · rw [if_neg (by omega)]; simp
  · rw [if_pos (by omega)]; simp; grind
theorem piv_det {R : List (List Int)} {n i j : Nat} (hl : R.length = n + 1) (hw : ∀ r ∈ R, r.length = n + 1) (hi : i < n + 1) (hj : j < n + 1) (p : at_ R i j = 1 ∨ at_ R i j = -1) :
    det (n + 1) (mx R) = ((sgn2 i j * at_ R i j : Int) : Rat) * det n (mx (restT (pivT R (n + 1) (n + 1) i j) i j)) := by
  have hp : mx R i j ≠ 0 := by
    show ((at_ R i j : Int) : Rat) ≠ 0
    rcases p with p | p <;> rw [p] <;> decide
  rw [det_piv hi hj hp, Rat.intCast_mul, sgn2_eq]
  have e : det n (fun a b => mx R (skip i a) (skip j b) - mx R (skip i a) j / mx R i j * mx R i (skip j b)) = det n (mx (restT (pivT R (n + 1) (n + 1) i j) i j)) := by
    refine det_congr fun a b ha hb => ?_
    have ka : skip i a < n + 1 := by unfold skip; split <;> omega
    have kb : skip j b < n + 1 := by unfold skip; split <;> omega
    have na : skip i a ≠ i := by unfold skip; split <;> omega
    have nb : skip j b ≠ j := by unfold skip; split <;> omega
    show _ = ((at_ _ a b : Int) : Rat)
    rw [rest_at pivT_len pivT_wid hi hj a b ka, pivT_at ka kb]
    unfold pvAt
    rw [if_neg na, if_neg nb, Rat.intCast_sub, Rat.intCast_mul, Rat.intCast_mul]
    show ((at_ R (skip i a) (skip j b) : Int) : Rat) - ((at_ R (skip i a) j : Int) : Rat) / ((at_ R i j : Int) : Rat) * ((at_ R i (skip j b) : Int) : Rat) = _
    rcases p with p | p <;> rw [p] <;> simp only [Rat.div_def] <;> grind
  rw [e]
  rfl
end Dt
/-! determinants of turned squares and of products -/
namespace Dt
theorem sm_shift {f : Nat → Rat} : ∀ n : Nat, sm (n + 1) f = f 0 + sm n (fun j => f (j + 1))
  | 0 => by
    show sm 0 f + f 0 = f 0 + 0
    show 0 + f 0 = f 0 + 0
    grind
  | n + 1 => by
    show sm (n + 1) f + f (n + 1) = f 0 + (sm n (fun j => f (j + 1)) + f (n + 1))
    rw [sm_shift n]
    grind
theorem sm_mulr {f : Nat → Rat} (c : Rat) (n : Nat) : sm n (fun j => f j * c) = sm n f * c := by
  have : sm n (fun j => f j * c) = sm n (fun j => c * f j) := sm_congr fun j _ => Rat.mul_comm _ _
  rw [this, sm_mul, Rat.mul_comm]
theorem sg0 : sg 0 = 1 := rfl
theorem skip_succ (i a : Nat) : skip (i + 1) (a + 1) = skip i a + 1 := by
  unfold skip
  by_cases h : a < i
  · rw [if_pos h, if_pos (by omega)]
  · rw [if_neg h, if_neg (by omega)]
/-- along the first column -/
theorem det_first : ∀ {n : Nat} {M : Mx}, det (n + 1) M = sm (n + 1) fun i => sg i * M i 0 * det n (fun a b => M (skip i a) (b + 1))
  | 0, M => rfl
  | n + 1, M => by
    have L : det (n + 2) M = sm (n + 2) fun j => sg j * M 0 j * det (n + 1) (minor M j) := rfl
    rw [L, sm_shift (n + 1), sm_shift (n + 1)]
    have h0 : sg 0 * M 0 0 * det (n + 1) (minor M 0) = sg 0 * M 0 0 * det (n + 1) (fun a b => M (skip 0 a) (b + 1)) := by
      congr 1
    rw [h0]
    congr 1
    have l1 : sm (n + 1) (fun j => sg (j + 1) * M 0 (j + 1) * det (n + 1) (minor M (j + 1))) = sm (n + 1) fun j => sm (n + 1) fun i => -(sg j * sg i) * (M 0 (j + 1) * M (i + 1) 0) * det n (fun a b => M (skip i a + 1) (skip j b + 1)) := sm_congr fun j hj => by
      rw [det_first (n := n) (M := minor M (j + 1)), ← sm_mul]
      refine sm_congr fun i hi => ?_
      have e1 : (minor M (j + 1)) i 0 = M (i + 1) 0 := by
        show M (i + 1) (skip (j + 1) 0) = _
        rw [skip_lt (by omega)]
      have e2 : det n (fun a b => (minor M (j + 1)) (skip i a) (b + 1)) = det n (fun a b => M (skip i a + 1) (skip j b + 1)) := det_congr fun a b _ _ => by
        show M (skip i a + 1) (skip (j + 1) (b + 1)) = _
        rw [skip_succ]
      rw [e1, e2, sg_succ]
      grind
    have l2 : sm (n + 1) (fun i => sg (i + 1) * M (i + 1) 0 * det (n + 1) (fun a b => M (skip (i + 1) a) (b + 1))) = sm (n + 1) fun i => sm (n + 1) fun j => -(sg j * sg i) * (M 0 (j + 1) * M (i + 1) 0) * det n (fun a b => M (skip i a + 1) (skip j b + 1)) := sm_congr fun i hi => by
      have e : det (n + 1) (fun a b => M (skip (i + 1) a) (b + 1)) = sm (n + 1) fun j => sg j * M 0 (j + 1) * det n (fun a b => M (skip i a + 1) (skip j b + 1)) := by
        show sm (n + 1) _ = _
        refine sm_congr fun j hj => ?_
        have e2 : det n (minor (fun a b => M (skip (i + 1) a) (b + 1)) j) = det n (fun a b => M (skip i a + 1) (skip j b + 1)) := det_congr fun a b _ _ => by
          show M (skip (i + 1) (a + 1)) (skip j b + 1) = _
          rw [skip_succ]
        rw [e2]
        show sg j * M (skip (i + 1) 0) (j + 1) * _ = _
        rw [skip_lt (show 0 < i + 1 by omega)]
      rw [e, ← sm_mul]
      refine sm_congr fun j hj => ?_
      rw [sg_succ]
      grind
    rw [l1, l2, sm_comm]
theorem det_T : ∀ {n : Nat} {M : Mx}, det n (fun i j => M j i) = det n M
  | 0, _ => rfl
  | n + 1, M => by
    rw [det_first (M := M)]
    show sm (n + 1) _ = _
    refine sm_congr fun j hj => ?_
    show sg j * M j 0 * det n (minor (fun i j => M j i) j) = _
    have e : det n (minor (fun i j => M j i) j) = det n (fun a b => M (skip j a) (b + 1)) := det_T (n := n) (M := fun a b => M (skip j a) (b + 1))
    rw [e]
def adds (k : Nat) (c : Nat → Rat) (M : Mx) : Mx := fun i j => if 0 < i ∧ i < k then M i j + c i * M 0 j else M i j
theorem det_adds {n : Nat} {c : Nat → Rat} {M : Mx} : ∀ k, k ≤ n → det n (adds k c M) = det n M
  | 0, _ => det_congr fun i j _ _ => if_neg (by omega)
  | k + 1, h => by
    have ih := det_adds (n := n) (c := c) (M := M) k (by omega)
    by_cases z : k = 0
    · subst z
      rw [← ih]
      exact det_congr fun i j _ _ => by
        unfold adds
        rw [if_neg (by omega), if_neg (by omega)]
    · rw [← ih, ← det_ad (r := k) (p := 0) (c := c k) (M := adds k c M) (by omega) (by omega) (fun z2 => z z2.symm)]
      exact det_congr fun i j _ _ => by
        unfold ad adds
        by_cases e : i = k
        · subst e
          rw [if_pos ⟨by omega, by omega⟩, if_pos rfl, if_neg (by omega), if_neg (by omega)]
        · rw [if_neg e]
          by_cases g : 0 < i ∧ i < k
          · rw [if_pos g, if_pos ⟨g.1, by omega⟩]
          · rw [if_neg g, if_neg (by omega)]
def mulM (m : Nat) (A B : Mx) : Mx := fun i j => sm m fun k => A i k * B k j
theorem det_mul : ∀ {n : Nat} {A B : Mx}, det n (mulM n A B) = det n A * det n B
  | 0, _, _ => by
    show (1 : Rat) = 1 * 1
    grind
  | n + 1, A, B => by
    -- each row of B ahead of the rest
    let P : Nat → Mx := fun k i j => if i = 0 then B k j else mulM (n + 1) A B i j
    have s1 : det (n + 1) (mulM (n + 1) A B) = sm (n + 1) fun k => A 0 k * det (n + 1) (P k) := by
      have e : ∀ k, A 0 k * det (n + 1) (P k) = sm (n + 1) fun j => sg j * (A 0 k * B k j) * det n (minor (mulM (n + 1) A B) j) := fun k => by
        show A 0 k * sm (n + 1) (fun j => sg j * (P k) 0 j * det n (minor (P k) j)) = _
        rw [← sm_mul]
        refine sm_congr fun j hj => ?_
        have e1 : (P k) 0 j = B k j := if_pos rfl
        have e2 : det n (minor (P k) j) = det n (minor (mulM (n + 1) A B) j) := det_congr fun a b _ _ => by
          show P k (a + 1) (skip j b) = mulM (n + 1) A B (a + 1) (skip j b)
          exact if_neg (by omega)
        rw [e1, e2]
        grind
      rw [sm_congr (fun k _ => e k), sm_comm]
      show sm (n + 1) _ = _
      refine sm_congr fun j hj => ?_
      rw [sm_mulr]
      congr 1
      show sg j * sm (n + 1) (fun k => A 0 k * B k j) = _
      rw [← sm_mul]
    have s2 : ∀ k, k < n + 1 → det (n + 1) (P k) = det n (minor A k) * (sg k * det (n + 1) B) := fun k hk => by
      rw [← det_adds (c := fun i => -(A i k)) (M := P k) (n + 1) (Nat.le_refl _), ← det_top (M := B) hk]
      show sm (n + 1) _ = _ * sm (n + 1) _
      rw [← sm_mul]
      refine sm_congr fun j hj => ?_
      have e0 : (adds (n + 1) (fun i => -(A i k)) (P k)) 0 j = B k j := by
        unfold adds
        rw [if_neg (by omega)]
        exact if_pos rfl
      have e1 : (top k B) 0 j = B k j := rfl
      have e2 : det n (minor (top k B) j) = det n (fun a b => B (skip k a) (skip j b)) := det_congr fun a b _ _ => by
        show B (if a + 1 = 0 then k else skip k (a + 1 - 1)) (skip j b) = _
        rw [if_neg (by omega), Nat.add_sub_cancel]
      have e3 : det n (minor (adds (n + 1) (fun i => -(A i k)) (P k)) j) = det n (mulM n (minor A k) (fun a b => B (skip k a) (skip j b))) := det_congr fun a b ha hb => by
        show (if 0 < a + 1 ∧ a + 1 < n + 1 then P k (a + 1) (skip j b) + -(A (a + 1) k) * P k 0 (skip j b) else P k (a + 1) (skip j b)) = sm n fun l => A (a + 1) (skip k l) * B (skip k l) (skip j b)
        rw [if_pos ⟨by omega, by omega⟩, sm_skip (g := fun l => A (a + 1) l * B l (skip j b)) (by omega)]
        have p1 : P k (a + 1) (skip j b) = sm (n + 1) fun l => A (a + 1) l * B l (skip j b) := if_neg (by omega)
        have p0 : P k 0 (skip j b) = B k (skip j b) := if_pos rfl
        rw [p1, p0]
        have one : ∀ (m : Nat) (x : Rat), k < m → sm m (fun l => if l = k then x else 0) = x := fun m x => by
          induction m with
          | zero => intro h; omega
          | succ m ih =>
            intro hm
            show sm m (fun l => if l = k then x else 0) + (if m = k then x else 0) = x
            by_cases g : m = k
            · have : sm m (fun l => if l = k then x else 0) = sm m fun _ => 0 := sm_congr fun l hl => if_neg (by omega)
              rw [if_pos g, this, sm_zero]
              grind
            · rw [if_neg g, ih (by omega)]
              grind
        have o := one (n + 1) (-(A (a + 1) k) * B k (skip j b)) hk
        rw [← o, ← sm_add]
        refine sm_congr fun l hl => ?_
        by_cases g : l = k
        · subst g
          rw [if_pos rfl, if_pos rfl]
          grind
        · rw [if_neg g, if_neg g]
          grind
      rw [e0, e1, e2, e3, det_mul (n := n)]
      grind
    rw [s1]
    show _ = sm (n + 1) (fun k => sg k * A 0 k * det n (minor A k)) * det (n + 1) B
    rw [← sm_mulr]
    refine sm_congr fun k hk => ?_
    rw [s2 k hk]
    grind
theorem det_scale {n r : Nat} {c : Rat} {M N : Mx} (hr : r < n) (h1 : ∀ j, j < n → N r j = c * M r j) (h2 : ∀ i j, i ≠ r → i < n → j < n → N i j = M i j) : det n N = c * det n M := by
  have h := det_lin (c := c - 1) (r := r) (n := n) (M := N) (A := M) (B := M) hr (fun j hj => by rw [h1 j hj]; grind) (fun i j ne hi hj => ⟨h2 i j ne hi hj, h2 i j ne hi hj⟩)
  rw [h]
  grind
theorem det_scalec {n r : Nat} {c : Rat} {M N : Mx} (hr : r < n) (h1 : ∀ i, i < n → N i r = c * M i r) (h2 : ∀ i j, j ≠ r → i < n → j < n → N i j = M i j) : det n N = c * det n M := by
  rw [← det_T (M := N), ← det_T (M := M)]
  exact det_scale hr (fun j hj => h1 j hj) (fun i j ne hi hj => h2 j i ne hj hi)
end Dt
/-! what determinants keep, of tables as lists -/
namespace Dt
def detI (n : Nat) (R : List (List Int)) : Int := if (clears R n).steps = n then (clears R n).sign * (clears R n).corner else 0
theorem detI_eq {n : Nat} {R : List (List Int)} (h : Sq n R) : ((detI n R : Int) : Rat) = det n (mx R) := clears_det h
theorem detI_of {n : Nat} {R S : List (List Int)} {c : Int} (h : Sq n R) (g : Sq n S) (e : det n (mx S) = (c : Rat) * det n (mx R)) : detI n S = c * detI n R := by
  apply Rat.intCast_inj.mp
  rw [detI_eq g, Rat.intCast_mul, detI_eq h, e]
theorem sum_range (f : Nat → Int) : ∀ n : Nat, ((((List.range n).map f).sum : Int) : Rat) = sm n fun k => ((f k : Int) : Rat)
  | 0 => rfl
  | n + 1 => by
    rw [List.range_succ, List.map_append, List.sum_append, Rat.intCast_add, sum_range f n]
    show _ + (((f n + 0 : Int)) : Rat) = _
    rw [Int.add_zero]
    rfl
theorem detI_turn {n : Nat} {R S : List (List Int)} (h : Sq n R) (g : Sq n S) (e : ∀ a b, a < n → b < n → at_ S b a = at_ R a b) : detI n S = detI n R := by
  apply Rat.intCast_inj.mp
  rw [detI_eq g, detI_eq h, ← det_T]
  exact det_congr fun a b ha hb => by
    show ((at_ S b a : Int) : Rat) = ((at_ R a b : Int) : Rat)
    rw [e a b ha hb]
theorem detI_mul {n : Nat} {A B C : List (List Int)} (hA : Sq n A) (hB : Sq n B) (hC : Sq n C) (e : ∀ a b, a < n → b < n → at_ C a b = ((List.range n).map fun k => at_ A a k * at_ B k b).sum) : detI n C = detI n A * detI n B := by
  apply Rat.intCast_inj.mp
  rw [detI_eq hC, Rat.intCast_mul, detI_eq hA, detI_eq hB, ← det_mul]
  refine det_congr fun a b ha hb => ?_
  show ((at_ C a b : Int) : Rat) = sm n fun k => ((at_ A a k : Int) : Rat) * ((at_ B k b : Int) : Rat)
  rw [e a b ha hb, sum_range]
  exact sm_congr fun k _ => Rat.intCast_mul _ _
theorem detI_row {n r : Nat} {R S : List (List Int)} {c : Int} (h : Sq n R) (g : Sq n S) (hr : r < n) (e1 : ∀ b, b < n → at_ S r b = c * at_ R r b) (e2 : ∀ a b, a ≠ r → a < n → b < n → at_ S a b = at_ R a b) : detI n S = c * detI n R := detI_of h g (det_scale hr (fun b hb => by
    show ((at_ S r b : Int) : Rat) = (c : Rat) * ((at_ R r b : Int) : Rat)
    rw [e1 b hb, Rat.intCast_mul]) (fun a b ne ha hb => by
    show ((at_ S a b : Int) : Rat) = ((at_ R a b : Int) : Rat)
    rw [e2 a b ne ha hb]))
theorem detI_col {n r : Nat} {R S : List (List Int)} {c : Int} (h : Sq n R) (g : Sq n S) (hr : r < n) (e1 : ∀ a, a < n → at_ S a r = c * at_ R a r) (e2 : ∀ a b, b ≠ r → a < n → b < n → at_ S a b = at_ R a b) : detI n S = c * detI n R := detI_of h g (det_scalec hr (fun a ha => by
    show ((at_ S a r : Int) : Rat) = (c : Rat) * ((at_ R a r : Int) : Rat)
    rw [e1 a ha, Rat.intCast_mul]) (fun a b ne ha hb => by
    show ((at_ S a b : Int) : Rat) = ((at_ R a b : Int) : Rat)
    rw [e2 a b ne ha hb]))
theorem detI_add {n r p : Nat} {R S : List (List Int)} {c : Int} (h : Sq n R) (g : Sq n S) (hr : r < n) (hp : p < n) (ne : p ≠ r) (e1 : ∀ b, b < n → at_ S r b = at_ R r b + c * at_ R p b) (e2 : ∀ a b, a ≠ r → a < n → b < n → at_ S a b = at_ R a b) : detI n S = detI n R := by
  apply Rat.intCast_inj.mp
  rw [detI_eq g, detI_eq h, ← det_ad (c := (c : Rat)) (M := mx R) hr hp ne]
  refine det_congr fun a b ha hb => ?_
  unfold ad
  by_cases z : a = r
  · subst z
    rw [if_pos rfl]
    show ((at_ S a b : Int) : Rat) = ((at_ R a b : Int) : Rat) + (c : Rat) * ((at_ R p b : Int) : Rat)
    rw [e1 b hb, Rat.intCast_add, Rat.intCast_mul]
  · rw [if_neg z]
    show ((at_ S a b : Int) : Rat) = ((at_ R a b : Int) : Rat)
    rw [e2 a b z ha hb]
theorem detI_swap {n r t : Nat} {R S : List (List Int)} (h : Sq n R) (g : Sq n S) (hr : r < n) (ht : t < n) (ne : r ≠ t) (e : ∀ a b, a < n → b < n → at_ S a b = at_ R (if a = r then t else if a = t then r else a) b) : detI n S = 0 - detI n R := by
  apply Rat.intCast_inj.mp
  rw [detI_eq g, Rat.intCast_sub, detI_eq h]
  have x := det_xch (M := mx R) hr ht ne
  have : det n (mx S) = det n (xch r t (mx R)) := det_congr fun a b ha hb => by
    show ((at_ S a b : Int) : Rat) = ((at_ R (if a = r then t else if a = t then r else a) b : Int) : Rat)
    rw [e a b ha hb]
  rw [this, x]
  show _ = (0 : Rat) - _
  grind
theorem at_set {R : List (List Int)} {r : Nat} {x : List Int} (hr : r < R.length) (a b : Nat) : at_ (R.set r x) a b = if a = r then x[b]?.getD 0 else at_ R a b := by
  unfold at_
  by_cases h : a = r
  · subst h
    rw [if_pos rfl, List.getElem?_set_self hr]
    rfl
  · rw [if_neg h, List.getElem?_set_ne (fun z => h z.symm)]
end Dt
/-! picks of so many of the first numbers, the least ahead -/
namespace Cb
/-- all rising lists of so many of lo .. n - 1, the least ahead -/
def C (n : Nat) : Nat → Nat → List (List Nat)
  | 0, _ => [[]]
  | r + 1, lo => (List.range' lo (n - lo)).flatMap fun i => (C n r (i + 1)).map (i :: ·)
theorem C_step (n r lo : Nat) (h : lo < n) : C n (r + 1) lo = (C n r (lo + 1)).map (lo :: ·) ++ C n (r + 1) (lo + 1) := by
  have e : ∀ m, C n (r + 1) m = (List.range' m (n - m)).flatMap fun i => (C n r (i + 1)).map (i :: ·) := fun m => rfl
  obtain ⟨k, hk⟩ : ∃ k, n - lo = k + 1 := ⟨n - lo - 1, by omega⟩
  have h2 : n - (lo + 1) = k := by omega
  rw [e, e, hk, h2, List.range'_succ, List.flatMap_cons]
theorem C_end (n r lo : Nat) (h : n ≤ lo) : C n (r + 1) lo = [] := by
  unfold C
  rw [show n - lo = 0 by omega]
  rfl
/-- the next one, as the table's own recursion has it -/
def nxt (n : Nat) : List Nat → Option (List Nat)
  | [] => none
  | a :: l => match nxt n l with
    | some m => some (a :: m)
    | none => if a != n - (l.length + 1) then some (List.range' (a + 1) (l.length + 1)) else none
/-- the next one, as the iterator finds it -/
def step (n : Nat) (indices : List Nat) : Option (List Nat) :=
  let r := indices.length
  match (List.range r).reverse.find? fun i => indices.getD i 0 != i + n - r with
  | none => none
  | some i => some (indices.take i ++ (List.range (r - i)).map (indices.getD i 0 + 1 + ·))
theorem step_nxt (n : Nat) : ∀ l : List Nat, step n l = nxt n l
  | [] => rfl
  | a :: l => by
    have ih := step_nxt n l
    have e1 : (List.range (l.length + 1)).reverse = (List.range l.length).reverse.map (· + 1) ++ [0] := by
      rw [List.range_succ_eq_map, List.reverse_cons, List.map_reverse]
    have e2 : (fun i => (a :: l).getD i 0 != i + n - (l.length + 1)) ∘ (· + 1) = fun i => l.getD i 0 != i + n - l.length := by
      funext i
      show (l.getD i 0 != i + 1 + n - (l.length + 1)) = _
      rw [show i + 1 + n - (l.length + 1) = i + n - l.length by omega]
    unfold step nxt
    rw [← ih]
    unfold step
    simp only [List.length_cons]
    rw [e1, List.find?_append, List.find?_map, e2]
    cases h : List.find? (fun i => l.getD i 0 != i + n - l.length) (List.range l.length).reverse with
    | some i =>
      simp only [Option.map_some, Option.some_or, List.take_succ_cons, List.getD_cons_succ, List.cons_append]
      rw [show l.length + 1 - (i + 1) = l.length - i by omega]
    | none =>
      simp only [Option.map_none, Option.none_or]
      by_cases z : (a != n - (l.length + 1)) = true
      · have z2 : ((a :: l).getD 0 0 != 0 + n - (l.length + 1)) = true := by rw [Nat.zero_add]; exact z
        have z3 : List.find? (fun i => (a :: l).getD i 0 != i + n - (l.length + 1)) [0] = some 0 := List.find?_cons_of_pos (p := fun i => (a :: l).getD i 0 != i + n - (l.length + 1)) z2
        rw [z3, if_pos z]
        simp only [List.take_zero, List.nil_append, Nat.sub_zero]
        rw [List.range'_eq_map_range]
        rfl
      · have z2 : ¬ ((a :: l).getD 0 0 != 0 + n - (l.length + 1)) = true := by rw [Nat.zero_add]; exact z
        have z3 : List.find? (fun i => (a :: l).getD i 0 != i + n - (l.length + 1)) [0] = none := List.find?_cons_of_neg (p := fun i => (a :: l).getD i 0 != i + n - (l.length + 1)) z2
        rw [z3, if_neg z]
def Ok (n r lo : Nat) : Prop := (r + lo ≤ n → (C n r lo)[0]? = some (List.range' lo r)) ∧ (n < r + lo → lo ≤ n → C n r lo = []) ∧ ∀ i l, (C n r lo)[i]? = some l → l.length = r ∧ nxt n l = (C n r lo)[i + 1]?
theorem ok (n : Nat) : ∀ r d lo, lo + d = n → Ok n r lo
  | 0, d, lo, h => ⟨fun _ => rfl, fun h1 _ => by omega, fun i l hi => by
    cases i with
    | zero =>
      cases hi
      exact ⟨rfl, rfl⟩
    | succ i => cases i <;> cases hi⟩
  | r + 1, 0, lo, h => by
    have e : C n (r + 1) lo = [] := C_end n r lo (by omega)
    exact ⟨fun h1 => by omega, fun _ _ => e, fun i l hi => by rw [e] at hi; cases hi⟩
  | r + 1, d + 1, lo, h => by
    have hlo : lo < n := by omega
    have A := ok n r d (lo + 1) (by omega)
    have B := ok n (r + 1) d (lo + 1) (by omega)
    have e := C_step n r lo hlo
    refine ⟨fun h1 => ?_, fun h1 _ => ?_, fun i l hi => ?_⟩
    · rw [e, List.getElem?_append_left (by
        have := A.1 (by omega)
        have := (List.getElem?_eq_some_iff.mp this).1
        rwa [List.length_map]), List.getElem?_map, A.1 (by omega), List.range'_succ]
      rfl
    · rw [e, A.2.1 (by omega) (by omega), B.2.1 (by omega) (by omega)]
      rfl
    · rw [e] at hi ⊢
      by_cases c : i < ((C n r (lo + 1)).map (lo :: ·)).length
      · rw [List.getElem?_append_left c, List.getElem?_map] at hi
        obtain ⟨m, hm, rfl⟩ := Option.map_eq_some_iff.mp hi
        obtain ⟨l1, l2⟩ := A.2.2 i m hm
        refine ⟨by rw [List.length_cons, l1], ?_⟩
        unfold nxt
        rw [l2]
        by_cases c2 : i + 1 < ((C n r (lo + 1)).map (lo :: ·)).length
        · rw [List.getElem?_append_left c2, List.getElem?_map]
          rw [List.length_map] at c2
          rw [List.getElem?_eq_getElem c2]
          rfl
        · rw [List.getElem?_append_right (by omega)]
          rw [List.length_map] at c c2 ⊢
          rw [List.getElem?_eq_none (by omega), show i + 1 - (C n r (lo + 1)).length = 0 by omega]
          show (if lo != n - (m.length + 1) then some (List.range' (lo + 1) (m.length + 1)) else none) = _
          rw [l1]
          have ne : ¬ (n < r + (lo + 1)) := fun z => by
            rw [A.2.1 z (by omega)] at c
            cases c
          by_cases q : r + 1 + (lo + 1) ≤ n
          · rw [B.1 q, if_pos (by simp; omega)]
          · rw [B.2.1 (by omega) (by omega), if_neg (by simp; omega)]
            rfl
      · rw [List.getElem?_append_right (by omega)] at hi
        obtain ⟨l1, l2⟩ := B.2.2 _ l hi
        refine ⟨l1, ?_⟩
        rw [l2, List.getElem?_append_right (by omega), show i + 1 - ((C n r (lo + 1)).map (lo :: ·)).length = i - ((C n r (lo + 1)).map (lo :: ·)).length + 1 by omega]
/-- all picks of r of n places -/
def all (n r : Nat) : List (List Nat) := C n r 0
theorem all_none {n r : Nat} (h : n < r) : all n r = [] := (ok n r n 0 (by omega)).2.1 (by omega) (by omega)
theorem all_head {n r : Nat} (h : r ≤ n) : (all n r)[0]? = some (List.range r) := by
  rw [List.range_eq_range']
  exact (ok n r n 0 (by omega)).1 (by omega)
theorem all_next {n r i : Nat} {l : List Nat} (h : (all n r)[i]? = some l) : step n l = (all n r)[i + 1]? := by
  rw [step_nxt]
  exact ((ok n r n 0 (by omega)).2.2 i l h).2
theorem all_len {n r i : Nat} {l : List Nat} (h : (all n r)[i]? = some l) : l.length = r := ((ok n r n 0 (by omega)).2.2 i l h).1
/-- what is among them: the rising lists of so many places -/
theorem mem_C {n : Nat} : ∀ {r lo : Nat} {l : List Nat}, l ∈ C n r lo ↔ l.length = r ∧ l.Pairwise (· < ·) ∧ ∀ x ∈ l, lo ≤ x ∧ x < n
  | 0, lo, l => by
    show l ∈ [[]] ↔ _
    rw [List.mem_singleton]
    constructor
    · rintro rfl
      exact ⟨rfl, .nil, fun x hx => nomatch hx⟩
    · rintro ⟨h, _⟩
      exact List.length_eq_zero_iff.mp h
  | r + 1, lo, l => by
    unfold C
    rw [List.mem_flatMap]
    constructor
    · rintro ⟨i, hi, hl⟩
      obtain ⟨m, hm, rfl⟩ := List.mem_map.mp hl
      obtain ⟨a, b, c⟩ := mem_C.mp hm
      rw [List.mem_range'_1] at hi
      refine ⟨by rw [List.length_cons, a], .cons (fun y hy => ?_) b, fun x hx => ?_⟩
      · have := c y hy
        omega
      · rcases List.mem_cons.mp hx with rfl | hx
        · omega
        · have := c x hx
          omega
    · rintro ⟨a, b, c⟩
      cases l with
      | nil => simp at a
      | cons i m =>
        have ci := c i (List.mem_cons_self ..)
        refine ⟨i, by rw [List.mem_range'_1]; omega, List.mem_map.mpr ⟨m, mem_C.mpr ⟨by simpa using a, (List.pairwise_cons.mp b).2, fun x hx => ?_⟩, rfl⟩⟩
        have h1 := (List.pairwise_cons.mp b).1 x hx
        have h2 := c x (List.mem_cons_of_mem _ hx)
        omega
theorem mem_all {n r : Nat} {l : List Nat} : l ∈ all n r ↔ l.length = r ∧ l.Pairwise (· < ·) ∧ ∀ x ∈ l, x < n := by
  unfold all
  rw [mem_C]
  constructor
  · rintro ⟨a, b, c⟩
    exact ⟨a, b, fun x hx => (c x hx).2⟩
  · rintro ⟨a, b, c⟩
    exact ⟨a, b, fun x hx => ⟨Nat.zero_le _, c x hx⟩⟩
end Cb
/-! combinations(..): the facts of the type -/
namespace PySem
namespace F
theorem slot_comb_init : Slot "itertools.combinations" "__init__" "object.__init__" :=
  .of (owner := "object") (n := "__init__") (by rw [typeLookup_type, builtinLookup_eq_fast]; kernel_rfl) (by decide +kernel) (by decide +kernel) (by decide +kernel)
    (by first | exact .inl (by decide +kernel) | exact .inr (by decide +kernel)) (by rw [isSubtype_type]; kernel_rfl)
theorem slot_comb_next : Slot "itertools.combinations" "__next__" "itertools.combinations.__next__" :=
  .of (owner := "itertools.combinations") (n := "__next__") (by rw [typeLookup_type, builtinLookup_eq_fast]; kernel_rfl) (by decide +kernel) (by decide +kernel) (by decide +kernel)
    (by first | exact .inl (by decide +kernel) | exact .inr (by decide +kernel)) (by rw [isSubtype_type]; kernel_rfl)
theorem slot_comb_iter : Slot "itertools.combinations" "__iter__" "itertools.combinations.__iter__" :=
  .of (owner := "itertools.combinations") (n := "__iter__") (by rw [typeLookup_type, builtinLookup_eq_fast]; kernel_rfl) (by decide +kernel) (by decide +kernel) (by decide +kernel)
    (by first | exact .inl (by decide +kernel) | exact .inr (by decide +kernel)) (by rw [isSubtype_type]; kernel_rfl)
theorem owner_comb : Manifest.owners.lookup (String.ofList ['s', 'n', 'o', 'i', 't', 'a', 'n', 'i', 'b', 'm', 'o', 'c', '.', 's', 'l', 'o', 'o', 't', 'r', 'e', 't', 'i'].reverse) = some Manifest.sig_itertools_combinations := by kernel_rfl
theorem args_comb_next_1 (a : Value) : argsOk "itertools.combinations.__next__" ⟨[a], []⟩ := by
  unfold argsOk; rw [signature?_of (id := "itertools.combinations.__next__") (n := ['_', '_', 't', 'x', 'e', 'n', '_', '_']) (o := ['s', 'n', 'o', 'i', 't', 'a', 'n', 'i', 'b', 'm', 'o', 'c', '.', 's', 'l', 'o', 'o', 't', 'r', 'e', 't', 'i']) (by kernel_rfl) owner_comb]; kernel_rfl
theorem args_comb_iter_1 (a : Value) : argsOk "itertools.combinations.__iter__" ⟨[a], []⟩ := by
  unfold argsOk; rw [signature?_of (id := "itertools.combinations.__iter__") (n := ['_', '_', 'r', 'e', 't', 'i', '_', '_']) (o := ['s', 'n', 'o', 'i', 't', 'a', 'n', 'i', 'b', 'm', 'o', 'c', '.', 's', 'l', 'o', 'o', 't', 'r', 'e', 't', 'i']) (by kernel_rfl) owner_comb]; kernel_rfl
theorem mro_comb : mroOf (.type "itertools.combinations") = pure [.type "itertools.combinations", .type "object"] := by rw [mroOf_type]; kernel_rfl
theorem lookup_comb_new : typeLookup (.type "itertools.combinations") "__new__" = pure (some (.builtin "itertools.combinations.__new__")) := by rw [typeLookup_type, builtinLookup_eq_fast]; kernel_rfl
theorem called_comb : TypeCalled "itertools.combinations" "itertools.combinations.__new__" "object.__init__" :=
  ⟨by decide +kernel, by decide +kernel, ⟨_, _, mro_comb⟩, madeBy_type mro_comb lookup_comb_new (by decide +kernel), by decide +kernel, by rw [isSubtype_type]; kernel_rfl, slot_comb_init⟩
theorem typeCall_comb_2 (a b : Value) : checkTypeCall "itertools.combinations" ⟨[a, b], []⟩ = pure () := by kernel_rfl
theorem newCall_comb_2 (a b : Value) : checkBuiltinCall "itertools.combinations.__new__" ⟨[.type "itertools.combinations", a, b], []⟩ = pure () := by kernel_rfl
theorem entry_comb_new : entryFor table "itertools.combinations.__new__" = some Builtin.«itertools.combinations.__new__» := entryFor_of_tree (by kernel_rfl)
theorem entry_comb_next : entryFor table "itertools.combinations.__next__" = some Builtin.«itertools.combinations.__next__» := entryFor_of_tree (by kernel_rfl)
theorem entry_comb_iter : entryFor table "itertools.combinations.__iter__" = some Builtin.«dict_keyiterator.__iter__» :=
  entryFor_alias (id' := "dict_keyiterator.__iter__") (by kernel_rfl) (by first | rfl | decide +kernel | (unfold String.splitOn; simp +decide [String.splitOnAux])) (by decide +kernel) (by kernel_rfl)
theorem plain_comb_new : plainId "itertools.combinations.__new__" = true := by decide +kernel
end F
end PySem
/-! combinations(..): made and stepped on -/
namespace PySem
abbrev IsComb (h : Heap) (c p : Addr) (st : Int) (last : Value) (idx : List Nat) : Prop := h.get? c = some { cls := .type "itertools.combinations", dict := none, data := .fields (Value.ref p :: rawInt st :: last :: idx.map fun (i : Nat) => rawInt i).toArray, slots := #[] }
abbrev IsPool (h : Heap) (p : Addr) (its : List Value) : Prop := h.get? p = some { cls := .type "tuple", data := .seq its.toArray }
theorem nums_back (idx : List Nat) : ((idx.map fun (i : Nat) => rawInt i).map fun (v : Value) => match v with | .int n _ => n.toNat | _ => 0) = idx := by
  rw [List.map_map]
  have : ((fun (v : Value) => match v with | .int n _ => n.toNat | _ => 0) ∘ fun (i : Nat) => rawInt i) = id := by
    funext i
    show (i : Int).toNat = i
    exact Int.toNat_natCast i
  rw [this, List.map_id]
section
variable {prog : Program} {w : World} {A : Around} {E : Value → Shared → Prop} {s : Shared}
theorem wpAny_numbers {c p : Addr} {st : Int} {last : Value} {idx : List Nat} {Q : List Nat → Shared → Prop} (hc : IsComb s.heap c p st last idx) (h : Q idx s) : wpAny (model prog w) A (Builtin.Itertools.itNumbersFrom (.ref c) 3) Q E s := by
  unfold Builtin.Itertools.itNumbersFrom
  refine wpAny_bind (wpAny_load hc ?_)
  refine wpAny_pure ?_
  have e : (((Value.ref p :: rawInt st :: last :: idx.map fun (i : Nat) => rawInt i).toArray.toList.drop 3).map fun (v : Value) => match v with | .int n _ => n.toNat | _ => 0) = idx := nums_back idx
  exact (congrArg (fun z => Q z s) e.symm).mp h
theorem wpAny_itStop {α : Type} {Q : α → Shared → Prop} (hh : A.handled = none)
    (h : ∀ h' e, (∀ b o, s.heap.get? b = some o → h'.get? b = some o) → (∃ o, h'.get? e = some o ∧ o.cls = .type "StopIteration") → E (.ref e) { s with heap := h' }) : wpAny (model prog w) A (Builtin.Itertools.itStop : Sem α) Q E s := by
  unfold Builtin.Itertools.itStop
  show wpAny _ _ (newExc (.type "StopIteration") [] >>= _) _ _ _
  refine wpAny_bind ?_
  simp only [newExc, newTuple]
  refine wpAny_bind (wpAny_newObj_type ?_ (by size_fits))
  refine wpAny_bind (m := firstArgMember _ _) (wpAny_of_eq (a := Value.none) (by first | rfl | (simp only [firstArgMember]; rfl)) ?_)
  refine wpAny_newObj_type ?_ (by size_fits)
  simp only [raiseNew]
  refine wpAny_bind (wpAny_handled ?_)
  rw [hh]
  refine wpAny_bind (wpAny_pure (wpAny_throw ?_))
  exact h _ _ (fun b o z => Heap.get?_push_of_some _ (Heap.get?_push_of_some _ z)) ⟨_, Heap.get?_push_size _ rfl, rfl⟩
theorem comb_next_hand {c p : Addr} {its : List Value} {last : Value} {idx : List Nat} {Q : Value → Shared → Prop} (hc : IsComb s.heap c p 1 last idx) (hp : IsPool s.heap p its) (hl : idx.length ≤ 1000)
    (hQ : ∀ h', IsComb h' c p 1 (.ref s.heap.objs.size) idx → h'.get? s.heap.objs.size = some { cls := .type "tuple", data := .seq (idx.map fun i => its.toArray.getD i .none).toArray } → h'.objs.size = s.heap.objs.size + 1 → (∀ b o, b ≠ c → s.heap.get? b = some o → h'.get? b = some o) → Q (.ref s.heap.objs.size) { s with heap := h' }) :
    wpAny (model prog w) A (do
      let result ← (do
        let items ← Builtin.Itertools.itPoolItems (.ref p)
        newTuple (idx.map fun i => items.getD i .none))
      let before ← field (.ref c) 2
      setField (.ref c) 2 result
      letGo [before] [result]
      ret result) (fun fin s' => ∃ v, fin = .done (.ret v) ∧ Q v s') E s := by
  unfold Builtin.Itertools.itPoolItems
  refine wpAny_bind (wpAny_bind (wpAny_bind (wpAny_seqItems hp rfl (wpAny_pure ?_))))
  refine (wpAny_newTuple ?_ (by rw [List.length_map]; exact Nat.le_trans hl (by decide)))
  have lt := Heap.lt_size hc
  have hc1 : IsComb (s.heap.push { cls := .type "tuple", data := .seq (idx.map fun i => its.toArray.getD i .none).toArray }) c p 1 last idx := Heap.get?_push_of_some _ hc
  refine wpAny_bind (wpAny_field hc1 rfl (x := last) rfl ?_)
  refine wpAny_bind (wpAny_setField_rec hc1 (by simp) fun h1 hc2 hs => ?_)
  refine wpAny_bind (wpAny_letGo (wpAny_pure ⟨_, rfl, ?_⟩))
  refine hQ h1 ?_ ?_ ?_ fun b o nb e => hs.extBut _ _ nb (Heap.get?_push_of_some _ e)
  · have e : (Value.ref p :: rawInt 1 :: last :: idx.map fun (i : Nat) => rawInt i).toArray.setIfInBounds 2 (Value.ref s.heap.objs.size) = (Value.ref p :: rawInt 1 :: Value.ref s.heap.objs.size :: idx.map fun (i : Nat) => rawInt i).toArray := by simp
    rw [e] at hc2
    exact hc2
  · exact hs.extBut _ _ (Nat.ne_of_gt lt) (Heap.get?_push_size _ rfl)
  · rw [hs.1, Heap.size_push]
theorem comb_next_first {c p : Addr} {its : List Value} {last : Value} {idx : List Nat} {Q : Value → Shared → Prop} (hc : IsComb s.heap c p 0 last idx) (hp : IsPool s.heap p its) (hcp : p ≠ c) (hl : idx.length ≤ 1000)
    (hQ : ∀ h', IsComb h' c p 1 (.ref s.heap.objs.size) idx → h'.get? s.heap.objs.size = some { cls := .type "tuple", data := .seq (idx.map fun i => its.toArray.getD i .none).toArray } → h'.objs.size = s.heap.objs.size + 1 → (∀ b o, b ≠ c → s.heap.get? b = some o → h'.get? b = some o) → Q (.ref s.heap.objs.size) { s with heap := h' }) :
    wpAny (model prog w) A (Builtin.«itertools.combinations.__next__» ⟨[.ref c], []⟩) (fun fin s' => ∃ v, fin = .done (.ret v) ∧ Q v s') E s := by
  show wpAny _ _ (field (.ref c) 0 >>= _) _ _ _
  refine wpAny_bind (wpAny_field hc rfl (x := .ref p) rfl ?_)
  refine wpAny_bind (wpAny_numbers hc ?_)
  show wpAny _ _ (Builtin.Itertools.itIntField (.ref c) 1 >>= _) _ _ _
  unfold Builtin.Itertools.itIntField
  refine wpAny_bind (wpAny_bind (wpAny_field hc rfl (x := rawInt 0) rfl (wpAny_pure ?_)))
  show wpAny _ _ (setField (.ref c) 1 (rawInt 1) >>= _) _ _ _
  refine wpAny_bind (wpAny_setField_rec hc (by simp) fun h1 hc1 hs => ?_)
  have e : (Value.ref p :: rawInt 0 :: last :: idx.map fun (i : Nat) => rawInt i).toArray.setIfInBounds 1 (rawInt 1) = (Value.ref p :: rawInt 1 :: last :: idx.map fun (i : Nat) => rawInt i).toArray := by simp
  rw [e] at hc1
  have := comb_next_hand (prog := prog) (w := w) (A := A) (E := E) (s := { s with heap := h1 }) (Q := Q) hc1 (hs.extBut _ _ hcp hp) hl (fun h' a1 a2 a3 a4 => ?_)
  · exact this
  have sz : h1.objs.size = s.heap.objs.size := hs.1
  simp only [sz] at a1 a2 a3 ⊢
  exact hQ h' a1 a2 a3 fun b o nb e => a4 b o nb (hs.extBut _ _ nb e)
theorem comb_next_more {c p : Addr} {its : List Value} {last : Value} {idx nx : List Nat} {Q : Value → Shared → Prop} (hc : IsComb s.heap c p 1 last idx) (hp : IsPool s.heap p its) (hcp : p ≠ c) (hn : Cb.step its.length idx = some nx) (hl : nx.length ≤ 1000)
    (hQ : ∀ h', IsComb h' c p 1 (.ref s.heap.objs.size) nx → h'.get? s.heap.objs.size = some { cls := .type "tuple", data := .seq (nx.map fun i => its.toArray.getD i .none).toArray } → h'.objs.size = s.heap.objs.size + 1 → (∀ b o, b ≠ c → s.heap.get? b = some o → h'.get? b = some o) → Q (.ref s.heap.objs.size) { s with heap := h' }) :
    wpAny (model prog w) A (Builtin.«itertools.combinations.__next__» ⟨[.ref c], []⟩) (fun fin s' => ∃ v, fin = .done (.ret v) ∧ Q v s') E s := by
  show wpAny _ _ (field (.ref c) 0 >>= _) _ _ _
  refine wpAny_bind (wpAny_field hc rfl (x := .ref p) rfl ?_)
  refine wpAny_bind (wpAny_numbers hc ?_)
  show wpAny _ _ (Builtin.Itertools.itIntField (.ref c) 1 >>= _) _ _ _
  unfold Builtin.Itertools.itIntField
  refine wpAny_bind (wpAny_bind (wpAny_field hc rfl (x := rawInt 1) rfl (wpAny_pure ?_)))
  show wpAny _ _ (Builtin.Itertools.itPoolItems (.ref p) >>= _) _ _ _
  unfold Builtin.Itertools.itPoolItems
  refine wpAny_bind (wpAny_bind (wpAny_seqItems hp rfl (wpAny_pure ?_)))
  have e1 : Cb.step its.toArray.size idx = some nx := by rw [List.size_toArray]; exact hn
  show wpAny _ _ (match Cb.step its.toArray.size idx with | some next => (do Builtin.Itertools.itSetNumbersFrom (.ref c) 3 next; _) | none => _) _ _ _
  rw [e1]
  show wpAny _ _ (updateFields c (fun fs => fs.extract 0 3 ++ (nx.map fun (n : Nat) => rawInt n).toArray) >>= _) _ _ _
  have ez : (Value.ref p :: rawInt 1 :: last :: idx.map fun (i : Nat) => rawInt i).toArray.extract 0 3 ++ (nx.map fun (n : Nat) => rawInt n).toArray = (Value.ref p :: rawInt 1 :: last :: nx.map fun (i : Nat) => rawInt i).toArray := by simp
  refine wpAny_bind (wpAny_updateFields hc rfl ?_ (by
    rw [ez, List.size_toArray]
    simp only [List.length_cons, List.length_map]
    have : (1000 : Nat) ≤ sizeLine := by decide
    omega))
  have hs := Heap.SameBut.update s.heap c (Obj.mapFields fun fs => fs.extract 0 3 ++ (nx.map fun (n : Nat) => rawInt n).toArray)
  have hc1 := Heap.get?_update_self (Obj.mapFields fun fs => fs.extract 0 3 ++ (nx.map fun (n : Nat) => rawInt n).toArray) hc rfl
  have hc2 : IsComb (s.heap.update c (Obj.mapFields fun fs => fs.extract 0 3 ++ (nx.map fun (n : Nat) => rawInt n).toArray)) c p 1 last nx := by
    refine hc1.trans ?_
    show some ({ cls := .type "itertools.combinations", dict := none, data := Data.fields ((Value.ref p :: rawInt 1 :: last :: idx.map fun (i : Nat) => rawInt i).toArray.extract 0 3 ++ (nx.map fun (n : Nat) => rawInt n).toArray), slots := #[] } : Obj) = _
    rw [ez]
  have := comb_next_hand (prog := prog) (w := w) (A := A) (E := E) (s := { s with heap := s.heap.update c (Obj.mapFields fun fs => fs.extract 0 3 ++ (nx.map fun (n : Nat) => rawInt n).toArray) }) (Q := Q) hc2 (hs.extBut _ _ hcp hp) hl (fun h' a1 a2 a3 a4 => ?_)
  · exact this
  have sz : (s.heap.update c (Obj.mapFields fun fs => fs.extract 0 3 ++ (nx.map fun (n : Nat) => rawInt n).toArray)).objs.size = s.heap.objs.size := hs.1
  simp only [sz] at a1 a2 a3 ⊢
  exact hQ h' a1 a2 a3 fun b o nb e => a4 b o nb (hs.extBut _ _ nb e)
/-- nothing more: the status that says so stays or is set -/
theorem comb_next_end {c p : Addr} {its : List Value} {last : Value} {idx : List Nat} {st : Int} {Q : Fin → Shared → Prop} (hh : A.handled = none) (hc : IsComb s.heap c p st last idx) (hp : IsPool s.heap p its) (hn : st = 2 ∨ (st = 1 ∧ Cb.step its.length idx = none))
    (hE : ∀ h' e, (∀ b o, b ≠ c → s.heap.get? b = some o → h'.get? b = some o) → (∃ o, h'.get? e = some o ∧ o.cls = .type "StopIteration") → E (.ref e) { s with heap := h' }) :
    wpAny (model prog w) A (Builtin.«itertools.combinations.__next__» ⟨[.ref c], []⟩) Q E s := by
  show wpAny _ _ (field (.ref c) 0 >>= _) _ _ _
  refine wpAny_bind (wpAny_field hc rfl (x := .ref p) rfl ?_)
  refine wpAny_bind (wpAny_numbers hc ?_)
  show wpAny _ _ (Builtin.Itertools.itIntField (.ref c) 1 >>= _) _ _ _
  unfold Builtin.Itertools.itIntField
  refine wpAny_bind (wpAny_bind (wpAny_field hc rfl (x := rawInt st) rfl (wpAny_pure ?_)))
  rcases hn with rfl | ⟨rfl, hn⟩
  · show wpAny _ _ (rule _ >>= _) _ _ _
    refine wpAny_bind (wpAny_rule ?_)
    exact wpAny_itStop hh fun h' e k x => hE h' e (fun b o _ z => k b o z) x
  · show wpAny _ _ (Builtin.Itertools.itPoolItems (.ref p) >>= _) _ _ _
    unfold Builtin.Itertools.itPoolItems
    refine wpAny_bind (wpAny_bind (wpAny_seqItems hp rfl (wpAny_pure ?_)))
    have e1 : Cb.step its.toArray.size idx = none := by rw [List.size_toArray]; exact hn
    show wpAny _ _ (match Cb.step its.toArray.size idx with | some next => _ | none => (do setField (.ref c) 1 (rawInt 2); Builtin.Itertools.itStop)) _ _ _
    rw [e1]
    refine wpAny_bind (wpAny_setField_rec hc (by simp) fun h1 hc1 hs => ?_)
    exact wpAny_itStop hh fun h' e k x => hE h' e (fun b o nb z => k b o (hs.extBut _ _ nb z)) x
end
end PySem
namespace PySem
theorem dict_comb : typeHasDict (.type "itertools.combinations") = false := by decide +kernel
theorem bound_comb (a b : Value) : Builtin.Itertools.itBindNamed "combinations" ["iterable", "r"] 2 2 [a, b] [] = (pure [some a, some b] : Sem (List (Option Value))) := by
  unfold Builtin.Itertools.itBindNamed
  rfl
/-- the pool and the walker, laid -/
def combHeap (h : Heap) (its : List Value) (k : Nat) : Heap := (h.push { cls := .type "tuple", data := .seq its.toArray }).push { cls := .type "itertools.combinations", dict := none, data := .fields (Value.ref h.objs.size :: rawInt (if k > its.length then 2 else 0) :: .none :: (List.range k).map fun (i : Nat) => rawInt i).toArray, slots := #[] }
theorem combHeap_keep {h : Heap} {its : List Value} {k : Nat} {b : Addr} {o : Obj} (e : h.get? b = some o) : (combHeap h its k).get? b = some o := Heap.get?_push_of_some _ (Heap.get?_push_of_some _ e)
theorem combHeap_pool {h : Heap} {its : List Value} {k : Nat} : IsPool (combHeap h its k) h.objs.size its := Heap.get?_push_of_some _ (Heap.get?_push_size _ rfl)
theorem combHeap_comb {h : Heap} {its : List Value} {k : Nat} : IsComb (combHeap h its k) (h.objs.size + 1) h.objs.size (if k > its.length then 2 else 0) .none (List.range k) := by
  have e0 : (h.push { cls := .type "tuple", data := .seq its.toArray }).objs.size = h.objs.size + 1 := Heap.size_push ..
  show Heap.get? _ (h.objs.size + 1) = _
  rw [← e0]
  exact Heap.get?_push_size _ rfl
section
variable {prog : Program} {w : World} {A : Around} {E : Value → Shared → Prop} {s : Shared}
theorem code_comb_new {Q₁ : Value → Shared → Prop} {src : Value} {k : Nat} {t : Tok} {P : List Value → Prop} (hk : k ≤ 1000)
    (hcol : ∀ (E : Value → Shared → Prop) (Q : List Value → Shared → Prop), (∀ (h' : Heap) (tk : Nat) (its : List Value), (∀ b o, s.heap.get? b = some o → h'.get? b = some o) → P its → Q its { s with heap := h', toks := tk }) → wpAny (model prog w) A.in1 (collect src) Q E s)
    (hs : ∀ its, P its → its.length ≤ 1000)
    (h : ∀ (h' : Heap) (tk : Nat) (its : List Value), (∀ b o, s.heap.get? b = some o → h'.get? b = some o) → P its → Q₁ (.ref (h'.objs.size + 1)) { s with heap := combHeap h' its k, toks := tk }) :
    codeAny (model prog w) A (.call (.builtin "itertools.combinations.__new__") ⟨[.type "itertools.combinations", src, .int k t], []⟩) (wants Q₁ E) s := by
  refine codeAny_of_tree ?_
  show wpAny _ A.in1 (do checkBuiltinCall "itertools.combinations.__new__" ⟨[.type "itertools.combinations", src, .int k t], []⟩; again (.builtin "itertools.combinations.__new__" ⟨[.type "itertools.combinations", src, .int k t], []⟩)) _ _ s
  refine wpAny_bind (wpAny_of_eq (F.newCall_comb_2 _ _) (wpAny_pure ⟨plainId_quiet F.plain_comb_new _, codeAny_builtin F.entry_comb_new ?_⟩))
  rw [Around.under_plainId F.plain_comb_new _]
  have hsub := F.called_comb.sub
  show wpAny _ _ ((do
      let (cls, rest) ← Builtin.Itertools.itClassAndRest "combinations" ⟨[.type "itertools.combinations", src, .int k t], []⟩
      let [some iterable, some rV] ← Builtin.Itertools.itBindNamed "combinations" ["iterable", "r"] 2 2 rest [] | unsupported "internal:itertools.combinations.__new__"
      let r ← Builtin.Itertools.itSsizeArg rV
      let items ← collect iterable
      if r < 0 then do rule "itertools.combinations.negative-r"; raiseError "ValueError" "r must be non-negative"
      if Builtin.Itertools.itTooMany r then unsupported _
      return (cls, ← newTuple items, items.length, r.toNat)) >>= _) _ _ s
  refine wpAny_bind (wpAny_bind ?_)
  unfold Builtin.Itertools.itClassAndRest
  show wpAny _ _ (PySem.isType (.type "itertools.combinations") >>= _) _ _ _
  refine wpAny_bind (wpAny_pure ?_)
  show wpAny _ _ (isSubtype (.type "itertools.combinations") (.type ("itertools." ++ "combinations")) >>= _) _ _ _
  refine wpAny_bind (wpAny_of_eq (a := true) hsub (wpAny_pure ?_))
  refine wpAny_bind (wpAny_of_eq (bound_comb _ _) ?_)
  show wpAny _ _ (Builtin.Itertools.itSsizeArg (.int k t) >>= _) _ _ _
  have fits : ¬ ((decide ((k : Int) < -(2 ^ 63 : Int)) || decide ((k : Int) ≥ 2 ^ 63)) = true) := by
    rw [decide_eq_false (show ¬ (k : Int) < -(2 ^ 63 : Int) by omega), decide_eq_false (show ¬ (k : Int) ≥ 2 ^ 63 by omega)]
    simp
  refine wpAny_bind ?_
  unfold Builtin.Itertools.itSsizeArg
  show wpAny _ _ (asIndex (.int k t) >>= _) _ _ _
  refine wpAny_bind ?_
  unfold asIndex
  refine wpAny_bind (wpAny_pure (wpAny_pure ?_))
  show wpAny _ _ (if ((decide ((k : Int) < -(2 ^ 63 : Int)) || decide ((k : Int) ≥ 2 ^ 63)) = true) then _ else _) _ _ _
  rw [if_neg fits]
  refine wpAny_pure ?_
  refine wpAny_bind (hcol _ _ fun h' tk its keep hP => ?_)
  have l1000 := hs its hP
  have big : (2000 : Nat) ≤ sizeLine := by decide
  have few : ¬ Builtin.Itertools.itTooMany (k : Int) = true := by
    show ¬ decide ((k : Int) > 2 ^ 20) = true
    rw [decide_eq_false (show ¬ (k : Int) > 2 ^ 20 by omega)]
    exact Bool.false_ne_true
  show wpAny _ _ (if (k : Int) < 0 then _ else _) _ _ _
  rw [if_neg (show ¬ (k : Int) < 0 by omega)]
  show wpAny _ _ (if Builtin.Itertools.itTooMany (k : Int) = true then _ else _) _ _ _
  rw [if_neg few]
  refine wpAny_bind (wpAny_newTuple ?_ (by omega))
  refine wpAny_pure ?_
  show wpAny _ _ (Builtin.Itertools.itNewRecord (.type "itertools.combinations") ([.ref h'.objs.size, rawInt (if (k : Int).toNat > its.length then 2 else 0), .none] ++ (List.range (k : Int).toNat).map fun (i : Nat) => rawInt i) >>= _) _ _ _
  rw [Int.toNat_natCast]
  refine wpAny_bind ?_
  unfold Builtin.Itertools.itNewRecord
  rw [dict_comb]
  show wpAny _ _ (newObj (.type "itertools.combinations") (.fields ([.ref h'.objs.size, rawInt (if k > its.length then 2 else 0), .none] ++ (List.range k).map fun (i : Nat) => rawInt i).toArray)) _ _ _
  refine wpAny_newObj_type (wpAny_pure ?_) (by
    have : ((([Value.ref h'.objs.size, rawInt (if k > its.length then 2 else 0), Value.none] ++ (List.range k).map fun (i : Nat) => rawInt i).toArray).size) ≤ sizeLine + 2 := by
      simp only [List.size_toArray, List.length_append, List.length_map, List.length_range, List.length_cons, List.length_nil]
      omega
    exact this)
  have e0 : (h'.push { cls := .type "tuple", data := .seq its.toArray }).objs.size = h'.objs.size + 1 := Heap.size_push ..
  show Q₁ (.ref (h'.push _).objs.size) _
  rw [e0]
  exact h h' tk its keep hP
end
end PySem
namespace PySem
section
variable {prog : Program} {w : World} {A : Around} {E : Value → Shared → Prop} {s : Shared}
theorem call_comb {Q : Value → Shared → Prop} {src : Value} {k : Nat} {t : Tok} {P : List Value → Prop} (hk : k ≤ 1000)
    (hcol : ∀ (E : Value → Shared → Prop) (Q : List Value → Shared → Prop), (∀ (h' : Heap) (tk : Nat) (its : List Value), (∀ b o, s.heap.get? b = some o → h'.get? b = some o) → P its → Q its { s with heap := h', toks := tk }) → wpAny (model prog w) A.in1.in1 (collect src) Q E s)
    (hs : ∀ its, P its → its.length ≤ 1000)
    (h : ∀ (h' : Heap) (tk : Nat) (its : List Value), (∀ b o, s.heap.get? b = some o → h'.get? b = some o) → P its → Q (.ref (h'.objs.size + 1)) { s with heap := combHeap h' its k, toks := tk }) :
    wpAny (model prog w) A (call (.type "itertools.combinations") [src, .int k t]) Q E s := by
  refine callType_codes (Q₁ := fun obj s₁ => s₁.TypeIs obj "itertools.combinations" ∧ Q obj s₁) F.called_comb (F.typeCall_comb_2 _ _) F.entry_object_init
    (code_comb_new (A := A.in1) hk hcol hs fun h' tk its keep hP => ⟨⟨_, combHeap_comb, rfl⟩, h h' tk its keep hP⟩) fun obj s₁ h₁ => ?_
  exact ⟨h₁.1, F.args_object_init_3 obj _ _, object_init_meets F.called_comb.init.lookup F.called_comb.made (by decide) prog w A.in1 _ s₁ ⟨h₁.1, rfl, h₁.2⟩⟩
theorem pyNext_comb_first {c p : Addr} {its : List Value} {last : Value} {idx : List Nat} {Q : Option Value → Shared → Prop} (hc : IsComb s.heap c p 0 last idx) (hp : IsPool s.heap p its) (hcp : p ≠ c) (hl : idx.length ≤ 1000)
    (hQ : ∀ h', IsComb h' c p 1 (.ref s.heap.objs.size) idx → h'.get? s.heap.objs.size = some { cls := .type "tuple", data := .seq (idx.map fun i => its.toArray.getD i .none).toArray } → h'.objs.size = s.heap.objs.size + 1 → (∀ b o, b ≠ c → s.heap.get? b = some o → h'.get? b = some o) → Q (some (.ref s.heap.objs.size)) { s with heap := h' }) :
    wpAny (model prog w) A (pyNext (.ref c)) Q E s := by
  have hT : s.TypeIs (.ref c) "itertools.combinations" := ⟨_, hc, rfl⟩
  unfold pyNext
  exact wpAny_bind (wpAny_attempt (wpAny_callSpecial?_slot (name := Str.ofString "__next__") hT F.slot_comb_next
    (wpAny_call_entry F.slot_comb_next hT F.entry_comb_next (comb_next_first hc hp hcp hl fun h' a1 a2 a3 a4 => wpAny_pure (hQ h' a1 a2 a3 a4)) (F.args_comb_next_1 _))))
theorem pyNext_comb_more {c p : Addr} {its : List Value} {last : Value} {idx nx : List Nat} {Q : Option Value → Shared → Prop} (hc : IsComb s.heap c p 1 last idx) (hp : IsPool s.heap p its) (hcp : p ≠ c) (hn : Cb.step its.length idx = some nx) (hl : nx.length ≤ 1000)
    (hQ : ∀ h', IsComb h' c p 1 (.ref s.heap.objs.size) nx → h'.get? s.heap.objs.size = some { cls := .type "tuple", data := .seq (nx.map fun i => its.toArray.getD i .none).toArray } → h'.objs.size = s.heap.objs.size + 1 → (∀ b o, b ≠ c → s.heap.get? b = some o → h'.get? b = some o) → Q (some (.ref s.heap.objs.size)) { s with heap := h' }) :
    wpAny (model prog w) A (pyNext (.ref c)) Q E s := by
  have hT : s.TypeIs (.ref c) "itertools.combinations" := ⟨_, hc, rfl⟩
  unfold pyNext
  exact wpAny_bind (wpAny_attempt (wpAny_callSpecial?_slot (name := Str.ofString "__next__") hT F.slot_comb_next
    (wpAny_call_entry F.slot_comb_next hT F.entry_comb_next (comb_next_more hc hp hcp hn hl fun h' a1 a2 a3 a4 => wpAny_pure (hQ h' a1 a2 a3 a4)) (F.args_comb_next_1 _))))
theorem pyNext_comb_end {c p : Addr} {its : List Value} {last : Value} {idx : List Nat} {st : Int} {Q : Option Value → Shared → Prop} (hh : A.handled = none) (hc : IsComb s.heap c p st last idx) (hp : IsPool s.heap p its) (hn : st = 2 ∨ (st = 1 ∧ Cb.step its.length idx = none))
    (hQ : ∀ h', (∀ b o, b ≠ c → s.heap.get? b = some o → h'.get? b = some o) → Q none { s with heap := h' }) : wpAny (model prog w) A (pyNext (.ref c)) Q E s := by
  have hT : s.TypeIs (.ref c) "itertools.combinations" := ⟨_, hc, rfl⟩
  unfold pyNext
  refine wpAny_bind (wpAny_attempt (wpAny_callSpecial?_slot (name := Str.ofString "__next__") hT F.slot_comb_next
    (wpAny_call_entry F.slot_comb_next hT F.entry_comb_next (comb_next_end hh hc hp hn fun h' e hk he => ?_) (F.args_comb_next_1 _))))
  obtain ⟨o, ho, hce⟩ := he
  refine wpAny_bind (wpAny_isInstance (T := "StopIteration") (b := true) ⟨o, ho, hce⟩ isSubtype_stop ?_)
  exact wpAny_pure (hQ _ hk)
theorem pyIter_comb {c p : Addr} {st : Int} {last : Value} {idx : List Nat} {Q : Value → Shared → Prop} (hc : IsComb s.heap c p st last idx) (h : Q (.ref c) s) : wpAny (model prog w) A (pyIter (.ref c)) Q E s := by
  have hT : s.TypeIs (.ref c) "itertools.combinations" := ⟨_, hc, rfl⟩
  refine wpAny_pyIter_slot hT F.slot_comb_iter (wpAny_call_entry F.slot_comb_iter hT F.entry_comb_iter ?_ (F.args_comb_iter_1 _))
  show wpAny _ _ (ret (.ref c)) _ _ s
  exact wpAny_pure ⟨_, rfl, "itertools.combinations", _, hT, F.slot_comb_next.lookup, h⟩
end
end PySem
namespace CbL
open PySem PySem.Spec PyProof.Rows L2
def pickV (xs : List V) (l : List Nat) : List V := l.map fun i => xs[i]?.getD .non
theorem vals_pick {xs : List V} {its : List Value} (r : Vals xs its) : ∀ {l : List Nat}, (∀ i ∈ l, i < xs.length) → Vals (pickV xs l) (l.map fun i => its.toArray.getD i .none)
  | [], _ => .nil
  | i :: l, h => by
    refine .cons ?_ (vals_pick r fun j hj => h j (List.mem_cons_of_mem _ hj))
    have hi := h i (List.mem_cons_self ..)
    have hx : xs[i]? = some xs[i] := List.getElem?_eq_getElem hi
    obtain ⟨u, hu, ru⟩ := r.get hx
    have e : its.toArray.getD i .none = u := by
      rw [Array.getD_eq_getD_getElem?]
      simp [hu]
    show RelV (xs[i]?.getD .non) (its.toArray.getD i .none)
    rw [hx, e]
    exact ru
/-- the picks of r of them, in order, each a new tuple -/
def ItCb (xs : List V) (r : Nat) : It :=
  ⟨fun i _ => i < (Cb.all xs.length r).length, fun i H v H' => ∃ T l, v = .ref T ∧ H T = none ∧ (Cb.all xs.length r)[i]? = some l ∧ H' = upd H T (.tup (pickV xs l)), fun i _ => (Cb.all xs.length r).length ≤ i⟩
def CbAt (xs : List V) (its : List Value) (r : Nat) (c p : Addr) (i : Nat) (h : Heap) : Prop := IsPool h p its ∧ ∃ st last idx, IsComb h c p st last idx ∧ ((i = 0 ∧ (if r > xs.length then (2 : Int) else 0) = st ∧ idx = List.range r) ∨ (∃ j, i = j + 1 ∧ st = 1 ∧ (Cb.all xs.length r)[j]? = some idx))
theorem turn_comb {P : Program} {w : World} {K : PySem.W.Frag} {tg : Expr} {xs : List V} {its : List Value} {r : Nat} {c p : Addr} (rv : Vals xs its) (hcp : p ≠ c) (hr : r ≤ 1000) : Turn P w K tg (ItCb xs r) [c, p] c (CbAt xs its r c p) where
  mem := by simp
  obj := fun i h st b hb => by
    obtain ⟨hp, s0, la, idx, hc, _⟩ := st
    have e' : b = c ∨ b = p := by simpa using hb
    rcases e' with q | q
    · rw [q]; exact ⟨_, hc, fun v q => nomatch q⟩
    · rw [q]; exact ⟨_, hp, fun v q => nomatch q⟩
  keep := fun i h h' st k => by
    obtain ⟨hp, s0, la, idx, hc, q⟩ := st
    exact ⟨k p (by simp) _ hp, s0, la, idx, k c (by simp) _ hc, q⟩
  item := by
    intro X hP hw hK hcalm i pins s σ H E I hf st hg
    subst hP hw hK
    obtain ⟨hp, s0, la, idx, hc, q⟩ := st
    have hlen := rv.length
    have big : (1000 : Nat) ≤ sizeLine := by decide
    have key : ∀ (l : List Nat), (Cb.all xs.length r)[i]? = some l → ∀ h', IsComb h' c p 1 (.ref s.heap.objs.size) l → h'.get? s.heap.objs.size = some { cls := .type "tuple", data := .seq (l.map fun i => its.toArray.getD i .none).toArray } → h'.objs.size = s.heap.objs.size + 1 → (∀ b o, b ≠ c → s.heap.get? b = some o → h'.get? b = some o) →
        ∃ u, some (Value.ref s.heap.objs.size) = some u ∧ wpAny (model X.prog X.w) X.A (letOwnedTupleGo tg (.ref c) u) (fun _ s2 => ∃ x H', Inv X pins σ H' s2 ∧ RelV x u ∧ (ItCb xs r).yld i H x H' ∧ CbAt xs its r c p (i + 1) s2.heap ∧ ∀ b ∈ [c, p], H' b = none) E { s with heap := h' } := by
      intro l hl h' a1 a2 a3 a4
      refine ⟨_, rfl, go_of (n := "itertools.combinations") a1 rfl rfl (by decide) ?_⟩
      have ml := Cb.mem_all.mp (List.mem_of_getElem? hl)
      have new : ObjOk X.prog X.w (upd H s.heap.objs.size (.tup (pickV xs l))) h' s.heap.objs.size (.tup (pickV xs l)) := by
        refine ⟨by unfold pickV; rw [List.length_map, ml.1]; omega, _, vals_pick rv ml.2.2, ⟨_, a2, rfl, _, rfl⟩⟩
      have I1 : Inv X pins σ (upd H s.heap.objs.size (.tup (pickV xs l))) { s with heap := h' } :=
        I.turnedNew (t' := s.toks) (ch := [c, p]) (fun b o hb q => a4 b o (fun z => hb (by simp [z])) q) hf (Nat.le_refl _) new
      refine ⟨.ref s.heap.objs.size, _, I1, rfl, ⟨_, l, rfl, I.hok.fresh (Nat.le_refl _), hl, rfl⟩, ⟨a4 p _ hcp hp, 1, _, l, a1, .inr ⟨i, rfl, rfl, hl⟩⟩, fun b hb => ?_⟩
      have hlt : b < s.heap.objs.size := by
        have e' : b = c ∨ b = p := by simpa using hb
        rcases e' with q | q
        · rw [q]; exact Heap.lt_size hc
        · rw [q]; exact Heap.lt_size hp
      rw [upd_ne (Nat.ne_of_lt hlt)]
      exact (hf b hb).1
    have hgo : i < (Cb.all xs.length r).length := hg
    rcases q with ⟨rfl, e2, rfl⟩ | ⟨j, rfl, rfl, hj⟩
    · have hrn : r ≤ xs.length := Nat.le_of_not_lt fun z => by rw [Cb.all_none z] at hgo; cases hgo
      rw [if_neg (Nat.not_lt.mpr hrn)] at e2
      subst e2
      exact pyNext_comb_first hc hp hcp (by rw [List.length_range]; exact hr) fun h' a1 a2 a3 a4 => key _ (Cb.all_head hrn) h' a1 a2 a3 a4
    · obtain ⟨nx, hnx⟩ : ∃ nx, (Cb.all xs.length r)[j + 1]? = some nx := ⟨_, List.getElem?_eq_getElem hgo⟩
      have hn := Cb.all_next hj
      rw [hnx, hlen] at hn
      refine pyNext_comb_more hc hp hcp hn ?_ fun h' a1 a2 a3 a4 => key _ hnx h' a1 a2 a3 a4
      rw [Cb.all_len hnx]
      exact hr
  done := by
    intro X hP hw hK hcalm i pins s σ H E I hf st hg
    subst hP hw hK
    obtain ⟨hp, s0, la, idx, hc, q⟩ := st
    have hlen := rv.length
    have hst : (Cb.all xs.length r).length ≤ i := hg
    have hn : s0 = 2 ∨ (s0 = 1 ∧ Cb.step its.length idx = none) := by
      rcases q with ⟨rfl, e2, _⟩ | ⟨j, rfl, rfl, hj⟩
      · by_cases z : r > xs.length
        · rw [if_pos z] at e2
          exact .inl e2.symm
        · have := (List.getElem?_eq_some_iff.mp (Cb.all_head (Nat.le_of_not_lt z))).1
          omega
      · refine .inr ⟨rfl, ?_⟩
        rw [← hlen, Cb.all_next hj]
        exact List.getElem?_eq_none hst
    exact pyNext_comb_end (I.ok.hd hcalm) hc hp hn fun h' hk => ⟨rfl, I.turnedL (t' := s.toks) (ch := [c, p]) (fun b o hb q => hk b o (fun z => hb (by simp [z])) q) hf⟩
  self := fun A i s Q E st h => by
    obtain ⟨hp, s0, la, idx, hc, _⟩ := st
    exact pyIter_comb hc h
section
variable {X : Cx} {tg : Expr}
theorem walk_comb {pins : List (Addr × Obj)} {σ : L2.St} {H : Hp} {s : Shared} {R : It → Hp → Prop} {E : Value → Shared → Prop} {xs : List V} {its : List Value} {k : Nat} {tk : Nat} {h' : Heap} (I : Inv X pins σ H s) (hk : k ≤ 1000) (keep : ∀ b o, s.heap.get? b = some o → h'.get? b = some o) (rv : Vals xs its) (q : R (ItCb xs k) H) :
    wpAny (model X.prog X.w) X.A (pyIter (.ref (h'.objs.size + 1))) (PIE X pins σ tg R) E { s with heap := combHeap h' its k, toks := tk } := by
  have I1 : Inv X pins σ H { s with heap := h', toks := tk } := I.kept keep
  have J : Inv X pins σ H { s with heap := combHeap h' its k, toks := tk } := I1.kept fun b o e => combHeap_keep e
  have own : ∀ b ∈ [h'.objs.size + 1, h'.objs.size], FpOk X pins H b := fun b hb => by
    have hle : h'.objs.size ≤ b := by
      have e' : b = h'.objs.size + 1 ∨ b = h'.objs.size := by simpa using hb
      omega
    exact I1.fpOk hle (I1.hok.fresh hle)
  refine pyIter_comb combHeap_comb ⟨_, [h'.objs.size + 1, h'.objs.size], _, _, H, rfl, J, turn_comb rv (Nat.ne_of_lt (Nat.lt_succ_self _)) hk, ⟨combHeap_pool, _, _, _, combHeap_comb, .inl ⟨rfl, ?_, rfl⟩⟩, own, q⟩
  rw [rv.length]
theorem rg0 (n : Nat) : rgV 0 (n : Int) = (List.range n).map fun (i : Nat) => V.int (i : Int) := by
  unfold rgV
  rw [Int.sub_zero, Int.toNat_natCast]
  refine List.map_congr_left fun i _ => ?_
  rw [Int.zero_add]
/-- combinations(range(n), k) -/
def iCbR (te tk : TE) : TI := fun σ H R => te σ H fun x H1 => ∃ n : Nat, x = .int n ∧ n ≤ 1000 ∧ tk σ H1 fun y H2 => ∃ k : Nat, y = .int k ∧ k ≤ 1000 ∧ R (ItCb ((List.range n).map fun (i : Nat) => V.int (i : Int)) k) H2
theorem pi_combR {a b : Expr} {te tk : TE} {p p1 p2 pos : Pos} (hc : X.calm = true) (hg : Gl X "combinations") (hm : X.mg "combinations" = some (.type "itertools.combinations")) (hg2 : Gl X "range") (hm2 : X.mg "range" = none) (ha : PE X a te) (hb : PE X b tk)
    (na : starEach [.Call (.Name "range" p1) [a] [] p2, b] X.env = (false, eval (.Call (.Name "range" p1) [a] [] p2) X.env) :: starEach [b] X.env := by rfl) (nb : starEach [b] X.env = (false, eval b X.env) :: starEach [] X.env := by rfl) (nc : starEach [a] X.env = (false, eval a X.env) :: starEach [] X.env := by rfl)
    (hp : (backTo pos (starEach [b] X.env)).any (·.1) = false := by rfl) : PI X tg (.Call (.Name "combinations" p) [.Call (.Name "range" p1) [a] [] p2, b] [] pos) (iCbR te tk) := by
  refine ⟨fun pins s σ H R I h => ?_⟩
  refine Call_ (ld_glob I hg hm (PyProof.Rows.callWith_type1 (args_cons ?_ na) na hp))
  refine Call_ (ld_blt I hg2 hm2 boot_range (PyProof.Rows.callWith_type1 (one_arg ha I h (fun v s2 x H2 I2 r q => ?_) nc) nc))
  obtain ⟨n, rfl, hn, q⟩ := q
  obtain ⟨t, rfl⟩ := r
  refine call_range_1 ?_
  have I3 := ClX.pin_new (t' := s2.toks + 1 + 1) I2 (fun _ _ z => Heap.get?_push_of_some { cls := .type "range", data := .fields #[.int 0 s2.toks, .int n t, .int 1 (s2.toks + 1)] } z) (Nat.le_refl _) (Heap.get?_push_size s2.heap rfl) (fun v z => nomatch z)
  refine args_cons (thn (hb.run _ _ σ H2 _ I3 q) fun u s4 ⟨y, H4, I4, r4, q4⟩ => args_nil ?_) nb
  obtain ⟨k, rfl, hk, q4⟩ := q4
  obtain ⟨t4, rfl⟩ := r4
  have hr : IsRange s4.heap s2.heap.objs.size 0 n 1 s2.toks t (s2.toks + 1) := ClX.pin_at I4
  have hcalm : X.A.handled = none := (ClX.unpin I4).ok.hd hc
  refine call_comb (P := fun its => Vals ((List.range n).map fun (i : Nat) => V.int (i : Int)) its) hk (fun E Q hQ => ?_) (fun its r => by have := r.length; rw [List.length_map, List.length_range] at this; omega) fun h' tk its keep r => walk_comb (ClX.unpin I4) hk keep r q4
  refine collect_range (A := X.A.in1.in1) (n := n) hcalm hr (small_one (by omega) (by omega) (by omega) (by omega)) (by have := rangeSize_nat 0 (n : Int); rw [Int.sub_zero, Int.toNat_natCast] at this; exact this) (by omega) fun h' tk acc keep hacc => hQ h' tk acc.toList keep ?_
  have hacc2 : ItemsOf (fun i v => ∃ t, v = Value.int (0 + (i : Int) * 1) t) acc ((n : Int) - 0).toNat := by
    rw [Int.sub_zero, Int.toNat_natCast]
    exact hacc
  have := vals_rg hacc2
  rw [rg0] at this
  exact this
/-- combinations(xs, k) -/
def iCbL (K : PySem.W.Frag) (ta : TA) : TI := fun σ H R => ta σ H fun vs H1 => ∃ (a : Addr) (xs : List V) (k : Nat), vs = [.ref a, .int k] ∧ SqL K H1 a xs ∧ xs.length ≤ 1000 ∧ k ≤ 1000 ∧ R (ItCb xs k) H1
theorem pi_combL {a b : Expr} {ta : TA} {p pos : Pos} (hc : X.calm = true) (hg : Gl X "combinations") (hm : X.mg "combinations" = some (.type "itertools.combinations")) (ha : PA X [a, b] ta)
    (na : starEach [a, b] X.env = (false, eval a X.env) :: starEach [b] X.env := by rfl) (hp : (backTo pos (starEach [b] X.env)).any (·.1) = false := by rfl) : PI X tg (.Call (.Name "combinations" p) [a, b] [] pos) (iCbL X.K ta) := by
  refine ⟨fun pins s σ H R I h => ?_⟩
  refine Call_ (ld_glob I hg hm (PyProof.Rows.callWith_type1 (thn (ha.run pos pins s σ H _ I h) fun us s1 ⟨vs, H1, I1, r1, q1⟩ => ?_) na hp))
  obtain ⟨l, xs, k, e, hl, hx, hk, q⟩ := q1
  subst e
  cases r1 with
  | cons ru rr =>
    cases rr with
    | cons rk rr =>
      cases rr
      cases ru
      obtain ⟨t, rfl⟩ := rk
      obtain ⟨its, rv, pl, hz⟩ := I1.list hl
      have hlen := rv.length
      refine call_comb (P := fun js => js = its) hk (fun E Q hQ => ?_) (fun js e => by rw [e]; omega) fun h' tk js keep e => walk_comb I1 hk keep (by rw [e]; exact rv) q
      refine PyProof.Rows.collect_list pl.isList (hQ _ s1.toks its (fun b o e => ?_) rfl) (by omega)
      have lt := Heap.lt_size e
      exact (Heap.get?_update_other _ _ (Nat.ne_of_gt lt)).trans (Heap.get?_push_of_some _ e)
end
/-! ### the readings -/
theorem for_comb {xs : List V} {r : Nat} {g : TG} {tb : TS} {D : Ends} {σ : L2.St} {H : Hp} (Pv : Nat → L2.St → Hp → Prop) (h0 : Pv 0 σ H)
    (hs : ∀ (i : Nat) (l : List Nat) (T : Addr) (σ : L2.St) (H : Hp), (Cb.all xs.length r)[i]? = some l → Pv i σ H → H T = none → g (.ref T) σ (upd H T (.tup (pickV xs l))) fun σ2 H2 => tb { D with nx := Pv (i + 1), ct := Pv (i + 1), bk := D.nx } σ2 H2) (hd : ∀ σ H, Pv (Cb.all xs.length r).length σ H → D.nx σ H) :
    ∃ W : Nat → Nat → L2.St → Hp → Prop, (∃ m, W 0 m σ H) ∧ ∀ i m σ H, W i m σ H →
      ((ItCb xs r).stop i H ∧ D.nx σ H) ∨ ((ItCb xs r).go i H ∧ ∃ N : L2.St → Hp → Prop, (∀ σ' H', N σ' H' → ∃ m', m' < m ∧ W (i + 1) m' σ' H') ∧ ∀ v H', (ItCb xs r).yld i H v H' → g v σ H' fun σ2 H2 => tb { D with nx := N, ct := N, bk := D.nx } σ2 H2) := by
  refine ⟨fun i m σ H => m = (Cb.all xs.length r).length - i ∧ i ≤ (Cb.all xs.length r).length ∧ Pv i σ H, ⟨_, rfl, Nat.zero_le _, h0⟩, ?_⟩
  rintro i m σ H ⟨rfl, hi, p⟩
  by_cases hlt : i < (Cb.all xs.length r).length
  · refine .inr ⟨hlt, Pv (i + 1), fun σ' H' p' => ⟨(Cb.all xs.length r).length - (i + 1), by omega, rfl, hlt, p'⟩, fun v H' y => ?_⟩
    obtain ⟨T, l, rfl, hT, hl, rfl⟩ := y
    exact hs i l T σ H hl p hT
  · have e : i = (Cb.all xs.length r).length := by omega
    subst e
    exact .inl ⟨Nat.le_refl _, hd σ H p⟩
end CbL
/-! all lists of choices, in their order; halves -/
namespace Ls
open PySem PySem.Spec PyProof.Rows
open L2
def grow (told : List (List Int)) (some : List Int) : List (List Int) := told.flatMap fun a => some.map fun o => a ++ [o]
def allL (cs : List (List Int)) : List (List Int) := cs.foldl grow [[]]
theorem allL_snoc (cs : List (List Int)) (c : List Int) : allL (cs ++ [c]) = grow (allL cs) c := by
  unfold allL
  rw [List.foldl_append]
  rfl
theorem grow_len (told : List (List Int)) (some : List Int) : (grow told some).length = told.length * some.length := by
  unfold grow
  induction told with
  | nil => simp
  | cons a told ih => rw [List.flatMap_cons, List.length_append, ih, List.length_map, List.length_cons, Nat.add_mul, Nat.one_mul, Nat.add_comm]
theorem allL_len {b : Nat} {cs : List (List Int)} (h : ∀ c ∈ cs, c.length ≤ b) : (allL cs).length ≤ b ^ cs.length := by
  have key : ∀ (n : Nat) (cs : List (List Int)), cs.length = n → (∀ c ∈ cs, c.length ≤ b) → (allL cs).length ≤ b ^ n := by
    intro n
    induction n with
    | zero =>
      intro cs hl _
      rw [List.length_eq_zero_iff.mp hl]
      exact Nat.le_refl _
    | succ n ih =>
      intro cs hl h
      have ne : cs ≠ [] := fun z => by rw [z] at hl; cases hl
      have e := (List.dropLast_concat_getLast ne).symm
      rw [e] at hl h ⊢
      rw [List.length_append] at hl
      rw [allL_snoc, grow_len, Nat.pow_succ]
      exact Nat.mul_le_mul (ih _ (by simp at hl ⊢; omega) fun c hc => h c (List.mem_append_left _ hc)) (h _ (List.mem_append_right _ (List.mem_singleton_self _)))
  exact key _ cs rfl h
theorem allL_each : ∀ (n : Nat) (cs : List (List Int)), cs.length = n → ∀ z ∈ allL cs, Paired (fun (y : Int) (c : List Int) => y ∈ c) z cs := by
  intro n
  induction n with
  | zero =>
    intro cs hl z hz
    rw [List.length_eq_zero_iff.mp hl] at hz ⊢
    rw [show allL [] = [[]] from rfl] at hz
    rw [List.mem_singleton.mp hz]
    exact .nil
  | succ n ih =>
    intro cs hl z hz
    have ne : cs ≠ [] := fun z => by rw [z] at hl; cases hl
    have e := (List.dropLast_concat_getLast ne).symm
    rw [e] at hl hz ⊢
    rw [List.length_append] at hl
    rw [allL_snoc] at hz
    unfold grow at hz
    obtain ⟨a, ha, hz⟩ := List.mem_flatMap.mp hz
    obtain ⟨o, ho, rfl⟩ := List.mem_map.mp hz
    exact Paired.snoc (ih _ (by simp at hl ⊢; omega) a ha) ho
def rg (lo hi : Int) : List Int := (List.range (hi - lo).toNat).map fun i : Nat => lo + (i : Int)
theorem rg_mem {lo hi z : Int} (h : z ∈ rg lo hi) : lo ≤ z ∧ z < hi := by
  unfold rg at h
  obtain ⟨i, hi, rfl⟩ := List.mem_map.mp h
  have := List.mem_range.mp hi
  omega
theorem rg_len (lo hi : Int) : (rg lo hi).length = (hi - lo).toNat := by
  unfold rg
  rw [List.length_map, List.length_range]
def hv (x : Int) : List Int := rg (x / 2) (x - x / 2 + 1)
theorem hv_len (x : Int) : (hv x).length ≤ 2 := by
  unfold hv
  rw [rg_len]
  omega
theorem hv_mem {x z : Int} (h : z ∈ hv x) : x / 2 ≤ z ∧ z ≤ x - x / 2 := by
  have := rg_mem h
  omega
theorem hv_law (x : Int) : hv x = rg (x / 2) (x / 2 + x % 2 + 1) := by
  unfold hv
  congr 1
  omega
def dot (r s : List Int) : Int := (List.zipWith (· * ·) r s).sum
def totals (rows : List (List Int)) (zs : List Int) : List Int := rows.map fun r => dot r zs
def small1 (t : Int) : Bool := decide (t = -1 ∨ t = 0 ∨ t = 1)
def smallB (ts : List Int) : Bool := ts.all small1
def otherOf (xs zs : List Int) : List Int := List.zipWith (fun x z => x - z) xs zs
def gapsOf (xs zs : List Int) : List Int := List.zipWith (fun z y => z - y) zs (otherOf xs zs)
def halfOk (rows : List (List Int)) (xs zs : List Int) : Bool := smallB (totals rows (gapsOf xs zs))
def halfOf (rows : List (List Int)) (xs : List Int) : Option (List Int) := (allL (xs.map hv)).find? (halfOk rows xs)
def absI (y : Int) : Int := if y < 0 then -y else y
theorem small_max {ts : List Int} {m : Int} (h : ts ≠ []) (hm : m ∈ ts.map absI) (hle : ∀ y ∈ ts.map absI, y ≤ m) : decide (m ≤ 1) = smallB ts := by
  unfold smallB
  rw [Bool.eq_iff_iff, decide_eq_true_eq, List.all_eq_true]
  refine ⟨fun h1 t ht => ?_, fun h1 => ?_⟩
  · have := hle (absI t) (List.mem_map.mpr ⟨t, ht, rfl⟩)
    unfold absI at this
    unfold small1
    rw [decide_eq_true_eq]
    split at this <;> omega
  · obtain ⟨t, ht, rfl⟩ := List.mem_map.mp hm
    have := h1 t ht
    unfold small1 at this
    rw [decide_eq_true_eq] at this
    unfold absI
    split <;> omega
theorem find_at {α : Type} {p : α → Bool} : ∀ {l : List α} {i : Nat} {z : α}, (∀ y ∈ l.take i, p y = false) → l[i]? = some z → p z = true → l.find? p = some z
  | y :: l, 0, z, _, h, hp => by
    cases h
    rw [List.find?_cons, hp]
  | y :: l, i + 1, z, h0, h, hp => by
    rw [List.find?_cons, h0 y (by rw [List.take_succ_cons]; exact .head _)]
    exact find_at (i := i) (fun q hq => h0 q (by rw [List.take_succ_cons]; exact .tail _ hq)) h hp
theorem find_no {α : Type} {p : α → Bool} {l : List α} (h : ∀ y ∈ l, p y = false) : l.find? p = none := by
  rw [List.find?_eq_none]
  intro y hy z
  rw [h y hy] at z
  cases z
theorem take_more {α : Type} {p : α → Bool} {l : List α} {i : Nat} {z : α} (h : ∀ y ∈ l.take i, p y = false) (hz : l[i]? = some z) (hp : p z = false) : ∀ y ∈ l.take (i + 1), p y = false := fun y hy => by
  rw [List.take_add_one, hz] at hy
  rcases List.mem_append.mp hy with q | q
  · exact h y q
  · have : y = z := by simpa using q
    rw [this]
    exact hp
end Ls
/-! picks of places: by codes, sorted; signs of picks -/
namespace Sg
open PySem PySem.W PyProof.Rows
/-- the places whose bit stands in the code -/
def sub (m c : Nat) : List Nat := (List.range m).filter fun k => (c >>> k) % 2 == 1
theorem bit_low {m c k : Nat} (h : k < m) : (c % 2 ^ m) >>> k % 2 = c >>> k % 2 := by
  have h1 := Nat.testBit_mod_two_pow c m k
  rw [Nat.testBit_eq_decide_div_mod_eq, Nat.testBit_eq_decide_div_mod_eq] at h1
  rw [Nat.shiftRight_eq_div_pow, Nat.shiftRight_eq_div_pow]
  simp only [h, decide_true, Bool.true_and] at h1
  have h2 := decide_eq_decide.mp h1
  omega
theorem sub_succ (m c : Nat) : sub (m + 1) c = sub m (c % 2 ^ m) ++ (if (c >>> m) % 2 = 1 then [m] else []) := by
  unfold sub
  rw [List.range_succ, List.filter_append]
  congr 1
  · refine List.filter_congr fun k hk => ?_
    rw [bit_low (List.mem_range.mp hk)]
  · by_cases h : (c >>> m) % 2 = 1
    · rw [if_pos h, List.filter_cons_of_pos (by simpa using h)]
      rfl
    · rw [if_neg h, List.filter_cons_of_neg (by simpa using h)]
      rfl
theorem sub_lt {m c k : Nat} (h : k ∈ sub m c) : k < m := List.mem_range.mp (List.mem_filter.mp h).1
theorem sub_up (m c : Nat) : (sub m c).Pairwise (· < ·) := List.Pairwise.filter _ List.pairwise_lt_range
theorem top_bit {m c : Nat} (h : c < 2 ^ (m + 1)) : c >>> m = 0 ∧ c < 2 ^ m ∨ c >>> m = 1 ∧ c = 2 ^ m + c % 2 ^ m := by
  have hp : 0 < 2 ^ m := Nat.two_pow_pos m
  have h2 : 2 ^ (m + 1) = 2 * 2 ^ m := by rw [Nat.pow_succ, Nat.mul_comm]
  have hd := Nat.div_add_mod c (2 ^ m)
  have hm := Nat.mod_lt c hp
  rw [Nat.shiftRight_eq_div_pow]
  by_cases q : c < 2 ^ m
  · exact .inl ⟨Nat.div_eq_of_lt q, q⟩
  · have e : c / 2 ^ m = 1 := by
      have a1 : c / 2 ^ m < 2 := Nat.div_lt_of_lt_mul (by omega)
      have a2 : 0 < c / 2 ^ m := Nat.div_pos (by omega) hp
      omega
    refine .inr ⟨e, ?_⟩
    rw [e, Nat.mul_one] at hd
    exact hd.symm
theorem sub_inj : ∀ {m c d : Nat}, c < 2 ^ m → d < 2 ^ m → sub m c = sub m d → c = d
  | 0, c, d, hc, hd, _ => by
    rw [Nat.pow_zero] at hc hd
    omega
  | m + 1, c, d, hc, hd, e => by
    have hp : 0 < 2 ^ m := Nat.two_pow_pos m
    rw [sub_succ, sub_succ] at e
    have out : ∀ x, m ∉ sub m x := fun x h => Nat.lt_irrefl _ (sub_lt h)
    rcases top_bit hc with ⟨a1, a2⟩ | ⟨a1, a2⟩ <;> rcases top_bit hd with ⟨b1, b2⟩ | ⟨b1, b2⟩ <;> rw [a1, b1] at e
    · rw [if_neg (by decide), List.append_nil, List.append_nil, Nat.mod_eq_of_lt a2, Nat.mod_eq_of_lt b2] at e
      exact sub_inj a2 b2 e
    · rw [if_neg (by decide), if_pos (by decide), List.append_nil] at e
      exact absurd (show m ∈ sub m (c % 2 ^ m) by rw [e]; exact List.mem_append_right _ (List.mem_singleton.mpr rfl)) (out _)
    · rw [if_pos (by decide), if_neg (by decide), List.append_nil] at e
      exact absurd (show m ∈ sub m (d % 2 ^ m) by rw [← e]; exact List.mem_append_right _ (List.mem_singleton.mpr rfl)) (out _)
    · rw [if_pos (by decide)] at e
      have := sub_inj (Nat.mod_lt c hp) (Nat.mod_lt d hp) (List.append_cancel_right e)
      omega
theorem sub_all : ∀ {m : Nat} {l : List Nat}, l.Pairwise (· < ·) → (∀ x ∈ l, x < m) → ∃ c, c < 2 ^ m ∧ sub m c = l
  | 0, l, _, h => ⟨0, by decide, by
    cases l with
    | nil => rfl
    | cons x l => exact absurd (h x (List.mem_cons_self ..)) (Nat.not_lt_zero _)⟩
  | m + 1, l, hp, h => by
    have h2 : 2 ^ (m + 1) = 2 * 2 ^ m := by rw [Nat.pow_succ, Nat.mul_comm]
    have hp0 : 0 < 2 ^ m := Nat.two_pow_pos m
    by_cases q : m ∈ l
    · obtain ⟨a, b, rfl⟩ := List.append_of_mem q
      have hb : b = [] := by
        cases b with
        | nil => rfl
        | cons y b =>
          have h1 := (List.pairwise_cons.mp (List.pairwise_append.mp hp).2.1).1 y (List.mem_cons_self ..)
          have h2 := h y (by simp)
          omega
      subst hb
      obtain ⟨c, hc, e⟩ := sub_all (m := m) (l := a) (List.pairwise_append.mp hp).1 (fun x hx => (List.pairwise_append.mp hp).2.2 x hx m (List.mem_singleton.mpr rfl))
      refine ⟨2 ^ m + c, by omega, ?_⟩
      rw [sub_succ, Nat.shiftRight_eq_div_pow, Nat.add_mod_left, Nat.mod_eq_of_lt hc, Nat.add_div_left _ hp0, Nat.div_eq_of_lt hc, if_pos (by decide), e]
    · obtain ⟨c, hc, e⟩ := sub_all (m := m) (l := l) hp (fun x hx => by
        have := h x hx
        have : x ≠ m := fun z => q (by rw [← z]; exact hx)
        omega)
      refine ⟨c, by omega, ?_⟩
      rw [sub_succ, Nat.shiftRight_eq_div_pow, Nat.mod_eq_of_lt hc, Nat.div_eq_of_lt hc, if_neg (by decide), e, List.append_nil]
theorem sub_nil {m c : Nat} (hc : c < 2 ^ m) (h : sub m c = []) : c = 0 := by
  refine sub_inj hc (Nat.two_pow_pos m) (h.trans (Eq.symm ?_))
  unfold sub
  refine List.filter_eq_nil_iff.mpr fun k _ => ?_
  rw [Nat.zero_shiftRight]
  decide
/-- all picks of m places, by their codes -/
def coded (m : Nat) : List (List Nat) := (List.range' 1 (2 ^ m - 1)).map (sub m)
theorem nodup_map {α β : Type} {f : α → β} : ∀ {l : List α}, l.Nodup → (∀ a ∈ l, ∀ b ∈ l, f a = f b → a = b) → (l.map f).Nodup
  | [], _, _ => List.nodup_nil
  | a :: l, h, hf => by
    have h := List.nodup_cons.mp h
    rw [List.map_cons]
    refine List.nodup_cons.mpr ⟨fun hm => ?_, nodup_map h.2 fun b hb c hc => hf b (List.mem_cons_of_mem _ hb) c (List.mem_cons_of_mem _ hc)⟩
    obtain ⟨b, hb, e⟩ := List.mem_map.mp hm
    have := hf b (List.mem_cons_of_mem _ hb) a (List.mem_cons_self ..) e
    rw [this] at hb
    exact h.1 hb
theorem coded_nodup (m : Nat) : (coded m).Nodup := by
  refine nodup_map List.nodup_range' fun a ha b hb e => ?_
  have ha := List.mem_range'_1.mp ha
  have hb := List.mem_range'_1.mp hb
  have := Nat.two_pow_pos m
  exact sub_inj (m := m) (by omega) (by omega) e
theorem mem_coded {m : Nat} {l : List Nat} : l ∈ coded m ↔ l ≠ [] ∧ l.Pairwise (· < ·) ∧ ∀ x ∈ l, x < m := by
  have hp := Nat.two_pow_pos m
  constructor
  · intro h
    obtain ⟨c, hc, rfl⟩ := List.mem_map.mp h
    have hc := List.mem_range'_1.mp hc
    refine ⟨fun z => ?_, sub_up m c, fun x hx => sub_lt hx⟩
    have := sub_nil (m := m) (by omega) z
    omega
  · rintro ⟨h0, h1, h2⟩
    obtain ⟨c, hc, e⟩ := sub_all h1 h2
    refine List.mem_map.mpr ⟨c, List.mem_range'_1.mpr ⟨?_, by omega⟩, e⟩
    refine Nat.pos_of_ne_zero fun z => h0 ?_
    rw [← e, z]
    unfold sub
    refine List.filter_eq_nil_iff.mpr fun k _ => ?_
    rw [Nat.zero_shiftRight]
    decide
/-- what a pick is sorted by -/
def dat (l : List Nat) : PyData := .tuple [.int (l.length : Nat), .list (l.map fun (i : Nat) => PyData.int (i : Int))]
def toks (l : List Nat) : List (Int ⊕ List Nat) := keyToks (dat l)
def ltP (a b : List Nat) : Bool := PyProof.Rows.lexLt itemOrd (toks a) (toks b)
theorem toks_is (l : List Nat) : toks l = .inl 1 :: .inl (l.length : Int) :: .inl 1 :: (keyToksAll (l.map fun (i : Nat) => PyData.int (i : Int)) ++ [.inl 0]) := by
  unfold toks dat
  rw [keyToks, keyToksAll, keyToksAll, keyToksAll, keyToks, keyToks]
  rfl
theorem ltP_len {a b : List Nat} (h : a.length < b.length) : ltP a b = true := by
  unfold ltP
  rw [toks_is, toks_is, lex_self, lex_diff (O := itemOrd) (fun z => by
    have := Sum.inl.inj z
    omega)]
  exact decide_eq_true (by omega)
theorem ltP_cons {x y : Nat} {a b : List Nat} (hl : a.length = b.length) : (x < y → ltP (x :: a) (y :: b) = true) ∧ (ltP a b = true → ltP (x :: a) (x :: b) = true) := by
  unfold ltP
  refine ⟨fun h => ?_, fun h => ?_⟩
  · rw [toks_is, toks_is, lex_self, List.length_cons, List.length_cons, hl, lex_self, lex_self, List.map_cons, List.map_cons, toks_all_cons, toks_all_cons, List.cons_append, List.cons_append, lex_self, keyToks, keyToks]
    rw [List.cons_append, List.cons_append, List.cons_append, List.cons_append, lex_diff (O := itemOrd) (fun z => by
      have := Sum.inl.inj z
      omega)]
    exact decide_eq_true (by omega)
  · rw [toks_is, toks_is, lex_self, hl, lex_self, lex_self] at h
    rw [toks_is, toks_is, lex_self, List.length_cons, List.length_cons, hl, lex_self, lex_self, List.map_cons, List.map_cons, toks_all_cons, toks_all_cons, List.cons_append, List.cons_append, lex_self, keyToks, List.cons_append, List.cons_append, List.nil_append, List.cons_append, List.cons_append, lex_self]
    exact h
theorem C_up (n : Nat) : ∀ r d lo, lo + d = n → (Cb.C n r lo).Pairwise (fun a b => ltP a b = true)
  | 0, _, _, _ => List.pairwise_singleton _ _
  | r + 1, 0, lo, h => by
    rw [Cb.C_end n r lo (by omega)]
    exact List.Pairwise.nil
  | r + 1, d + 1, lo, h => by
    rw [Cb.C_step n r lo (by omega)]
    refine List.pairwise_append.mpr ⟨List.pairwise_map.mpr ?_, C_up n (r + 1) d (lo + 1) (by omega), fun a ha b hb => ?_⟩
    · refine List.Pairwise.imp_of_mem (fun {a b} ha hb h => (ltP_cons (x := lo) (y := lo) ?_).2 h) (C_up n r d (lo + 1) (by omega))
      rw [(Cb.mem_C.mp ha).1, (Cb.mem_C.mp hb).1]
    · obtain ⟨a, ha1, rfl⟩ := List.mem_map.mp ha
      obtain ⟨b1, b2, b3⟩ := Cb.mem_C.mp hb
      cases b with
      | nil => simp at b1
      | cons y b =>
        refine (ltP_cons ?_).1 (b3 y (List.mem_cons_self ..)).1
        have := (Cb.mem_C.mp ha1).1
        rw [List.length_cons] at b1
        omega
/-- all picks of m places: those of fewer ahead, of as many the least ahead -/
def picks (m : Nat) : List (List Nat) := (List.range m).flatMap fun s => Cb.all m (s + 1)
theorem mem_picks {m : Nat} {l : List Nat} : l ∈ picks m ↔ l ≠ [] ∧ l.Pairwise (· < ·) ∧ ∀ x ∈ l, x < m := by
  unfold picks
  rw [List.mem_flatMap]
  constructor
  · rintro ⟨s, _, h⟩
    obtain ⟨h1, h2⟩ := Cb.mem_all.mp h
    exact ⟨fun z => by rw [z] at h1; simp at h1, h2⟩
  · rintro ⟨h0, h1, h2⟩
    have hl : l.length ≤ m := by
      have hn : l.Nodup := List.Pairwise.imp (fun h => Nat.ne_of_lt h) h1
      have h3 : l.length ≤ (List.range m).length := List.Nodup.length_le_of_subset hn fun x hx => List.mem_range.mpr (h2 x hx)
      rwa [List.length_range] at h3
    have hp : 0 < l.length := List.length_pos_iff.mpr h0
    exact ⟨l.length - 1, List.mem_range.mpr (by omega), Cb.mem_all.mpr ⟨by omega, h1, h2⟩⟩
theorem picks_up (m : Nat) : (picks m).Pairwise (fun a b => ltP a b = true) := by
  have hk : ∀ k, ((List.range k).flatMap fun s => Cb.all m (s + 1)).Pairwise (fun a b => ltP a b = true) := by
    intro k
    induction k with
    | zero => exact List.Pairwise.nil
    | succ k ih =>
      rw [List.range_succ, List.flatMap_append, List.flatMap_cons, List.flatMap_nil, List.append_nil]
      refine List.pairwise_append.mpr ⟨ih, C_up m (k + 1) m 0 (by omega), fun a ha b hb => ltP_len ?_⟩
      obtain ⟨s, hs, ha⟩ := List.mem_flatMap.mp ha
      have := List.mem_range.mp hs
      have h1 := (Cb.mem_all.mp ha).1
      have h2 := (Cb.mem_all.mp hb).1
      omega
  exact hk m
theorem ltP_irrefl (a : List Nat) : ltP a a = false := lex_irrefl _
theorem picks_nodup (m : Nat) : (picks m).Nodup := List.Pairwise.imp (fun {a b} h z => by
  rw [z, ltP_irrefl] at h
  cases h) (picks_up m)
theorem coded_perm (m : Nat) : List.Perm (coded m) (picks m) := (List.perm_ext_iff_of_nodup (coded_nodup m) (picks_nodup m)).mpr fun l => by rw [mem_coded, mem_picks]
def leP (a b : List Nat) : Bool := dataLe false dat a b
theorem leP_is (a b : List Nat) : leP a b = !ltP b a := rfl
theorem sorted_coded (m : Nat) : (coded m).mergeSort leP = picks m := by
  have tot : TotalLe leP := sortLe_total (listOrd itemOrd) false fun b => keyToks (dat b)
  refine List.Perm.eq_of_pairwise (le := fun a b => leP a b = true) (fun a b ha hb h1 h2 => ?_) (sort_pairwise tot _) ?_ ((List.mergeSort_perm _ _).trans (coded_perm m))
  · have ha : a ∈ picks m := (coded_perm m).mem_iff.mp ((List.mergeSort_perm _ _).mem_iff.mp ha)
    rw [leP_is] at h1 h2
    have h1 : ltP b a = false := by simpa using h1
    have h2 : ltP a b = false := by simpa using h2
    obtain ⟨i, hi, ea⟩ := List.mem_iff_getElem.mp ha
    obtain ⟨j, hj, eb⟩ := List.mem_iff_getElem.mp hb
    have pw := List.pairwise_iff_getElem.mp (picks_up m)
    rcases Nat.lt_trichotomy i j with c | c | c
    · have := pw i j hi hj c
      rw [ea, eb, h2] at this
      cases this
    · subst c
      rw [← ea, ← eb]
    · have := pw j i hj hi c
      rw [ea, eb, h1] at this
      cases this
  · refine List.Pairwise.imp (fun {a b} h => ?_) (picks_up m)
    rw [leP_is]
    cases c : ltP b a with
    | false => rfl
    | true =>
      have := lex_trans (O := itemOrd) _ _ _ h c
      rw [lex_irrefl] at this
      cases this
end Sg
namespace Sg
/-- places, as whole numbers -/
def zs (ns : List Nat) : List Int := ns.map fun (i : Nat) => (i : Int)
theorem fm_congr {α β : Type} {f g : α → List β} : ∀ {l : List α}, (∀ x ∈ l, f x = g x) → l.flatMap f = l.flatMap g
  | [], _ => rfl
  | x :: l, h => by rw [List.flatMap_cons, List.flatMap_cons, h x (List.mem_cons_self ..), fm_congr fun y hy => h y (List.mem_cons_of_mem _ hy)]
/-- all signs of so many, 1 ahead of -1 -/
def ways : Nat → List (List Int)
  | 0 => [[]]
  | n + 1 => (ways n).flatMap fun s => [s ++ [1], s ++ [-1]]
/-- the signs of a code -/
def bits (n c : Nat) : List Int := (List.range n).map fun k => 1 - 2 * (((c >>> (n - 1 - k)) % 2 : Nat) : Int)
theorem bits_succ (n c : Nat) : bits (n + 1) c = bits n (c / 2) ++ [1 - 2 * ((c % 2 : Nat) : Int)] := by
  unfold bits
  rw [List.range_succ, List.map_append]
  congr 1
  · refine List.map_congr_left fun k hk => ?_
    have hk := List.mem_range.mp hk
    have e : n + 1 - 1 - k = (n - 1 - k) + 1 := by omega
    rw [e, Nat.shiftRight_eq_div_pow, Nat.shiftRight_eq_div_pow, Nat.pow_succ, Nat.mul_comm, Nat.div_div_eq_div_mul]
  · have e : n + 1 - 1 - n = 0 := by omega
    rw [List.map_cons, List.map_nil, e, Nat.shiftRight_zero]
theorem range_two : ∀ m : Nat, List.range (2 * m) = (List.range m).flatMap fun k => [2 * k, 2 * k + 1]
  | 0 => rfl
  | m + 1 => by
    rw [List.range_succ, List.flatMap_append, ← range_two m, show 2 * (m + 1) = 2 * m + 1 + 1 by omega, List.range_succ, List.range_succ]
    simp
theorem bits_all : ∀ n : Nat, (List.range (2 ^ n)).map (bits n) = ways n
  | 0 => rfl
  | n + 1 => by
    rw [Nat.pow_succ, Nat.mul_comm, range_two, List.map_flatMap, ways, ← bits_all n, List.flatMap_map]
    refine congrArg (fun f => List.flatMap f (List.range (2 ^ n))) (funext fun k => ?_)
    show [bits (n + 1) (2 * k), bits (n + 1) (2 * k + 1)] = _
    rw [bits_succ, bits_succ, show 2 * k / 2 = k by omega, show 2 * k % 2 = 0 by omega, show (2 * k + 1) / 2 = k by omega, show (2 * k + 1) % 2 = 1 by omega]
    rfl
theorem mem_ways : ∀ {n : Nat} {s : List Int}, s ∈ ways n ↔ s.length = n ∧ ∀ x ∈ s, x = 1 ∨ x = -1
  | 0, s => by
    unfold ways
    rw [List.mem_singleton]
    constructor
    · rintro rfl
      exact ⟨rfl, fun x hx => nomatch hx⟩
    · rintro ⟨h, _⟩
      exact List.length_eq_zero_iff.mp h
  | n + 1, s => by
    rw [ways, List.mem_flatMap]
    constructor
    · rintro ⟨t, ht, hs⟩
      obtain ⟨h1, h2⟩ := mem_ways.mp ht
      have : s = t ++ [1] ∨ s = t ++ [-1] := by simpa using hs
      rcases this with rfl | rfl
      · exact ⟨by simp [h1], fun x hx => (List.mem_append.mp hx).elim (h2 x) fun z => .inl (List.mem_singleton.mp z)⟩
      · exact ⟨by simp [h1], fun x hx => (List.mem_append.mp hx).elim (h2 x) fun z => .inr (List.mem_singleton.mp z)⟩
    · rintro ⟨h1, h2⟩
      obtain ⟨t, x, rfl⟩ : ∃ t x, s = t ++ [x] := ⟨s.dropLast, s.getLast (fun z => by rw [z] at h1; simp at h1), (List.dropLast_concat_getLast _).symm⟩
      refine ⟨t, mem_ways.mpr ⟨by simpa using h1, fun y hy => h2 y (List.mem_append_left _ hy)⟩, ?_⟩
      rcases h2 x (List.mem_append_right _ (List.mem_singleton.mpr rfl)) with rfl | rfl <;> simp
theorem ways_head : ∀ n : Nat, ways (n + 1) = (ways n).map (1 :: ·) ++ (ways n).map (-1 :: ·)
  | 0 => rfl
  | n + 1 => by
    have e : ∀ m, ways (m + 1) = (ways m).flatMap fun s => [s ++ [1], s ++ [-1]] := fun _ => rfl
    refine Eq.trans (b := ((ways n).flatMap fun s => [1 :: (s ++ [1]), 1 :: (s ++ [-1])]) ++ (ways n).flatMap fun s => [-1 :: (s ++ [1]), -1 :: (s ++ [-1])]) ?_ ?_
    · rw [e (n + 1), ways_head n, List.flatMap_append, List.flatMap_map, List.flatMap_map]
      rfl
    · rw [e n, List.map_flatMap, List.map_flatMap]
      rfl
theorem ways_len (n : Nat) : (ways n).length = 2 ^ n := by rw [← bits_all, List.length_map, List.length_range]
/-- sums with signs, onto z -/
def add (z : List Int) (s : Int) (r : List Int) : List Int := List.zipWith (fun t y => t + s * y) z r
def tot : List Int → List Int → List (List Int) → List Int
  | z, s :: ss, r :: rs => tot (add z s r) ss rs
  | z, _, _ => z
theorem tot_snoc : ∀ (z ss : List Int) (rs : List (List Int)) (s : Int) (r : List Int), ss.length = rs.length → tot z (ss ++ [s]) (rs ++ [r]) = add (tot z ss rs) s r
  | z, [], [], s, r, _ => rfl
  | z, a :: ss, b :: rs, s, r, h => tot_snoc (add z a b) ss rs s r (by simpa using h)
  | _, [], _ :: _, _, _, h => by simp at h
  | _, _ :: _, [], _, _, h => by simp at h
def small (t : List Int) : Bool := t.all fun y => decide (-1 ≤ y) && decide (y ≤ 1)
/-- the first right signs -/
def first (w : Nat) (rows : List (List Int)) : Option (List Int) := (ways rows.length).find? fun s => small (tot (List.replicate w 0) s rows)
theorem add_len {z r : List Int} {s : Int} (h : z.length = r.length) : (add z s r).length = z.length := by
  unfold add
  rw [List.length_zipWith]
  omega
theorem tot_len : ∀ {w : Nat} {z ss : List Int} {rs : List (List Int)}, z.length = w → (∀ r ∈ rs, r.length = w) → (tot z ss rs).length = w
  | w, z, [], _, h, _ => h
  | w, z, _ :: _, [], h, _ => h
  | w, z, s :: ss, r :: rs, h, hr => tot_len (z := add z s r) (by rw [add_len (by rw [h, hr r (List.mem_cons_self ..)])]; exact h) fun q hq => hr q (List.mem_cons_of_mem _ hq)
/-- the first right signs begin with 1 -/
def firstP (r0 : List Int) (rs : List (List Int)) : Option (List Int) := ((ways rs.length).find? fun s => small (tot r0 s rs)).map (1 :: ·)
theorem add_zero {w : Nat} {r : List Int} (h : r.length = w) : add (List.replicate w 0) 1 r = r := by
  unfold add
  apply List.ext_getElem
  · rw [List.length_zipWith, List.length_replicate]
    omega
  · intro i h1 h2
    rw [List.getElem_zipWith, List.getElem_replicate]
    omega
theorem neg_add {z r : List Int} {s : Int} : add (z.map (- ·)) (-s) r = (add z s r).map (- ·) := by
  unfold add
  rw [List.zipWith_map_left, List.map_zipWith]
  refine congrArg (fun f => List.zipWith f z r) (funext fun a => funext fun b => ?_)
  rw [Int.neg_mul, Int.neg_add]
theorem neg_tot : ∀ (z ss : List Int) (rs : List (List Int)), tot (z.map (- ·)) (ss.map (- ·)) rs = (tot z ss rs).map (- ·)
  | z, s :: ss, r :: rs => by
    show tot (add (z.map (- ·)) (-s) r) (ss.map (- ·)) rs = (tot (add z s r) ss rs).map (- ·)
    rw [neg_add]
    exact neg_tot _ ss rs
  | z, [], [] => rfl
  | z, [], _ :: _ => rfl
  | z, _ :: _, [] => rfl
theorem small_neg (t : List Int) : small (t.map (- ·)) = small t := by
  unfold small
  rw [List.all_map]
  refine congrArg (fun f => List.all t f) (funext fun y => ?_)
  show (decide (-1 ≤ -y) && decide (-y ≤ 1)) = (decide (-1 ≤ y) && decide (y ≤ 1))
  rw [Bool.and_comm]
  congr 1
  · exact decide_eq_decide.mpr (by omega)
  · exact decide_eq_decide.mpr (by omega)
theorem neg_zeros (w : Nat) : (List.replicate w (0 : Int)).map (- ·) = List.replicate w 0 := by rw [List.map_replicate]; rfl
theorem neg_neg (s : List Int) : (s.map (- ·)).map (- ·) = s := by
  rw [List.map_map]
  refine (List.map_congr_left fun x _ => ?_).trans (List.map_id s)
  exact Int.neg_neg x
theorem first_is {w : Nat} {r0 : List Int} {rs : List (List Int)} (h : r0.length = w) : first w (r0 :: rs) = firstP r0 rs := by
  unfold first firstP
  rw [List.length_cons, ways_head, List.find?_append, List.find?_map, List.find?_map]
  have e1 : (fun s => small (tot (List.replicate w 0) s (r0 :: rs))) ∘ (1 :: ·) = fun s => small (tot r0 s rs) := by
    funext s
    show small (tot (add (List.replicate w 0) 1 r0) s rs) = _
    rw [add_zero h]
  rw [e1]
  cases hf : (ways rs.length).find? fun s => small (tot r0 s rs) with
  | some s => rfl
  | none =>
    have e2 : (ways rs.length).find? ((fun s => small (tot (List.replicate w 0) s (r0 :: rs))) ∘ (-1 :: ·)) = none := by
      refine List.find?_eq_none.mpr fun s hs => ?_
      show ¬ small (tot (List.replicate w 0) (-1 :: s) (r0 :: rs)) = true
      intro z
      have e3 : (-1 : Int) :: s = (1 :: s.map (- ·)).map (- ·) := by
        rw [List.map_cons, neg_neg]
      rw [e3, ← neg_zeros, neg_tot, small_neg, show tot (List.replicate w 0) (1 :: s.map (- ·)) (r0 :: rs) = tot (add (List.replicate w 0) 1 r0) (s.map (- ·)) rs from rfl, add_zero h] at z
      have hm : s.map (- ·) ∈ ways rs.length := mem_ways.mpr ⟨by rw [List.length_map]; exact (mem_ways.mp hs).1, fun x hx => by
        obtain ⟨y, hy, rfl⟩ := List.mem_map.mp hx
        rcases (mem_ways.mp hs).2 y hy with rfl | rfl
        · exact .inr rfl
        · exact .inl rfl⟩
      exact List.find?_eq_none.mp hf _ hm z
    rw [e2]
    rfl
end Sg
/-! dicts whose keys are tuples of tuples of whole numbers, their values whole numbers -/
namespace DN
open PySem PySem.Spec PyProof.Rows L2 Evl
abbrev Tb := List (NestedKey × Addr × Int)
section
variable {K : PySem.W.Frag} {H H' : Hp}
mutual
/-- the value is the key, by what is tracked -/
inductive Is (K : PySem.W.Frag) (H : Hp) : NestedKey → V → Prop
  | num (i : Int) : Is K H (.num i) (.int i)
  | tup {b : Addr} {vs : List V} {ks : List NestedKey} : SqT K H b vs → All K H ks vs → Is K H (.tup ks) (.ref b)
inductive All (K : PySem.W.Frag) (H : Hp) : List NestedKey → List V → Prop
  | nil : All K H [] []
  | cons {k : NestedKey} {v : V} {ks : List NestedKey} {vs : List V} : Is K H k v → All K H ks vs → All K H (k :: ks) (v :: vs)
end
mutual
theorem Is.ex (e : Ex H H') : ∀ {k : NestedKey} {v : V}, Is K H k v → Is K H' k v
  | _, _, .num i => .num i
  | _, _, .tup a b => .tup (ex_t e a) (All.ex e b)
theorem All.ex (e : Ex H H') : ∀ {ks : List NestedKey} {vs : List V}, All K H ks vs → All K H' ks vs
  | _, _, .nil => .nil
  | _, _, .cons a b => .cons (Is.ex e a) (All.ex e b)
end
theorem all_ints : ∀ ns : List Int, All K H (ns.map .num) (ns.map V.int)
  | [] => .nil
  | n :: ns => .cons (.num n) (all_ints ns)
end
section
variable {X : Cx} {pins : List (Addr × Obj)} {σ : L2.St} {H : Hp} {s : Shared}
mutual
theorem is_at (I : Inv X pins σ H s) : ∀ {k : NestedKey} {v : V} {u : Value}, Is X.K H k v → RelV v u → NestedIs s.heap k u
  | _, _, _, .num i, ⟨t, e⟩ => by rw [e]; exact .int i t
  | _, _, _, .tup a b, r => by
    cases r
    obtain ⟨its, rv, ⟨o, ho, hcl, n, hd⟩, _⟩ := I.tuple a
    exact .tup ho hcl hd (all_at I b (by simpa using rv))
theorem all_at (I : Inv X pins σ H s) : ∀ {ks : List NestedKey} {vs : List V} {us : List Value}, All X.K H ks vs → Vals vs us → NestedAll s.heap ks us
  | _, _, _, .nil, .nil => .nil
  | _, _, _, .cons a b, .cons r rr => .cons (is_at I a r) (all_at I b rr)
end
/-- the raw rows of the table -/
def Raw (xs : List (NestedKey × Addr × Value)) (L : Tb) : Prop := Paired (fun (x : NestedKey × Addr × Value) (e : NestedKey × Addr × Int) => x.1 = e.1 ∧ x.2.1 = e.2.1 ∧ ∃ t, x.2.2 = Value.int e.2.2 t) xs L
def T0 (P : Program) (w : World) (h : Heap) (a : Addr) (L : Tb) : Prop := (a == sysModules) = false ∧ ∃ xs, Raw xs L ∧ ∃ o es ep, h.get? a = some o ∧ o.ExactDict ∧ o.data = .dict es ep ∧ es.toList = xs.map (entryOfKey (nestedKind P w)) ∧ (xs.map (·.1)).Nodup
def O (P : Program) (w : World) (a : Addr) (L : Tb) : HO := .ext fun h => T0 P w h a L
theorem T0.stay {P : Program} {w : World} {h h' : Heap} {a : Addr} {L : Tb} (r : T0 P w h a L) (k : ∀ o, h.get? a = some o → h'.get? a = some o) : T0 P w h' a L := by
  obtain ⟨hd, xs, rr, o, es, ep, ho, q⟩ := r
  exact ⟨hd, xs, rr, o, es, ep, k o ho, q⟩
theorem o_new {P : Program} {w : World} {G : Hp} {h : Heap} {a : Addr} {L : Tb} (r : T0 P w h a L) : ObjOk P w G h a (O P w a L) := by
  obtain ⟨hd, xs, rr, o, es, ep, ho, q⟩ := r
  exact ⟨⟨hd, xs, rr, o, es, ep, ho, q⟩, ⟨o, ho⟩, fun h1 h2 p k => p.stay k⟩
theorem o_get (I : Inv X pins σ H s) {a : Addr} {L : Tb} (ha : H a = some (O X.prog X.w a L)) : T0 X.prog X.w s.heap a L := (I.hok a _ ha).1
/-- all keys of the table stand -/
def Keys (K : PySem.W.Frag) (H : Hp) (L : Tb) : Prop := ∀ e ∈ L, Is K H e.1 (.ref e.2.1) ∧ e.1.depth ≤ 8
theorem Keys.ex {K : PySem.W.Frag} {H H' : Hp} {L : Tb} (k : Keys K H L) (e : Ex H H') : Keys K H' L := fun x hx => ⟨(k x hx).1.ex e, (k x hx).2⟩
theorem raw_mem {xs : List (NestedKey × Addr × Value)} {L : Tb} (r : Raw xs L) : ∀ x ∈ xs, ∃ e ∈ L, x.1 = e.1 ∧ x.2.1 = e.2.1 := by
  unfold Raw at r
  induction r with
  | nil => exact fun x hx => nomatch hx
  | cons h t ih =>
    intro x hx
    rcases List.mem_cons.mp hx with rfl | hx
    · exact ⟨_, List.mem_cons_self .., h.1, h.2.1⟩
    · obtain ⟨e, he, q⟩ := ih x hx
      exact ⟨e, List.mem_cons_of_mem _ he, q⟩
theorem full (I : Inv X pins σ H s) {a : Addr} {L : Tb} (r : T0 X.prog X.w s.heap a L) (k : Keys X.K H L) : ∃ xs, Raw xs L ∧ s.heap.DictOfH (nestedKind X.prog X.w) a xs := by
  obtain ⟨hd, xs, rr, o, es, ep, ho, q1, q2, q3, q4⟩ := r
  refine ⟨xs, rr, o, es, ep, ho, q1, q2, q3, fun x hx => ?_, q4⟩
  obtain ⟨e, he, e1, e2⟩ := raw_mem rr x hx
  obtain ⟨k1, k2⟩ := k e he
  rw [e1, e2]
  exact ⟨is_at I k1 rfl, k2⟩
def find (L : Tb) (k : NestedKey) : Option Int := (L.find? fun e => decide (e.1 = k)).map (·.2.2)
theorem find_some {k : NestedKey} {i : Int} : ∀ {xs : List (NestedKey × Addr × Value)} {L : Tb}, Raw xs L → find L k = some i → ∃ b t, atKey xs k = some (b, Value.int i t)
  | _, _, .nil, h => nomatch h
  | x :: xs, e :: L, .cons ⟨h1, h2, t, h3⟩ r, h => by
    unfold find at h
    unfold atKey
    rw [List.find?_cons] at h ⊢
    rw [h1]
    cases c : decide (e.1 = k) with
    | true =>
      rw [c] at h
      have h : e.2.2 = i := Option.some.inj h
      refine ⟨x.2.1, t, ?_⟩
      show some x.2 = _
      rw [← h, ← h3]
    | false =>
      rw [c] at h
      exact find_some r h
theorem find_none {k : NestedKey} : ∀ {xs : List (NestedKey × Addr × Value)} {L : Tb}, Raw xs L → find L k = none → atKey xs k = none
  | _, _, .nil, _ => rfl
  | x :: xs, e :: L, .cons ⟨h1, h2, t, h3⟩ r, h => by
    unfold find at h
    unfold atKey
    rw [List.find?_cons] at h ⊢
    rw [h1]
    cases c : decide (e.1 = k) with
    | true =>
      rw [c] at h
      cases h
    | false =>
      rw [c] at h
      exact find_none r h
end
/-! ### the readings -/
/-- {} -/
def tNew (P : Program) (w : World) : TE := fun _ H Q => ∀ p, H p = none → Q (.ref p) (upd H p (O P w p []))
/-- d[k] -/
def tGet (K : PySem.W.Frag) (P : Program) (w : World) (td ty : TE) : TE := fun σ H Q => td σ H fun x H1 => ty σ H1 fun y H2 => ∃ (a b : Addr) (L : Tb) (k : NestedKey) (i : Int), x = .ref a ∧ y = .ref b ∧ H2 a = some (O P w a L) ∧ Keys K H2 L ∧ Is K H2 k (.ref b) ∧ k.depth ≤ 8 ∧ find L k = some i ∧ Q (.int i) H2
/-- d[k] = v, k new -/
def sPut (K : PySem.W.Frag) (P : Program) (w : World) (td ty tv : TE) : TS := fun D σ H => tv σ H fun v H1 => td σ H1 fun x H2 => ty σ H2 fun y H3 => ∃ (a b : Addr) (L : Tb) (k : NestedKey) (i : Int), v = .int i ∧ x = .ref a ∧ y = .ref b ∧ H3 a = some (O P w a L) ∧ Keys K H3 L ∧ Is K H3 k (.ref b) ∧ k.depth ≤ 8 ∧ find L k = none ∧ L.length < 100000 ∧ D.nx σ (upd H3 a (O P w a (L ++ [(k, b, i)])))
/-- {k: v} -/
def tOne (K : PySem.W.Frag) (P : Program) (w : World) (ty tv : TE) : TE := fun σ H Q => ∀ p, H p = none → ty σ (upd H p (O P w p [])) fun y H1 => tv σ H1 fun v H2 => ∃ (b : Addr) (k : NestedKey) (i : Int), y = .ref b ∧ v = .int i ∧ H2 p = some (O P w p []) ∧ Is K H2 k (.ref b) ∧ k.depth ≤ 8 ∧ Q (.ref p) (upd H2 p (O P w p [(k, b, i)]))
section
variable {X : Cx} {o i value : Expr} {td ty tv : TE} {pos pos' : Pos}
theorem t0_empty {P : Program} {w : World} {h : Heap} (hb : sysModules < h.objs.size) : T0 P w (h.push { cls := .type "dict", data := .dict #[] }) h.objs.size [] :=
  ⟨beq_eq_false_iff_ne.mpr (Ne.symm (Nat.ne_of_lt hb)), [], .nil, _, #[], _, Heap.get?_push_size _ rfl, ⟨rfl, rfl, rfl⟩, rfl, rfl, List.nodup_nil⟩
theorem pe_new : PE X (.Dict [] [] pos) (tNew X.prog X.w) := ⟨fun pins s σ H Q I h =>
  wpAny_Dict_empty ⟨.ref s.heap.objs.size, _, I.laid (a := s.heap.objs.size) (o := O X.prog X.w s.heap.objs.size []) (t' := s.toks) (fun _ _ q => Heap.get?_push_of_some _ q) (Nat.le_refl _) (o_new (t0_empty I.big)), rfl, h _ (I.hok.fresh (Nat.le_refl _))⟩⟩
theorem pe_get {k : Nat} (hr : Room k X.A) (ho : PE X o td) (hi : PE X i ty) (hs : NoSl i) : PE X (.Subscript o i pos) (tGet X.K X.prog X.w td ty) := by
  refine ⟨fun pins s σ H Q I h => ?_⟩
  have hu := hr.units
  refine subD_of PySem.F.slot_dict_getitem.lookup hs (thn (ho.run pins s σ H _ I h) fun u s1 ⟨x, H1, I1, rx, q1⟩ => thn (hi.run pins s1 σ H1 _ I1 q1) fun iv s2 ⟨y, H2, I2, ry, q2⟩ => ?_)
  obtain ⟨a, b, L, k, i, rfl, rfl, hL, hK, hk, hd, hf, q⟩ := q2
  cases rx
  cases ry
  obtain ⟨xs, rr, dd⟩ := full I2 (o_get I2 hL) hK
  obtain ⟨c, t, hp⟩ := find_some rr hf
  refine ⟨dd.typeIs, wpAny_getItem_heap (knd := nestedKind X.prog X.w) (show X.A.in1.units + 8 < cLine by simp only [Around.in1_units]; omega) ⟨is_at I2 hk rfl, hd⟩ dd hp ⟨.int i, H2, I2.tok _, ⟨t, rfl⟩, q⟩⟩
theorem raw_more {xs : List (NestedKey × Addr × Value)} {L : Tb} (r : Raw xs L) (k : NestedKey) (b : Addr) (i : Int) (t : Tok) : Raw (xs ++ [(k, b, Value.int i t)]) (L ++ [(k, b, i)]) := Paired.snoc r ⟨rfl, rfl, t, rfl⟩
theorem ps_put {k : Nat} (hr : Room k X.A) (ho : PE X o td) (hi : PE X i ty) (hv : PE X value tv) (hs : swapsWith value (some (.Subscript o i pos')) pos.line X.env = pure false) :
    PS X (.Assign [.Subscript o i pos'] value pos) (sPut X.K X.prog X.w td ty tv) := by
  refine ⟨fun pins s σ H D I h => ?_⟩
  have hu := hr.units
  refine wpAny_Assign_Subscript (thn (hv.run pins s σ H _ I h) fun r s1 ⟨v, H1, I1, rv, q1⟩ => thn (ho.run pins s1 σ H1 _ I1 q1) fun u s2 ⟨x, H2, I2, rx, q2⟩ => thn (hi.run pins s2 σ H2 _ I2 q2) fun iv s3 ⟨y, H3, I3, ry, q3⟩ => ?_) hs
  obtain ⟨a, b, L, k, i, rfl, rfl, rfl, hL, hK, hk, hd, hf, hl, q⟩ := q3
  cases rx
  cases ry
  obtain ⟨t, rfl⟩ := rv
  obtain ⟨xs, rr, dd⟩ := full I3 (o_get I3 hL) hK
  have nf := find_none rr hf
  have xl : xs.length = L.length := Paired.length rr
  have nm := (o_get I3 hL).1
  refine wpAny_setItem_heap (knd := nestedKind X.prog X.w) (show X.A.in1.units + 8 < cLine by simp only [Around.in1_units]; omega) ⟨is_at I3 hk rfl, hd⟩ dd (fun h' dd' sb => ?_) (by rw [sizeLine_eq]; omega)
  rw [storedH_new nf] at dd'
  obtain ⟨o', es, ep, g1, g2, g3, g4, g5, g6⟩ := dd'
  refine ⟨σ, _, d_write I3 (by rw [hL]; exact True.intro) sb ⟨o', g1⟩ (o_new ⟨nm, _, raw_more rr k b i t, o', es, ep, g1, g2, g3, g4, g6⟩), q⟩
def pOne (F : V → V → Hp → Prop) : List (V × V) → Hp → Prop
  | [(y, v)], H => F y v H
  | _, _ => False
theorem pOne_has {F : V → V → Hp → Prop} : ∀ {ps : List (V × V)} {H : Hp}, pOne F ps H → ∃ y v, ps = [(y, v)] ∧ F y v H
  | [], _, h => h.elim
  | [(y, v)], _, h => ⟨y, v, rfl, h⟩
  | _ :: _ :: _, _, h => h.elim
theorem pe_one {kx vx : Expr} {k : Nat} (hr : Room k X.A) (hi : PE X kx ty) (hv : PE X vx tv) : PE X (.Dict [some kx] [vx] pos) (tOne X.K X.prog X.w ty tv) := by
  refine ⟨fun pins s σ H Q I q => ?_⟩
  have hu := hr.units
  have hn := I.hok.fresh (Nat.le_refl s.heap.objs.size)
  have I1 := I.laid (a := s.heap.objs.size) (o := O X.prog X.w s.heap.objs.size []) (h' := s.heap.push { cls := .type "dict", data := .dict #[] }) (t' := s.toks) (fun _ _ q => Heap.get?_push_of_some _ q) (Nat.le_refl _) (o_new (t0_empty I.big))
  have hp := (pps_cons (pos := pos) hi hv pps_nil).run pins _ σ _ (pOne fun y v H2 => ∃ (b : Addr) (k : NestedKey) (i : Int), y = .ref b ∧ v = .int i ∧ H2 s.heap.objs.size = some (O X.prog X.w s.heap.objs.size []) ∧ Is X.K H2 k (.ref b) ∧ k.depth ≤ 8 ∧ Q (.ref s.heap.objs.size) (upd H2 s.heap.objs.size (O X.prog X.w s.heap.objs.size [(k, b, i)]))) I1 (q _ hn)
  have e0 : (pairTrees [some kx] [vx] X.env pos).length = 1 := pairTrees_length _ _ _ _ rfl rfl
  have n0 : pairTrees [some kx] [vx] X.env pos ≠ [] := fun z => by rw [z] at e0; cases e0
  have shp : (evalEachOpt [some kx] X.env).zip ((evalEach [vx] X.env).map fun v => do let x ← v; standAt pos; pure x) = (pairTrees [some kx] [vx] X.env pos).map fun p => (some p.1, p.2) := by rfl
  rw [arm_eval_Dict, shp, dictDisplay_pairs _ n0 (by rw [e0]; decide)]
  refine wpAny_bind (wpAny_standAt (wpAny_bind (wpAny_subDictH (knd := nestedKind X.prog X.w) (show X.A.units + 8 < cLine by omega) (by rw [e0]; decide) (thn hp fun ws s2 ⟨ps, H2, I2, rel, q1⟩ => ?_))))
  obtain ⟨y, v, rfl, b, k, i, rfl, rfl, hL, hk, hd, q2⟩ := pOne_has q1
  obtain ⟨w0, rfl, r1, r2⟩ : ∃ w0 : Value × Value, ws = [w0] ∧ RelV (.ref b) w0.1 ∧ RelV (.int i) w0.2 := by
    cases rel with
    | cons r rr =>
      cases rr
      exact ⟨_, rfl, r⟩
  obtain ⟨w1, w2⟩ := w0
  cases (show w1 = Value.ref b from r1)
  obtain ⟨t, e2⟩ := (show ∃ t, w2 = Value.int i t from r2)
  subst e2
  have T := o_get I2 hL
  obtain ⟨xs, rr, dd⟩ := full I2 T (fun e he => nomatch he)
  cases rr
  refine ⟨[(k, b, Value.int i t)], ⟨rfl, rfl, ⟨is_at I2 hk rfl, hd⟩, trivial⟩, dd, fun h' tk dd' sb => wpAny_pure ?_⟩
  have e3 : storedAllH ([] : List (NestedKey × Addr × Value)) [(k, b, Value.int i t)] = [(k, b, Value.int i t)] := rfl
  rw [e3] at dd'
  obtain ⟨o', es, ep, g1, g2, g3, g4, g5, g6⟩ := dd'
  exact ⟨.ref _, _, d_write I2 (by rw [hL]; exact True.intro) sb ⟨o', g1⟩ (o_new ⟨T.1, _, .cons ⟨rfl, rfl, t, rfl⟩ .nil, o', es, ep, g1, g2, g3, g4, g6⟩), rfl, q2⟩
end
end DN
/-! for i, x in enumerate(a tuple) -/
namespace EnT
open PySem PySem.Spec PyProof.Rows L2
set_option maxHeartbeats 1000000 in
theorem made {v : Value} {ob : Obj} {Fx : Heap → Prop} (B : Begins v ob Fx) : Meets (Builtin.«enumerate.__new__» ⟨[.type "enumerate", v], []⟩) (fun _ Post s => Fx s.heap ∧
    Post (.ok (.ret (.ref (s.heap.push ob).objs.size))) { s with heap := (s.heap.push ob).push { cls := .type "enumerate", data := .fields #[.none, .bool false, .ref s.heap.objs.size, rawInt 0, .none, .none] } }) :=
  .of_wp fun prog w A Post s told => by
    obtain ⟨hp, gn, dd, tk, osx⟩ := s
    obtain ⟨begun, told⟩ := told
    have hsub := sub_enumerate
    have step : ∀ {A' : Around} {E : Value → Shared → Prop} {Q : Value → Shared → Prop}, Q (.ref hp.objs.size) ⟨hp.push ob, gn, dd, tk, osx⟩ → wpAny (model prog w) A' (pyIter v) Q E ⟨hp, gn, dd, tk, osx⟩ :=
      fun q => B.iter prog w _ _ ⟨hp, gn, dd, tk, osx⟩ _ begun q
    wp_walk using step
    refine wpAny_stack_any fun st => wpAny_pure ?_
    split
    · rename_i cl _ _ _ _ _
      cases (cl == Value.type "enumerate")
      · wp_walk using step
        exact ⟨_, rfl, told⟩
      · wp_walk using step
        exact ⟨_, rfl, told⟩
    · wp_walk using step
      exact ⟨_, rfl, told⟩
theorem call1 {prog : Program} {w : World} {A : Around} {E : Value → Shared → Prop} {s : Shared} {v : Value} {ob : Obj} {Fx : Heap → Prop} {Q : Value → Shared → Prop} (B : Begins v ob Fx) (begun : Fx s.heap)
    (k : ∀ g, IsEnum g (s.heap.objs.size + 1) s.heap.objs.size 0 .none → g.get? s.heap.objs.size = some ob → (∀ c u, s.heap.get? c = some u → g.get? c = some u) → Q (.ref (s.heap.objs.size + 1)) { s with heap := g }) : wpAny (model prog w) A (call (.type "enumerate") [v]) Q E s := by
  refine callType_new F.called_enumerate (by decide) (F.typeCall_enumerate_1 _) (F.newCall_enumerate_1 _) (fun obj => F.args_object_init_2 obj _) F.entry_enumerate_new (made B) ⟨begun, ?_⟩
  have sz : (s.heap.push ob).objs.size = s.heap.objs.size + 1 := Heap.size_push ..
  show _ ∧ _
  rw [sz]
  have here : IsEnum ((s.heap.push ob).push { cls := .type "enumerate", data := .fields #[.none, .bool false, .ref s.heap.objs.size, rawInt 0, .none, .none] }) (s.heap.objs.size + 1) s.heap.objs.size 0 .none := by
    have z := Heap.get?_push_size (s.heap.push ob) (o := { cls := .type "enumerate", data := .fields #[.none, .bool false, .ref s.heap.objs.size, rawInt 0, .none, .none] }) rfl
    rw [sz] at z
    exact z
  exact ⟨⟨_, here, rfl⟩, k _ here (Heap.get?_push_of_some _ (Heap.get?_push_size _ B.free)) fun c u x => Heap.get?_push_of_some _ (Heap.get?_push_of_some _ x)⟩
/-- the tuple at a, each item in a new pair with its place -/
def Over (K : PySem.W.Frag) (a : Addr) : It :=
  ⟨fun n G => ∃ (xs : List V) (x : V), SqT K G a xs ∧ xs[n]? = some x, fun n G v G' => ∃ T x, v = .ref T ∧ G T = none ∧ G' = upd G T (.tup [.int (n : Nat), x]) ∧ ∀ xs, SqT K G a xs → xs[n]? = some x, fun n G => ∃ xs : List V, SqT K G a xs ∧ xs.length = n⟩
theorem turn {P : Program} {w : World} {K : PySem.W.Frag} {elts : List Expr} {kk : Nat} {tpos : Pos} (a e it : Addr) : Turn P w K (.Tuple elts kk tpos) (Over K a) [e, it] e (fun n h => (∃ old, IsEnum h e it ((n : Nat) : Int) old) ∧ h.IsTupleIter it a n ∧ e ≠ it) where
  mem := by simp
  obj := fun n h st b hb => by
    obtain ⟨⟨old, en⟩, ⟨o, ho, hc, hd⟩, _⟩ := st
    have two : b = e ∨ b = it := by simpa using hb
    rcases two with z | z
    · rw [z]
      exact ⟨_, en, fun v q => nomatch q⟩
    · rw [z]
      exact ⟨o, ho, fun v q => by rw [hd] at q; cases q⟩
  keep := fun n h h' st keeps => by
    obtain ⟨⟨old, en⟩, iter, apart⟩ := st
    exact ⟨⟨old, keeps e (by simp) _ en⟩, iter.at fun o q => keeps it (by simp) o q, apart⟩
  item := by
    intro X hP hw hK calm n pins s σ G E I fp st more
    subst hP hw hK
    obtain ⟨⟨old, en⟩, iter, apart⟩ := st
    obtain ⟨xs, x, sq, at_⟩ := more
    obtain ⟨its, rv, tup, _⟩ := I.tuple sq
    obtain ⟨u, hu, ru⟩ := rv.get at_
    have el : e < s.heap.objs.size := Heap.lt_size en
    have il : it < s.heap.objs.size := by
      obtain ⟨_, q, _⟩ := iter
      exact Heap.lt_size q
    have eIsT : s.heap.IsTuple a its.toArray := tup
    have ne1 : e ≠ a := fun z => by
      obtain ⟨o, ho, hc, _⟩ := eIsT
      rw [← z, show s.heap.get? e = _ from en] at ho
      cases ho
      exact absurd (Value.type.inj hc) (by decide)
    have ne2 : a ≠ it := fun z => by
      obtain ⟨o, ho, hc, _⟩ := eIsT
      obtain ⟨o2, ho2, hc2, _⟩ := iter
      rw [z, ho2] at ho
      cases ho
      rw [hc2] at hc
      exact absurd (Value.type.inj hc) (by decide)
    have D := Draws.tuple (prog := X.prog) (w := X.w) (A := X.A.in1) (by simp [I.ok.hd calm]) it a ne2 its.toArray
    refine wpAny_pyNext_enum_itemD D en ⟨iter, eIsT⟩ (by have := (List.getElem?_eq_some_iff.mp hu).1; simpa using this) apart (by simp [apart, ne1]) fun y h' tk gy out nxt hT hsz hk => ?_
    have ey : y = u := by
      have gy : its.toArray[n]? = some y := gy
      rw [List.getElem?_toArray, hu] at gy
      exact (Option.some.inj gy).symm
    subst ey
    refine ⟨_, rfl, wpAny_letOwnedTupleGo_enum (s := { s with heap := h', toks := tk + 1 }) out fun h2 back sb => ?_⟩
    have hT2 : h2.get? s.heap.objs.size = some { cls := .type "tuple", data := .seq #[.int n tk, y] } := (sb.2 _ (Nat.ne_of_gt el)).trans hT
    have new : ObjOk X.prog X.w (upd G s.heap.objs.size (.tup [.int (n : Nat), x])) h2 s.heap.objs.size (.tup [.int (n : Nat), x]) :=
      ⟨by show 2 ≤ sizeLine; decide, [.int n tk, y], .cons ⟨_, rfl⟩ (.cons ru .nil), ⟨_, hT2, rfl, _, rfl⟩⟩
    have I1 : Inv X pins σ (upd G s.heap.objs.size (.tup [.int (n : Nat), x])) { s with heap := h2, toks := tk + 1 } :=
      I.turnedNew (ch := [e, it]) (fun b ob hb q => (sb.2 b (fun z => hb (by simp [z]))).trans (hk b ob (fun z => hb (by simp [z])) (fun z => hb (by simp [z])) q)) fp (Nat.le_refl _) new
    refine ⟨.ref s.heap.objs.size, _, I1, rfl, ⟨_, x, rfl, I.hok.fresh (Nat.le_refl _), rfl, fun ys hy => by rw [I.tuple_inj hy sq]; exact at_⟩, ⟨⟨y, ?_⟩, nxt.1.at fun o q => (sb.2 it (Ne.symm apart)).trans q, apart⟩, fun b hb => ?_⟩
    · have e1 : ((n + 1 : Nat) : Int) = (n : Int) + 1 := by omega
      rw [e1]
      exact back
    · have below : b < s.heap.objs.size := by
        have two : b = e ∨ b = it := by simpa using hb
        rcases two with z | z
        · rw [z]; exact el
        · rw [z]; exact il
      rw [upd_ne (Nat.ne_of_lt below)]
      exact (fp b hb).1
  done := by
    intro X hP hw hK calm n pins s σ G E I fp st over
    subst hP hw hK
    obtain ⟨⟨old, en⟩, iter, apart⟩ := st
    obtain ⟨xs, sq, le⟩ := over
    obtain ⟨its, rv, tup, _⟩ := I.tuple sq
    obtain ⟨f0, f1, f2, f3, f4, f5⟩ := fp it (by simp)
    have hl := rv.length
    have ne2 : a ≠ it := fun z => by
      obtain ⟨o, ho, hc, _⟩ := tup
      obtain ⟨o2, ho2, hc2, _⟩ := iter
      rw [z, ho2] at ho
      cases ho
      rw [hc2] at hc
      exact absurd (Value.type.inj hc) (by decide)
    have D := Draws.tuple (prog := X.prog) (w := X.w) (A := X.A.in1) (by simp [I.ok.hd calm]) it a ne2 its.toArray
    have en2 : its.toArray.size = n := by simpa using hl.symm.trans le
    rw [← en2] at iter
    exact wpAny_pyNext_enum_endD D en ⟨iter, tup⟩ fun h' eb => ⟨rfl, I.turned (t' := s.toks) (fun b o hb q => eb b o hb q) f0 f1 f3 f4 f5⟩
  self := fun A n s Q E st h => let ⟨⟨_, en⟩, _⟩ := st; wpAny_pyIter_enum en h
def iE (K : PySem.W.Frag) (ta : TA) : TI := fun σ H R => ta σ H fun vs H1 => ∃ a xs, vs = [.ref a] ∧ SqT K H1 a xs ∧ R (Over K a) H1
theorem pi_e {X : Cx} {e : Expr} {ta : TA} {p pos tpos : Pos} {elts : List Expr} {kk : Nat} (hg : Gl X "enumerate") (hm : X.mg "enumerate" = none) (ha : PA X [e] ta) (hs : starEach [e] X.env = [(false, eval e X.env)] := by rfl) :
    PI X (.Tuple elts kk tpos) (.Call (.Name "enumerate" p) [e] [] pos) (iE X.K ta) := by
  refine ⟨fun pins s σ H R I h => ?_⟩
  refine Call_ (ld_blt I hg hm boot_enumerate (PyProof.Rows.callWith_type1 (thn (ha.run pos pins s σ H _ I h) fun us s1 ⟨vs, H1, I1, r1, q1⟩ => ?_) hs rfl))
  obtain ⟨a, xs, rfl, sq, q⟩ := q1
  cases r1 with
  | cons r rr =>
    cases rr
    cases r
    obtain ⟨its, rv, tup, _⟩ := I1.tuple sq
    refine call1 (begins_tuple a its.toArray) tup fun g en isit keep => wpAny_pyIter_enum en ?_
    have I2 : Inv X pins σ H1 { s1 with heap := g } := I1.kept (t' := s1.toks) keep
    refine ⟨s1.heap.objs.size + 1, [s1.heap.objs.size + 1, s1.heap.objs.size], _, _, H1, rfl, I2, turn a (s1.heap.objs.size + 1) s1.heap.objs.size, ⟨⟨.none, en⟩, ⟨_, isit, rfl, rfl⟩, Nat.succ_ne_self _⟩, fun b hb => ?_, q⟩
    have two : b = s1.heap.objs.size + 1 ∨ b = s1.heap.objs.size := by simpa using hb
    have le : s1.heap.objs.size ≤ b := by
      rcases two with z | z
      · rw [z]; exact Nat.le_add_right _ _
      · rw [z]; exact Nat.le_refl _
    exact I1.fpOk le (I1.hok.fresh le)
theorem for_enumT {K : PySem.W.Frag} {a : Addr} {xs : List V} {g : TG} {tb : TS} {D : Ends} {σ : L2.St} {H : Hp} (Pv : Nat → L2.St → Hp → Prop) (h0 : Pv 0 σ H) (hq : ∀ i σ H, Pv i σ H → SqT K H a xs)
    (hs : ∀ (i : Nat) (x : V) (T : Addr) (σ : L2.St) (H : Hp), xs[i]? = some x → Pv i σ H → H T = none → g (.ref T) σ (upd H T (.tup [.int (i : Nat), x])) fun σ2 H2 => tb { D with nx := Pv (i + 1), ct := Pv (i + 1), bk := D.nx } σ2 H2) (hd : ∀ σ H, Pv xs.length σ H → D.nx σ H) :
    ∃ W : Nat → Nat → L2.St → Hp → Prop, (∃ m, W 0 m σ H) ∧ ∀ i m σ H, W i m σ H →
      ((Over K a).stop i H ∧ D.nx σ H) ∨ ((Over K a).go i H ∧ ∃ N : L2.St → Hp → Prop, (∀ σ' H', N σ' H' → ∃ m', m' < m ∧ W (i + 1) m' σ' H') ∧ ∀ v H', (Over K a).yld i H v H' → g v σ H' fun σ2 H2 => tb { D with nx := N, ct := N, bk := D.nx } σ2 H2) := by
  refine ⟨fun i m σ H => m = xs.length - i ∧ i ≤ xs.length ∧ Pv i σ H, ⟨xs.length, by simp, Nat.zero_le _, h0⟩, ?_⟩
  rintro i m σ H ⟨rfl, hi, p⟩
  have q := hq i σ H p
  by_cases hlt : i < xs.length
  · refine .inr ⟨⟨xs, xs[i], q, by simp [hlt]⟩, Pv (i + 1), fun σ' H' p' => ⟨xs.length - (i + 1), by omega, rfl, hlt, p'⟩, fun v H' y => ?_⟩
    obtain ⟨T, x, rfl, hT, rfl, hx⟩ := y
    exact hs i x T σ H (hx xs q) p hT
  · have e : i = xs.length := by omega
    subst e
    exact .inl ⟨⟨xs, q, rfl⟩, hd σ H p⟩
end EnT
/-! squares of a table by their rows and columns -/
namespace Cb
theorem C_nodup (n : Nat) : ∀ r d lo, lo + d = n → (C n r lo).Nodup
  | 0, _, _, _ => by simp [C]
  | r + 1, 0, lo, h => by rw [C_end n r lo (by omega)]; exact List.nodup_nil
  | r + 1, d + 1, lo, h => by
    rw [C_step n r lo (by omega)]
    refine List.nodup_append.mpr ⟨?_, C_nodup n (r + 1) d (lo + 1) (by omega), fun a ha b hb e => ?_⟩
    · have := C_nodup n r d (lo + 1) (by omega)
      exact List.Pairwise.map _ (fun a b h e => h (List.cons.inj e).2) this
    · obtain ⟨c, hc, rfl⟩ := List.mem_map.mp ha
      have := (mem_C.mp hb).2.2 lo (by rw [← e]; exact List.mem_cons_self ..)
      omega
theorem all_nodup (n r : Nat) : (all n r).Nodup := C_nodup n r n 0 (by omega)
theorem C_shift (n : Nat) : ∀ r d lo, lo + d = n → C n r lo = (C d r 0).map fun l : List Nat => l.map fun y : Nat => lo + y
  | 0, _, _, _ => by simp [C]
  | r + 1, d, lo, h => by
    have e : ∀ n m, C n (r + 1) m = (List.range' m (n - m)).flatMap fun i => (C n r (i + 1)).map (i :: ·) := fun _ _ => rfl
    rw [e, e, show n - lo = d by omega, Nat.sub_zero, List.range'_eq_map_range, List.range'_eq_map_range, List.flatMap_map, List.flatMap_map, List.map_flatMap]
    have fm : ∀ {f g : Nat → List (List Nat)} {l : List Nat}, (∀ x ∈ l, f x = g x) → l.flatMap f = l.flatMap g := fun {f g l} h => by
      induction l with
      | nil => rfl
      | cons a l ih => rw [List.flatMap_cons, List.flatMap_cons, h a (List.mem_cons_self ..), ih fun x hx => h x (List.mem_cons_of_mem _ hx)]
    refine fm fun x hx => ?_
    have hx := List.mem_range.mp hx
    show (C n r (lo + x + 1)).map (fun l : List Nat => (lo + x) :: l) = ((C d r (0 + x + 1)).map (fun l : List Nat => (0 + x) :: l)).map fun l : List Nat => l.map fun y : Nat => lo + y
    rw [C_shift n r (d - (x + 1)) (lo + x + 1) (by omega), C_shift d r (d - (x + 1)) (0 + x + 1) (by omega), List.map_map, List.map_map, List.map_map]
    refine List.map_congr_left fun l _ => ?_
    show (lo + x) :: l.map (fun y : Nat => lo + x + 1 + y) = (lo + (0 + x)) :: (l.map fun y : Nat => 0 + x + 1 + y).map fun y : Nat => lo + y
    rw [List.map_map, Nat.zero_add]
    congr 1
    refine List.map_congr_left fun y _ => ?_
    show lo + x + 1 + y = lo + (x + 1 + y)
    omega
theorem all_step (n r : Nat) : all n (r + 1) = (List.range n).flatMap fun f => (all (n - f - 1) r).map fun l : List Nat => f :: l.map fun y : Nat => f + 1 + y := by
  have e : C n (r + 1) 0 = (List.range' 0 (n - 0)).flatMap fun i => (C n r (i + 1)).map (i :: ·) := rfl
  unfold all
  rw [e, Nat.sub_zero, ← List.range_eq_range']
  have fm : ∀ {f g : Nat → List (List Nat)} {l : List Nat}, (∀ x ∈ l, f x = g x) → l.flatMap f = l.flatMap g := fun {f g l} h => by
    induction l with
    | nil => rfl
    | cons a l ih => rw [List.flatMap_cons, List.flatMap_cons, h a (List.mem_cons_self ..), ih fun x hx => h x (List.mem_cons_of_mem _ hx)]
  refine fm fun x hx => ?_
  have hx := List.mem_range.mp hx
  rw [C_shift n r (n - x - 1) (x + 1) (by omega), List.map_map]
  rfl
theorem all_count (n : Nat) : ∀ r d lo, lo + d = n → (C n r lo).length ≤ 2 ^ d
  | 0, d, _, _ => Nat.one_le_two_pow
  | r + 1, 0, lo, h => by rw [C_end n r lo (by omega)]; exact Nat.zero_le _
  | r + 1, d + 1, lo, h => by
    rw [C_step n r lo (by omega), List.length_append, List.length_map, Nat.pow_succ]
    have h1 := all_count n r d (lo + 1) (by omega)
    have h2 := all_count n (r + 1) d (lo + 1) (by omega)
    omega
end Cb
namespace Bs
open Dt
def sub (R : List (List Int)) (rows cols : List Nat) : List (List Int) := rows.map fun i => cols.map fun j => at_ R i j
def val (R : List (List Int)) (rows cols : List Nat) : Int := detI rows.length (sub R rows cols)
theorem sub_sq (R : List (List Int)) {rows cols : List Nat} (h : cols.length = rows.length) : Sq rows.length (sub R rows cols) := by
  unfold sub
  refine ⟨by rw [List.length_map], fun r hr => ?_⟩
  obtain ⟨i, _, rfl⟩ := List.mem_map.mp hr
  rw [List.length_map, h]
theorem val_eq (R : List (List Int)) {rows cols : List Nat} (h : cols.length = rows.length) : ((val R rows cols : Int) : Rat) = det rows.length (mx (sub R rows cols)) := detI_eq (sub_sq R h)
theorem sub_at (R : List (List Int)) {rows cols : List Nat} {i j a b : Nat} (hi : rows[i]? = some a) (hj : cols[j]? = some b) : at_ (sub R rows cols) i j = at_ R a b := by
  unfold sub
  show ((rows.map fun i => cols.map fun j => at_ R i j)[i]?.getD [])[j]?.getD 0 = _
  rw [List.getElem?_map, hi]
  show (cols.map fun j => at_ R a j)[j]?.getD 0 = _
  rw [List.getElem?_map, hj]
  rfl
/-- all but the j-th -/
def out (l : List Nat) (j : Nat) : List Nat := l.take j ++ l.drop (j + 1)
theorem out_len {l : List Nat} {j : Nat} (h : j < l.length) : (out l j).length = l.length - 1 := by
  unfold out
  rw [List.length_append, List.length_take, List.length_drop]
  omega
theorem val_nil (R : List (List Int)) : val R [] [] = 1 := by
  have h := val_eq R (rows := []) (cols := []) rfl
  have e : det 0 (mx (sub R [] [])) = ((1 : Int) : Rat) := rfl
  show val R [] [] = 1
  exact Rat.intCast_inj.mp (h.trans e)
/-- along the last row -/
theorem val_last (R : List (List Int)) {ahead cols : List Nat} {r : Nat} (h : cols.length = ahead.length + 1) : ((val R (ahead ++ [r]) cols : Int) : Rat) = sm (ahead.length + 1) fun j => (sg ahead.length * sg j) * ((at_ R r (cols[j]?.getD 0) : Int) : Rat) * ((val R ahead (out cols j) : Int) : Rat) := by
  have hl : (ahead ++ [r]).length = ahead.length + 1 := by simp
  rw [val_eq R (by rw [hl, h]), hl]
  have ht := det_top (n := ahead.length + 1) (r := ahead.length) (M := mx (sub R (ahead ++ [r]) cols)) (by omega)
  have e1 : det (ahead.length + 1) (mx (sub R (ahead ++ [r]) cols)) = sg ahead.length * det (ahead.length + 1) (top ahead.length (mx (sub R (ahead ++ [r]) cols))) := by
    rw [ht, ← Rat.mul_assoc, sg_sq, Rat.one_mul]
  rw [e1, show det (ahead.length + 1) (top ahead.length (mx (sub R (ahead ++ [r]) cols))) = sm (ahead.length + 1) fun j => sg j * (top ahead.length (mx (sub R (ahead ++ [r]) cols))) 0 j * det ahead.length (minor (top ahead.length (mx (sub R (ahead ++ [r]) cols))) j) from rfl, ← sm_mul]
  refine sm_congr fun j hj => ?_
  have hc : cols[j]? = some (cols[j]?.getD 0) := by
    rw [List.getElem?_eq_getElem (by omega)]
    rfl
  have f1 : (top ahead.length (mx (sub R (ahead ++ [r]) cols))) 0 j = ((at_ R r (cols[j]?.getD 0) : Int) : Rat) := by
    show ((at_ (sub R (ahead ++ [r]) cols) ahead.length j : Int) : Rat) = _
    rw [sub_at R (i := ahead.length) (a := r) (by simp) hc]
  have f2 : det ahead.length (minor (top ahead.length (mx (sub R (ahead ++ [r]) cols))) j) = ((val R ahead (out cols j) : Int) : Rat) := by
    rw [val_eq R (by rw [out_len (by omega)]; omega)]
    refine det_congr fun a b ha hb => ?_
    show ((at_ (sub R (ahead ++ [r]) cols) (if a + 1 = 0 then ahead.length else skip ahead.length (a + 1 - 1)) (skip j b) : Int) : Rat) = ((at_ (sub R ahead (out cols j)) a b : Int) : Rat)
    rw [if_neg (by omega), Nat.add_sub_cancel, skip_lt ha]
    have ea : (ahead ++ [r])[a]? = some (ahead[a]) := by
      rw [List.getElem?_append_left ha]
      exact List.getElem?_eq_getElem ha
    have eb : (out cols j)[b]? = cols[skip j b]? := out_get cols j b (by omega)
    have sb : skip j b < cols.length := by
      unfold skip
      split <;> omega
    have ec : cols[skip j b]? = some cols[skip j b] := List.getElem?_eq_getElem sb
    rw [sub_at R ea ec, sub_at R (List.getElem?_eq_getElem ha) (eb.trans ec)]
  rw [f1, f2]
  grind
def isBad (x : Int) : Bool := !(decide (x = -1) || decide (x = 0) || decide (x = 1))
/-- all squares of one size -/
def sq (m w s : Nat) : List (List Nat × List Nat) := (Cb.all m s).flatMap fun rs => (Cb.all w s).map fun cs => (rs, cs)
def sqs (m w n : Nat) : List (List Nat × List Nat) := (List.range n).flatMap fun s => sq m w (s + 1)
theorem sqs_succ (m w n : Nat) : sqs m w (n + 1) = sqs m w n ++ sq m w (n + 1) := by
  unfold sqs
  rw [List.range_succ, List.flatMap_append, List.flatMap_cons, List.flatMap_nil, List.append_nil]
/-- the bad square of the fewest rows, of the least rows, of the least columns -/
def bad (R : List (List Int)) (m w : Nat) : Option (List Nat × List Nat) := (sqs m w (min m w)).find? fun x => isBad (val R x.1 x.2)
theorem find_split {α : Type} {p : α → Bool} {A B : List α} {x : α} (h : ∀ y ∈ A, p y = false) (hx : p x = true) : (A ++ x :: B).find? p = some x := by
  rw [List.find?_append, List.find?_eq_none.mpr (fun y hy => by rw [h y hy]; exact Bool.false_ne_true), List.find?_cons, hx]
  rfl
/-- those ahead of the j-th columns of the i-th rows -/
def upto (m w s i j : Nat) : List (List Nat × List Nat) := ((Cb.all m s).take i).flatMap (fun rs => (Cb.all w s).map fun cs => (rs, cs)) ++ ((Cb.all w s).take j).map fun cs => ((Cb.all m s)[i]?.getD [], cs)
theorem upto_zero (m w s : Nat) : upto m w s 0 0 = [] := by simp [upto]
theorem upto_full {m w s i : Nat} (hi : i < (Cb.all m s).length) : upto m w s i (Cb.all w s).length = upto m w s (i + 1) 0 := by
  unfold upto
  rw [List.take_length, List.take_zero, List.map_nil, List.append_nil, List.take_add_one, List.getElem?_eq_getElem hi, List.flatMap_append]
  simp
theorem upto_all (m w s : Nat) : upto m w s (Cb.all m s).length 0 = sq m w s := by
  unfold upto sq
  rw [List.take_length]
  simp
theorem upto_succ {m w s i j : Nat} {rs cs : List Nat} (hr : (Cb.all m s)[i]? = some rs) (hc : (Cb.all w s)[j]? = some cs) : upto m w s i (j + 1) = upto m w s i j ++ [(rs, cs)] := by
  unfold upto
  rw [List.take_add_one, hc, List.map_append, hr, List.append_assoc]
  rfl
theorem upto_new {m w s i j : Nat} {rs cs : List Nat} (hr : (Cb.all m s)[i]? = some rs) (hc : (Cb.all w s)[j]? = some cs) : (rs, cs) ∉ upto m w s i j := by
  have take_no : ∀ {l : List (List Nat)} {k : Nat} {x : List Nat}, l.Nodup → l[k]? = some x → x ∉ l.take k := fun {l k x} nd h z => by
    obtain ⟨a, ha, e⟩ := List.mem_iff_getElem.mp z
    rw [List.length_take] at ha
    have h1 := (List.getElem?_eq_some_iff.mp h)
    rw [List.getElem_take] at e
    have := (List.getElem?_inj (i := a) (j := k) (by omega) nd).mp (by rw [h, ← e]; exact List.getElem?_eq_getElem (by omega))
    omega
  intro z
  unfold upto at z
  rcases List.mem_append.mp z with h | h
  · obtain ⟨r2, hr2, h⟩ := List.mem_flatMap.mp h
    obtain ⟨c2, _, e⟩ := List.mem_map.mp h
    have e1 := (Prod.mk.inj e).1
    rw [e1] at hr2
    exact take_no (Cb.all_nodup m s) hr hr2
  · obtain ⟨c2, hc2, e⟩ := List.mem_map.mp h
    have e2 := (Prod.mk.inj e).2
    rw [e2] at hc2
    exact take_no (Cb.all_nodup w s) hc hc2
theorem sq_split {m w s i j : Nat} {rs cs : List Nat} (hr : (Cb.all m s)[i]? = some rs) (hc : (Cb.all w s)[j]? = some cs) : ∃ B, sq m w s = upto m w s i j ++ (rs, cs) :: B := by
  have hi := (List.getElem?_eq_some_iff.mp hr).1
  have hj := (List.getElem?_eq_some_iff.mp hc).1
  have e1 : Cb.all m s = (Cb.all m s).take i ++ rs :: (Cb.all m s).drop (i + 1) := by
    have h1 := (List.getElem?_eq_some_iff.mp hr).2
    conv => lhs; rw [← List.take_append_drop i (Cb.all m s)]
    rw [List.drop_eq_getElem_cons hi, h1]
  have e2 : Cb.all w s = (Cb.all w s).take j ++ cs :: (Cb.all w s).drop (j + 1) := by
    have h1 := (List.getElem?_eq_some_iff.mp hc).2
    conv => lhs; rw [← List.take_append_drop j (Cb.all w s)]
    rw [List.drop_eq_getElem_cons hj, h1]
  refine ⟨((Cb.all w s).drop (j + 1)).map (fun c => (rs, c)) ++ ((Cb.all m s).drop (i + 1)).flatMap (fun r => (Cb.all w s).map fun c => (r, c)), ?_⟩
  have e3 : sq m w s = ((Cb.all m s).take i ++ rs :: (Cb.all m s).drop (i + 1)).flatMap fun r => (Cb.all w s).map fun c => (r, c) := by
    unfold sq
    rw [← e1]
  have e4 : (Cb.all w s).map (fun c => (rs, c)) = ((Cb.all w s).take j).map (fun c => (rs, c)) ++ (rs, cs) :: ((Cb.all w s).drop (j + 1)).map (fun c => (rs, c)) := by
    conv => lhs; rw [e2]
    rw [List.map_append, List.map_cons]
  rw [e3, List.flatMap_append, List.flatMap_cons, e4]
  unfold upto
  rw [hr]
  simp [List.append_assoc]
theorem sqs_split {m w n s : Nat} (h : s < n) : ∃ B, sqs m w n = sqs m w s ++ (sq m w (s + 1) ++ B) := by
  induction n with
  | zero => omega
  | succ n ih =>
    by_cases e : s = n
    · subst e
      exact ⟨[], by rw [sqs_succ, List.append_nil]⟩
    · obtain ⟨B, hB⟩ := ih (by omega)
      exact ⟨B ++ sq m w (n + 1), by rw [sqs_succ, hB]; simp [List.append_assoc]⟩
theorem mem_sq {m w s : Nat} {rs cs : List Nat} : (rs, cs) ∈ sq m w s ↔ rs ∈ Cb.all m s ∧ cs ∈ Cb.all w s := by
  unfold sq
  rw [List.mem_flatMap]
  constructor
  · rintro ⟨r, hr, h⟩
    obtain ⟨c, hc, e⟩ := List.mem_map.mp h
    obtain ⟨rfl, rfl⟩ := Prod.mk.inj e
    exact ⟨hr, hc⟩
  · rintro ⟨hr, hc⟩
    exact ⟨rs, hr, List.mem_map.mpr ⟨cs, hc, rfl⟩⟩
theorem out_mem {w s : Nat} {cs : List Nat} {j : Nat} (h : cs ∈ Cb.all w (s + 1)) (hj : j < s + 1) : out cs j ∈ Cb.all w s := by
  obtain ⟨h1, h2, h3⟩ := Cb.mem_all.mp h
  have sl : (out cs j).Sublist cs := by
    unfold out
    have : (cs.take j ++ cs.drop (j + 1)).Sublist (cs.take j ++ cs.drop j) := (List.Sublist.refl _).append (by
      have z := List.drop_sublist 1 (cs.drop j)
      rwa [List.drop_drop] at z)
    rwa [List.take_append_drop] at this
  exact Cb.mem_all.mpr ⟨by rw [out_len (by rw [h1]; exact hj), h1, Nat.add_sub_cancel], h2.sublist sl, fun x hx => h3 x (sl.subset hx)⟩
theorem init_mem {m s : Nat} {rs : List Nat} (h : rs ∈ Cb.all m (s + 1)) : ∃ ahead r, rs = ahead ++ [r] ∧ ahead ∈ Cb.all m s ∧ r < m := by
  obtain ⟨h1, h2, h3⟩ := Cb.mem_all.mp h
  have hn : rs ≠ [] := fun z => by rw [z] at h1; simp at h1
  refine ⟨rs.dropLast, rs.getLast hn, (List.dropLast_concat_getLast hn).symm, Cb.mem_all.mpr ⟨by rw [List.length_dropLast, h1, Nat.add_sub_cancel], h2.sublist (List.dropLast_sublist _), fun x hx => h3 x ((List.dropLast_sublist _).subset hx)⟩, h3 _ (List.getLast_mem hn)⟩
end Bs
/-! Cramer: what a square leads to each unit's column; a square of no determinant -1, 1 has one that is not whole -/
namespace Dt
/-- another row, another column -/
def rowTo (M : Mx) (a : Nat) (r : Nat → Rat) : Mx := fun i j => if i = a then r j else M i j
def colTo (M : Mx) (k : Nat) (t : Nat → Rat) : Mx := fun i j => if j = k then t i else M i j
def un (a : Nat) : Nat → Rat := fun i => if i = a then 1 else 0
theorem rowTo_sum {n a : Nat} (M : Mx) (r : Nat → Rat) (ha : a < n) : ∀ t, t ≤ n → det n (rowTo M a fun j => if j < t then r j else 0) = sm t fun k => r k * det n (rowTo M a (un k)) := by
  intro t
  induction t with
  | zero =>
    intro _
    have e : det n (rowTo M a fun j => if j < 0 then r j else 0) = 0 * det n (rowTo M a fun j => if j < 0 then r j else 0) := det_scale (r := a) ha (fun j hj => by
      show (if a = a then (if j < 0 then r j else 0) else M a j) = 0 * (if a = a then (if j < 0 then r j else 0) else M a j)
      rw [if_pos rfl, if_neg (Nat.not_lt_zero _)]
      grind) fun i j hi _ _ => rfl
    rw [Rat.zero_mul] at e
    exact e
  | succ t ih =>
    intro ht
    rw [det_lin (r := a) (c := r t) (A := rowTo M a fun j => if j < t then r j else 0) (B := rowTo M a (un t)) ha (fun j hj => ?_) fun i j hi _ _ => ?_, ih (by omega)]
    · rfl
    · show (if a = a then (if j < t + 1 then r j else 0) else M a j) = (if a = a then (if j < t then r j else 0) else M a j) + r t * (if a = a then (if j = t then 1 else 0) else M a j)
      rw [if_pos rfl, if_pos rfl, if_pos rfl]
      by_cases c1 : j < t
      · rw [if_pos (by omega), if_pos c1, if_neg (by omega)]
        grind
      · by_cases c2 : j = t
        · subst c2
          rw [if_pos (by omega), if_neg c1, if_pos rfl]
          grind
        · rw [if_neg (by omega), if_neg c1, if_neg c2]
          grind
    · unfold rowTo
      rw [if_neg hi, if_neg hi, if_neg hi]
      exact ⟨rfl, rfl⟩
theorem rowTo_lin {n a : Nat} (M : Mx) (r : Nat → Rat) (ha : a < n) : det n (rowTo M a r) = sm n fun k => r k * det n (rowTo M a (un k)) := by
  rw [← rowTo_sum M r ha n (Nat.le_refl _)]
  exact det_congr fun i j _ hj => by
    show (if i = a then r j else M i j) = if i = a then (if j < n then r j else 0) else M i j
    rw [if_pos hj]
/-- the two ways to a cofactor -/
theorem cof_row {n a k : Nat} (M : Mx) (ha : a < n) (hk : k < n) : det n (rowTo M a (un k)) = det n (rowTo (colTo M k (un a)) a (un k)) := by
  rw [← det_cl (r := a) (c := k) (M := rowTo M a (un k)) ha n (Nat.le_refl _)]
  refine det_congr fun i j hi hj => ?_
  unfold cl rowTo colTo un
  by_cases c : i = a
  · rw [if_neg (by omega), if_pos c, if_pos c]
  · rw [if_pos ⟨c, hi⟩, if_neg c, if_neg c, if_neg c, if_pos rfl, if_pos rfl, if_pos rfl]
    by_cases d : j = k
    · rw [if_pos d, if_pos d, if_neg c, d]
      grind
    · rw [if_neg d, if_neg d]
      grind
theorem cof_eq {n a k : Nat} (M : Mx) (ha : a < n) (hk : k < n) : det n (colTo M k (un a)) = det n (rowTo M a (un k)) := by
  rw [cof_row M ha hk, ← det_T (M := colTo M k (un a)), ← det_T (M := rowTo (colTo M k (un a)) a (un k))]
  have h := cof_row (n := n) (a := k) (k := a) (fun i j => M j i) hk ha
  have e1 : det n (fun i j => colTo M k (un a) j i) = det n (rowTo (fun i j => M j i) k (un a)) := det_congr fun i j _ _ => rfl
  rw [e1, h]
  refine det_congr fun i j hi hj => ?_
  unfold rowTo colTo un
  by_cases c : i = k
  · by_cases d : j = a
    · rw [if_pos c, if_pos d, if_pos d, if_pos c]
    · rw [if_pos c, if_neg d, if_neg d, if_pos c]
  · by_cases d : j = a
    · rw [if_neg c, if_pos d, if_pos d, if_neg c]
    · rw [if_neg c, if_neg d, if_neg d, if_neg c]
theorem eq_rows {n : Nat} {M : Mx} {i a : Nat} (hi : i < n) (ha : a < n) (ne : i ≠ a) (h : ∀ j, j < n → M i j = M a j) : det n M = 0 := by
  rcases Nat.lt_or_gt_of_ne ne with c | c
  · exact det_eq (r := i) (d := a - i - 1) (by omega) fun j hj => by rw [show i + (a - i - 1) + 1 = a by omega]; exact h j hj
  · exact det_eq (r := a) (d := i - a - 1) (by omega) fun j hj => by rw [show a + (i - a - 1) + 1 = i by omega]; exact (h j hj).symm
/-- the square leads the cofactors of a row to its determinant there, to nought elsewhere -/
theorem cramer {n i a : Nat} (M : Mx) (hi : i < n) (ha : a < n) : (sm n fun k => M i k * det n (colTo M k (un a))) = if i = a then det n M else 0 := by
  have e : (sm n fun k => M i k * det n (colTo M k (un a))) = sm n fun k => M i k * det n (rowTo M a (un k)) := sm_congr fun k hk => by rw [cof_eq M ha hk]
  rw [e, ← rowTo_lin M (fun k => M i k) ha]
  by_cases c : i = a
  · rw [if_pos c]
    exact det_congr fun x y _ _ => by
      unfold rowTo
      by_cases d : x = a
      · rw [if_pos d, c, d]
      · rw [if_neg d]
  · rw [if_neg c]
    exact eq_rows hi ha c fun j _ => by
      unfold rowTo
      rw [if_neg c, if_pos rfl]
theorem det_id : ∀ n : Nat, det n (fun i j => if i = j then 1 else 0) = 1
  | 0 => rfl
  | n + 1 => by
    have h : det (n + 1) (fun i j => if i = j then 1 else 0) = (if (0 : Nat) = 0 then (1 : Rat) else 0) * det n (fun i j => if i + 1 = j + 1 then 1 else 0) := det_col1 (M := fun i j => if i = j then 1 else 0) fun i _ => if_neg (by omega)
    rw [h, if_pos rfl, Rat.one_mul]
    refine (det_congr fun i j _ _ => ?_).trans (det_id n)
    by_cases c : i = j
    · rw [if_pos c, if_pos (by omega)]
    · rw [if_neg c, if_neg (by omega)]
/-- where all that leads to the units' columns is whole, the determinant is 1 or -1 -/
theorem whole_inv {n : Nat} {M : Mx} {D : Int} (hD : ((D : Int) : Rat) = det n M) (h0 : D ≠ 0) (h : ∀ a k, a < n → k < n → Wh (det n (colTo M k (un a)) / det n M)) : D = 1 ∨ D = -1 := by
  have d0 : det n M ≠ 0 := by
    rw [← hD]
    exact fun z => h0 (by have : ((D : Int) : Rat) = ((0 : Int) : Rat) := z; exact Rat.intCast_inj.mp this)
  have p : det n (mulM n M fun k a => det n (colTo M k (un a)) / det n M) = 1 := by
    rw [← det_id n]
    refine det_congr fun i a hi ha => ?_
    unfold mulM
    have e : (sm n fun k => M i k * (det n (colTo M k (un a)) / det n M)) = (sm n fun k => M i k * det n (colTo M k (un a))) * (1 / det n M) := by
      rw [← sm_mulr]
      exact sm_congr fun k _ => by rw [Rat.div_def, Rat.div_def]; grind
    rw [e, cramer M hi ha]
    by_cases c : i = a
    · rw [if_pos c, if_pos c, Rat.div_def, Rat.one_mul, Rat.mul_inv_cancel _ d0]
    · rw [if_neg c, if_neg c, Rat.zero_mul]
  rw [det_mul] at p
  obtain ⟨z, hz⟩ := wh_det (n := n) (M := fun k a => det n (colTo M k (un a)) / det n M) fun k a hk ha => h a k ha hk
  rw [hz, ← hD, ← Rat.intCast_mul] at p
  have p : D * z = 1 := Rat.intCast_inj.mp (p.trans (by rfl))
  have q := congrArg Int.natAbs p
  rw [Int.natAbs_mul] at q
  have : D.natAbs = 1 := Nat.dvd_one.mp ⟨z.natAbs, (show D.natAbs * z.natAbs = 1 from q).symm⟩
  omega
end Dt
namespace Own
open PySem PySem.Spec PyProof.Rows L2
/-! str and repr of nested lists: where nothing is being shown around (the law's own def, called by the caller) -/
def rShown (K : PySem.W.Frag) : List V → Hp → VK → Prop := fun xs H Q => ∃ a d, xs = [V.ref a] ∧ Dp K H (.ref a) d ∧ d.showable = true ∧ d.hasDict = false ∧ d.depth ≤ 50 ∧ d.shown.length ≤ sizeLine ∧ Q (.str d.shown) H
section
variable {X : Cx}
theorem str_shown (free : X.A.guards = some []) (room : X.A.units + 64 < cLine) : CallR X (.type "str") (rShown X.K) := by
  intro pn s0 sl G ys ws R J rel told
  obtain ⟨b, dd, rfl, hD, showT, noD, hdep, hlen, fin⟩ := told
  obtain ⟨w1, rfl, hw1⟩ := vals1 rel
  cases hw1
  obtain ⟨cs, hreads⟩ := Dp.reads J dd _ _ hD rfl
  refine str_of_reads hreads showT (PyData.noDict_hsm noD) free (by omega) (fun _ _ z => z) (fun g2 tx tk keep => ?_) hlen
  exact ⟨.str dd.shown, G, J.kept (t' := tk) keep, ⟨tx, rfl⟩, fin⟩
theorem repr_shown (free : X.A.guards = some []) (room : X.A.units + 64 < cLine) : CallR X (.builtin "repr") (rShown X.K) := by
  intro pn s0 sl G ys ws R J rel told
  obtain ⟨b, dd, rfl, hD, showT, noD, hdep, hlen, fin⟩ := told
  obtain ⟨w1, rfl, hw1⟩ := vals1 rel
  cases hw1
  obtain ⟨cs, hreads⟩ := Dp.reads J dd _ _ hD rfl
  refine repr_of_reads' hreads showT (PyData.noDict_hsm noD) free (by omega) (fun _ _ z => z) (fun g2 tx tk keep => ?_) hlen
  exact ⟨.str dd.shown, G, J.kept (t' := tk) keep, ⟨tx, rfl⟩, fin⟩
end
/-- what the caller asks of the law's def, at the caller's own place: with that, the promise of the whole -/
def Asked (P : Program) (w : World) (K : PySem.W.Frag) (mg : Str → Option Value) (fa a : Addr) (ns : List Int) (s : Shared) : Prop :=
  ∀ (root : Heap) (G : Hp), K.In root → root.Ns mainGlobals mg → Env0 P w K mg root callerA [] s G → SqL K G a (ns.map V.int) →
    codeAny (model P w) callerA (.call (.ref fa) ⟨[.ref a], []⟩) (CR CX0 [] P w G s (fun v _ => v = .bl true) fun _ _ _ => False) s
theorem asked_all {P : Program} {w : World} {K : PySem.W.Frag} {mg bt : Str → Option Value} {fa a : Addr} {s : Shared} {us : List Value} {ns : List Int} (inK : K.In s.heap) (glob : s.heap.Ns mainGlobals mg) (blt : s.heap.Ns builtinsNs bt)
    (boot : ∀ y : Str, y ≠ "__name__" → bt y = bootBuiltins y) (nolim : s.heap.NoLimit) (gens : s.gens = #[]) (script : s.heap.get? a = some { cls := .type "list", data := .seq us.toArray }) (entries : IntsAre us ns) (len : ns.length ≤ sizeLine)
    (ask : Asked P w K mg fa a ns s) : codeAny (model P w) callerA (.call (.ref fa) ⟨[.ref a], []⟩) (fun r t => r = .ok (.ret (.bool true)) ∧ OldK s.heap t.heap ∧ t.os = s.os ∧ AllBare t.gens) s := by
  -- the heap of what is followed: the script alone, or nothing where the module holds it
  obtain ⟨G, lone, seen, okG, frozen, apart⟩ : ∃ G : Hp, (∀ b, G b ≠ none → b = a) ∧ SqL K G a (ns.map V.int) ∧ HOk P w G s.heap ∧ (∀ b u, G b = some u → ∃ o xs, u = .frz o (.lst xs)) ∧ (G a ≠ none → K.lookup a = none) := by
    cases look : K.lookup a with
    | some o =>
      have here := inK a o look
      rw [script] at here
      cases here
      exact ⟨fun _ => none, fun b z => absurd rfl z, .inr ⟨_, us.toArray, _, look, rfl, rfl, rfl, by rw [List.size_toArray, entries.length]; exact len, by simpa using vals_ints entries⟩, fun b u z => absurd (show (none : Option HO) = some u from z) (by simp), fun b u z => absurd (show (none : Option HO) = some u from z) (by simp), fun z => absurd rfl z⟩
    | none =>
      have only : ∀ b u, (if b = a then some (HO.frz { cls := .type "list", data := .seq us.toArray } (.lst (ns.map V.int))) else none) = some u → b = a ∧ u = .frz { cls := .type "list", data := .seq us.toArray } (.lst (ns.map V.int)) := fun b u z => by
        by_cases same : b = a
        · rw [if_pos same] at z
          exact ⟨same, (Option.some.inj z).symm⟩
        · rw [if_neg same] at z
          cases z
      refine ⟨fun b => if b = a then some (.frz { cls := .type "list", data := .seq us.toArray } (.lst (ns.map V.int))) else none, fun b z => ?_, .inl (.inr ⟨{ cls := .type "list", data := .seq us.toArray }, if_pos rfl⟩), fun b u z => ?_, fun b u z => ⟨_, _, (only b u z).2⟩, fun _ => rfl⟩
      · by_cases same : b = a
        · exact same
        · exact absurd (if_neg same) z
      · obtain ⟨rfl, rfl⟩ := only b u z
        exact ⟨script, by rw [List.length_map]; exact len, us, _, vals_ints entries, script⟩
  have hide : ∀ {b : Addr} {o : Obj}, s.heap.get? b = some o → G b = none → (hidT s.heap G).get? b = some o := fun there none => hidT_get there none
  have dicts : ∀ {b : Addr} {o : Obj} {es : Array DictEntry} {ep : Nat}, s.heap.get? b = some o → o.data = .dict es ep → G b = none := fun {b o es ep} there isD => by
    by_cases none : G b = none
    · exact none
    · have same := lone b none
      rw [same, script] at there
      cases there
      cases isD
  have spaces : ∀ {b : Addr} {m : Str → Option Value}, s.heap.Ns b m → (hidT s.heap G).Ns b m := fun {b m} ⟨o, es, ep, there, isD, rest⟩ => ⟨o, es, ep, hide there (dicts there isD), isD, rest⟩
  have inRoot : K.In (hidT s.heap G) := fun b o look => hide (inK b o look) (by
    by_cases none : G b = none
    · exact none
    · have same := lone b none
      rw [same] at none look
      rw [apart none] at look
      cases look)
  obtain ⟨lims, limNs, limNo⟩ := nolim
  have modOk : Mod K mg (hidT s.heap G) := ⟨inRoot, spaces glob, ⟨bt, spaces blt, boot⟩, ⟨lims, spaces limNs, limNo⟩⟩
  have env : Env0 P w K mg (hidT s.heap G) callerA [] s G := ⟨rfl, modOk, fun b o look => of_hidT look, Nat.le_of_eq (hidT_size _ _), trivial, fun b z => absurd (show b ∈ ([] : List Addr) from z) (by simp), okG, .of_eq gens⟩
  refine codeAny_mono (ask _ G inRoot (spaces glob) env seen) fun res t fin => ?_
  match res, fin with
  | .error _, fin => exact False.elim fin
  | .ok .next, fin => exact False.elim fin
  | .ok .brk, fin => exact False.elim fin
  | .ok .cont, fin => exact False.elim fin
  | .ok (.ret u), fin =>
    obtain ⟨v, G2, sameOs, bareG, unch, okG2, rel, isT⟩ := fin
    cases (show v = .bl true from isT)
    cases (show u = Value.bool true from rel)
    refine ⟨rfl, OldK.of_keep fun b o there => ?_, sameOs, bareG⟩
    cases gb : G b with
    | none => exact unch.keep b o there gb (fun z => absurd (show b ∈ ([] : List Addr) from z) (by simp)) (by simp)
    | some u =>
      obtain ⟨ob, xs, rfl⟩ := frozen b u gb
      have first := (okG b _ gb).1
      have later := (okG2 b _ (unch.frzs b ob _ gb)).1
      rw [there] at first
      cases first
      exact later
/-- in the place of a def's promise at every place: asked at the caller's -/
theorem walk_asked {l : PySem.W.OpenLaw} {n : Nat} {q : Program} {loose : List Str} {XP : (Str → Option Value) → Heap → Prop} {YP : World → Heap → Prop} {d : DefRec} {K : Params → PySem.W.Frag}
    (most : l.most = some n) (fits : n ≤ sizeLine) (plainArgs : d.params.defaults = []) (hY : ∀ (w : World) (h : Heap), YP w h → (K w.params).In h)
    (F : ∀ (w : World) (mg : Str → Option Value) (fa a : Addr) (s : Shared) (ns : List Int), (K w.params).In s.heap → s.heap.Ns mainGlobals mg → mg d.name = some (.ref fa) → ns.length ≤ n → Asked l.prog w (K w.params) mg fa a ns s) :
    PySem.W.WalkO q loose XP YP l.row.toRowW d [] (fun f vs => PySem.call f vs) := by
  refine Att.attach_call most plainArgs fun w s₀ s mg bt fa o pm cd doc a us ns Gr Yh _ _ _ named obj entries len gens => ?_
  have inK := hY w _ Yh
  exact asked_all inK Gr.T.g Gr.T.b Gr.T.builtins Gr.T.nolimit gens obj entries (Nat.le_trans len fits) (F w mg fa a s ns inK Gr.T.g named len)
end Own
namespace Own2
open PySem PySem.Spec PyProof.Rows L2
/-! repr of nested data, or of None -/
def rShown2 (K : PySem.W.Frag) : List V → Hp → VK → Prop := fun xs H Q => Own.rShown K xs H Q ∨ (xs = [.non] ∧ Q (.str "None") H)
variable {X : Cx}
theorem repr_shown2 (free : X.A.guards = some []) (room : X.A.units + 64 < cLine) : CallR X (.builtin "repr") (rShown2 X.K) := by
  intro pn s0 sl G ys ws R J rel told
  rcases told with told | ⟨rfl, fin⟩
  · exact Own.repr_shown free room pn s0 sl G ys ws R J rel told
  · obtain ⟨w1, rfl, hw1⟩ := vals1 rel
    cases hw1
    exact PySem.P.repr_of_none ⟨.str "None", G, J.tok _, ⟨_, rfl⟩, fin⟩
end Own2
/-! range(a, b) of whole numbers of any size, walked, and its list -/
namespace RgW
open PySem PySem.Spec PyProof.Rows L2
abbrev rgObj (lo hi : Int) (t u v : Tok) : Obj := { cls := .type "range", data := .fields #[.int lo t, .int hi u, .int 1 v] }
abbrev goer (lo hi : Int) : Obj := { cls := .type "longrange_iterator", data := .fields #[rawInt lo, rawInt (Builtin.Range.rangeSize lo hi 1), rawInt 1] }
theorem size_nat (lo hi : Int) : Builtin.Range.rangeSize lo hi 1 = ((hi - lo).toNat : Int) := by
  rw [rangeSize_one]
  split <;> omega
section
variable {P : Program} {w : World} {A : Around} {E : Value → Shared → Prop} {st : Shared}
theorem extend_long {R : Result → Shared → Prop} {rr : Addr} {lo hi : Int} {t u v : Tok} (calm : A.handled = none) (isr : IsRange st.heap rr lo hi 1 t u v) (great : Builtin.Range.small lo hi 1 = false) (few : (hi - lo).toNat ≤ 2 ^ 24)
    (D : Addr) (ans : Value) (cap : Nat) (here : st.heap.get? D = some { cls := .type "list", data := .seq #[] cap })
    (go : ∀ g tk acc c2, (∀ b o, b ≠ D → st.heap.get? b = some o → g.get? b = some o) → g.get? D = some { cls := .type "list", dict := none, data := .seq acc c2, slots := #[] } → ItemsOf (fun i x => ∃ k, x = .int (lo + i * 1) k) acc (hi - lo).toNat → R (.ok (.ret ans)) { st with heap := g, toks := tk }) :
    wpAny (model P w) A.in1 (Builtin.List.listExtendWith (.ref D) (.ref rr) ans)
      (fun fin t2 => match fin with | .done f => R (.ok f) t2 | .again c2 => c2.quiet = true ∧ codeAny (model P w) A c2 R t2) (fun e t2 => R (.error e) t2) st := by
  have unlike : D ≠ rr := fun e => by
    rw [e, isr] at here
    simp at here
  have below := Heap.lt_size here
  have off : D ≠ st.heap.objs.size := Nat.ne_of_lt below
  have off1 : D ∉ [st.heap.objs.size] := fun z => off (List.mem_singleton.mp z)
  have walk := (Walks.longrange (prog := P) (w := w) (A := A.in1) calm st.heap.objs.size lo 1 (hi - lo).toNat).toS
  have rest : ∀ (g : Heap) (c1 tk : Nat), IsLongIter g st.heap.objs.size (lo + ((0 : Nat) : Int) * 1) (((hi - lo).toNat : Int) - ((0 : Nat) : Int)) 1 → (∀ b o, b ≠ D → st.heap.get? b = some o → g.get? b = some o) →
      g.get? D = some { cls := .type "list", data := .seq #[] c1 } → codeAny (model P w) A (.builtin "list.extend.loop" ⟨[.ref D, .ref st.heap.objs.size, ans], []⟩) R { st with heap := g, toks := tk } := by
    intro g c1 tk at0 keep there
    refine codeAny_extend_loopS walk (by rw [sizeLine_eq]; omega) D off1 ans (hi - lo).toNat 0 _ #[] c1 rfl (Nat.zero_le _) at0 there (ItemsOf.nil _) fun t2 acc c2 mv there2 items => ?_
    rw [Moved.eq_with mv]
    refine go t2.heap t2.toks acc c2 (fun b o nb e => mv.heap b o (fun z => ?_) (keep b o nb e)) there2 items
    rcases List.mem_cons.mp z with q | q
    · exact nb q
    · exact Nat.lt_irrefl _ (by have := Heap.lt_size e; rwa [List.mem_singleton.mp q] at this)
  unfold Builtin.List.listExtendWith
  refine wpAny_bind (wpAny_typeOf (T := "range") ⟨_, isr, rfl⟩ ?_)
  have n1 : Builtin.List.listSameRef (.ref D) (.ref rr) = false := by simp [Builtin.List.listSameRef, unlike]
  have n2 : (Value.type "range" == Value.type "list") = false := by decide
  have n3 : (Value.type "range" == Value.type "tuple") = false := by decide
  simp only [n1, n2, n3, Bool.or_false, Bool.false_eq_true, if_false]
  refine wpAny_bind (wpAny_pyIter_longrange isr great ?_)
  refine wpAny_bind (wpAny_holding (wpAny_hint_range (n := (hi - lo).toNat) (Heap.get?_push_of_some _ isr) (size_nat lo hi) few ?_))
  have first : IsLongIter (st.heap.push (goer lo hi)) st.heap.objs.size (lo + ((0 : Nat) : Int) * 1) (((hi - lo).toNat : Int) - ((0 : Nat) : Int)) 1 := by
    show IsLongIter _ _ _ _ _
    have e1 : lo + ((0 : Nat) : Int) * 1 = lo := by simp
    have e2 : ((hi - lo).toNat : Int) - ((0 : Nat) : Int) = Builtin.Range.rangeSize lo hi 1 := by rw [size_nat]; omega
    rw [e1, e2]
    exact Heap.get?_push_size _ rfl
  have there1 := Heap.get?_push_of_some (goer lo hi) here
  refine wpAny_ite_split (fun _ => ?_) (fun _ => wpAny_pure ⟨plainId_quiet F.plain_extend_loop _, rest _ cap _ first (fun b o _ e => Heap.get?_push_of_some _ e) there1⟩)
  refine wpAny_bind (wpAny_rule (wpAny_bind ?_))
  show wpAny _ _ (updateSeq D (·.push .none) >>= fun _ => updateSeq D (·.pop)) _ _ _
  refine wpAny_bind (wpAny_updateSeq there1 rfl ?_)
  have there2 := Heap.get?_update_self (Obj.mapSeq (·.push Value.none)) there1 rfl
  refine wpAny_updateSeq (hz := by seq_fits) there2 rfl ?_
  have there3 := Heap.get?_update_self (Obj.mapSeq (·.pop)) there2 rfl
  refine wpAny_pure ⟨plainId_quiet F.plain_extend_loop _, rest _ _ _ ?_ (fun b o nb e => ?_) there3⟩
  · exact (Heap.get?_update_other _ _ off).trans ((Heap.get?_update_other _ _ off).trans first)
  · exact (Heap.get?_update_other _ _ nb.symm).trans ((Heap.get?_update_other _ _ nb.symm).trans (Heap.get?_push_of_some _ e))
theorem init_long {R : Result → Shared → Prop} {rr : Addr} {lo hi : Int} {t u v : Tok} (calm : A.handled = none) (isr : IsRange st.heap rr lo hi 1 t u v) (great : Builtin.Range.small lo hi 1 = false) (few : (hi - lo).toNat ≤ 2 ^ 24)
    (D : Addr) (here : st.heap.get? D = some { cls := .type "list", data := .seq #[] })
    (go : ∀ g tk acc c2, (∀ b o, b ≠ D → st.heap.get? b = some o → g.get? b = some o) → g.get? D = some { cls := .type "list", dict := none, data := .seq acc c2, slots := #[] } → ItemsOf (fun i x => ∃ k, x = .int (lo + i * 1) k) acc (hi - lo).toNat → R (.ok (.ret .none)) { st with heap := g, toks := tk }) :
    wpAny (model P w) A.in1 (Builtin.«list.__init__» ⟨[.ref D, .ref rr], []⟩)
      (fun fin t2 => match fin with | .done f => R (.ok f) t2 | .again c2 => c2.quiet = true ∧ codeAny (model P w) A c2 R t2) (fun e t2 => R (.error e) t2) st := by
  have unlike : rr ≠ D := fun e => by
    rw [← e, isr] at here
    simp at here
  show wpAny _ _ (do let old ← Builtin.List.listItems (.ref D); Builtin.List.listUpdate (.ref D) (fun _ => #[]); letGo old.toList.reverse; Builtin.List.listExtendWith (.ref D) (.ref rr) .none) _ _ st
  refine wpAny_bind ?_
  unfold Builtin.List.listItems
  refine wpAny_bind (wpAny_seqItems here rfl (wpAny_pure ?_))
  show wpAny _ _ (updateSeq D (fun _ => #[]) >>= fun _ => letGo (#[] : Array Value).toList.reverse >>= fun _ => Builtin.List.listExtendWith (.ref D) (.ref rr) .none) _ _ st
  refine wpAny_bind (wpAny_updateSeq here rfl ?_)
  have there := Heap.get?_update_self (Obj.mapSeq (fun _ => (#[] : Array Value))) here rfl
  have same : ∀ b o, b ≠ D → st.heap.get? b = some o → (st.heap.update D (Obj.mapSeq (fun _ => (#[] : Array Value)))).get? b = some o := fun b o nb e => (Heap.get?_update_other _ _ nb.symm).trans e
  exact wpAny_bind (wpAny_letGo (extend_long calm (same rr _ unlike isr) great few D .none _ there fun g tk acc c2 keep new items => go g tk acc c2 (fun b o nb e => keep b o nb (same b o nb e)) new items))
theorem list_long {W : Value → Shared → Prop} {rr : Addr} {lo hi : Int} {t u v : Tok} (calm : A.handled = none) (isr : IsRange st.heap rr lo hi 1 t u v) (great : Builtin.Range.small lo hi 1 = false) (few : (hi - lo).toNat ≤ 2 ^ 24)
    (go : ∀ g tk acc c2, (∀ b o, st.heap.get? b = some o → g.get? b = some o) → g.get? st.heap.objs.size = some { cls := .type "list", dict := none, data := .seq acc c2, slots := #[] } → ItemsOf (fun i x => ∃ k, x = .int (lo + i * 1) k) acc (hi - lo).toNat → W (.ref st.heap.objs.size) { st with heap := g, toks := tk }) :
    wpAny (model P w) A (call (.type "list") [.ref rr]) W E st := by
  refine callType_codes (Q₁ := fun ob t1 => ob = .ref st.heap.objs.size ∧ t1 = { st with heap := st.heap.push { cls := .type "list", data := .seq #[] } }) F.called_list (F.typeCall_list_1 _) F.entry_list_init (code_list_new _ ⟨rfl, rfl⟩) fun ob t1 got => ?_
  obtain ⟨rfl, rfl⟩ := got
  have here : (st.heap.push { cls := .type "list", data := .seq #[] }).get? st.heap.objs.size = some { cls := .type "list", data := .seq #[] } := Heap.get?_push_size _ rfl
  exact ⟨⟨_, here, rfl⟩, F.args_list_init_2 _ _, init_long (A := A.in1) calm (Heap.get?_push_of_some _ isr) great few _ here fun g tk acc c2 keep new items => ⟨rfl, go g tk acc c2 (fun b o e => keep b o (Nat.ne_of_lt (Heap.lt_size e)) (Heap.get?_push_of_some _ e)) new items⟩⟩
end
theorem turn_long {P : Program} {w : World} {K : PySem.W.Frag} {tg : Expr} (it : Addr) (lo : Int) (n : Nat) : Turn P w K tg (Itr lo n) [it] it (fun i g => IsLongIter g it (lo + (i : Nat) * 1) ((n : Int) - (i : Nat)) 1) where
  mem := List.mem_singleton_self _
  obj := fun i g at_ b hb => by
    rw [List.mem_singleton.mp hb]
    exact ⟨_, at_, fun v z => by
      have q : Data.fields _ = Data.cell v := z
      cases q⟩
  keep := fun i g g2 at_ same => same it (List.mem_singleton_self _) _ at_
  item := by
    intro X eP ew eK calm i pins s σ H E I fp at_ more
    subst eP ew eK
    obtain ⟨f0, f1, f2, f3, f4, f5⟩ := fp it (List.mem_singleton_self _)
    refine (Walks.longrange (prog := X.prog) (w := X.w) (I.ok.hd calm) it lo 1 n).item i s _ _ more at_ fun x g tk isx at2 same => ?_
    obtain ⟨k, rfl⟩ := isx
    have J : Inv X pins σ H { s with heap := g, toks := tk } := I.turned (fun b o nb e => same b o (by simpa using nb) e) f0 f1 f3 f4 f5
    exact ⟨_, rfl, go_of (s := { s with heap := g, toks := tk }) (n := "longrange_iterator") at2 rfl rfl (by decide) ⟨.int (lo + i), H, J, ⟨k, by rw [Int.mul_one]⟩, ⟨rfl, rfl⟩, at2, fun b hb => (fp b hb).1⟩⟩
  done := by
    intro X eP ew eK calm i pins s σ H E I fp at_ over
    subst eP ew eK
    obtain ⟨f0, f1, f2, f3, f4, f5⟩ := fp it (List.mem_singleton_self _)
    exact wpAny_pyNext_long_end (I.ok.hd calm) at_ (by have : n ≤ i := over; omega) fun g same => ⟨rfl, I.turned (t' := s.toks) (fun b o nb e => same b o nb e) f0 f1 f3 f4 f5⟩
  self := fun _ _ _ _ _ at_ got => wpAny_pyIter_longiter at_ got
section
variable {X : Cx} {tg : Expr}
theorem walk_any {pins : List (Addr × Obj)} {σ : L2.St} {H : Hp} {s : Shared} {R : It → Hp → Prop} {E : Value → Shared → Prop} {lo hi : Int} {t u v : Tok} {tk : Nat} (I : Inv X pins σ H s) (q : R (Itr lo (hi - lo).toNat) H) :
    wpAny (model X.prog X.w) X.A (pyIter (.ref s.heap.objs.size)) (PIE X pins σ tg R) E { s with heap := s.heap.push (rgObj lo hi t u v), toks := tk } := by
  have J : Inv X pins σ H { s with heap := s.heap.push (rgObj lo hi t u v), toks := tk } := I.kept fun b o e => Heap.get?_push_of_some _ e
  have own : ∀ b ∈ [(s.heap.push (rgObj lo hi t u v)).objs.size], FpOk X pins H b := fun b hb => by
    rw [List.mem_singleton.mp hb]
    exact J.fpOk (Nat.le_refl _) (J.hok.fresh (Nat.le_refl _))
  have e1 : lo + ((0 : Nat) : Int) * 1 = lo := by simp
  have e2 : (((hi - lo).toNat : Nat) : Int) - ((0 : Nat) : Int) = Builtin.Range.rangeSize lo hi 1 := by rw [size_nat]; omega
  by_cases little : Builtin.Range.small lo hi 1 = true
  · refine wpAny_pyIter_range (IsRange.new ..) little ⟨_, _, _, _, H, rfl, J.kept (t' := tk) fun b o e => Heap.get?_push_of_some _ e, turn_range _ lo (hi - lo).toNat, ?_, own, q⟩
    show IsRangeIter _ _ (lo + ((0 : Nat) : Int) * 1) ((((hi - lo).toNat : Nat) : Int) - ((0 : Nat) : Int)) 1
    rw [e1, e2]
    exact Heap.get?_push_size _ rfl
  · refine wpAny_pyIter_longrange (IsRange.new ..) (Bool.eq_false_iff.mpr little) ⟨_, _, _, _, H, rfl, J.kept (t' := tk) fun b o e => Heap.get?_push_of_some _ e, turn_long _ lo (hi - lo).toNat, ?_, own, q⟩
    show IsLongIter _ _ (lo + ((0 : Nat) : Int) * 1) ((((hi - lo).toNat : Nat) : Int) - ((0 : Nat) : Int)) 1
    rw [e1, e2]
    exact Heap.get?_push_size _ rfl
def iRngW (ta : TA) : TI := fun σ H R => ta σ H fun vs H1 => ∃ i j : Int, vs = [.int i, .int j] ∧ R (Itr i (j - i).toNat) H1
theorem pi_rangeW {a b : Expr} {ta : TA} {p pos : Pos} (hg : Gl X "range") (hm : X.mg "range" = none) (ha : PA X [a, b] ta) (hs : starEach [a, b] X.env = [(false, eval a X.env), (false, eval b X.env)] := by rfl) (hs2 : starEach [b] X.env = [(false, eval b X.env)] := by rfl) :
    PI X tg (.Call (.Name "range" p) [a, b] [] pos) (iRngW ta) := by
  refine ⟨fun pins s σ H R I want => ?_⟩
  refine Call_ (ld_blt I hg hm boot_range (PyProof.Rows.callWith_type1 (thn (ha.run pos pins s σ H _ I want) fun us s1 ⟨vs, H1, I1, r1, i, j, e, q⟩ => ?_) (by rw [hs, hs2]) (by rw [hs2]; rfl)))
  subst e
  cases r1 with
  | cons k1 rest =>
    cases rest with
    | cons k2 none_ =>
      cases none_
      obtain ⟨tok1, rfl⟩ := k1
      obtain ⟨tok2, rfl⟩ := k2
      exact call_range_2 (walk_any I1 q)
variable {e : Expr} {te : L2.St → Hp → (Int → Int → Hp → Prop) → Prop}
def tLstRgW (te : L2.St → Hp → (Int → Int → Hp → Prop) → Prop) : TE := fun σ H Q => te σ H fun a b H1 => (b - a).toNat ≤ 2 ^ 24 ∧ ∀ q, H1 q = none → Q (.ref q) (upd H1 q (.lst (rgV a b)))
theorem pe_listRgW {p pos : Pos} (hc : X.calm = true) (hg : Gl X "list") (hm : X.mg "list" = none) (he : PRg X e te) (na : starEach [e] X.env = (false, eval e X.env) :: starEach [] X.env := by rfl) : PE X (.Call (.Name "list" p) [e] [] pos) (tLstRgW te) := by
  refine ⟨fun pins s σ H Q I want => ?_⟩
  refine Call_ (ld_blt I hg hm boot_list (PyProof.Rows.callWith_type1 (args_cons (thn (he pins s σ H _ I want) fun x s1 ⟨r, a, b, t, u, v, H1, ex, isr, I1, few, q⟩ => args_nil ?_) na) na))
  subst ex
  have fin : ∀ (g : Heap) (tk : Nat) (acc : Array Value) (c2 : Nat), (∀ b o, s1.heap.get? b = some o → g.get? b = some o) → g.get? s1.heap.objs.size = some { cls := .type "list", dict := none, data := .seq acc c2, slots := #[] } → ItemsOf (fun i x => ∃ k, x = .int (a + i * 1) k) acc (b - a).toNat → EP X pins σ Q (.ref s1.heap.objs.size) { s1 with heap := g, toks := tk } := fun g tk acc c2 keep new items =>
    ⟨.ref s1.heap.objs.size, upd H1 s1.heap.objs.size (.lst (rgV a b)), I1.laid keep (Nat.le_refl _) (show ObjOk X.prog X.w _ _ _ (.lst (rgV a b)) from ⟨by rw [rgV_length, sizeLine_eq]; omega, acc.toList, c2, vals_rg items, by rw [Array.toArray_toList]; exact new⟩), rfl, q _ (I1.hok.fresh (Nat.le_refl _))⟩
  by_cases little : Builtin.Range.small a b 1 = true
  · exact call_list_range (n := (b - a).toNat) (I1.ok.hd hc) isr little (size_nat a b) few fin
  · exact list_long (I1.ok.hd hc) isr (Bool.eq_false_iff.mpr little) few fin
end
end RgW
/-! a range kept by a name, walked -/
namespace RgV
open PySem PySem.Spec PyProof.Rows L2
section
variable {X : Cx}
theorem cr_range1 : CallR X (.type "range") (fun vs H Q => ∃ i, vs = [V.int i] ∧ ∀ p, H p = none → Q (.ref p) (upd H p (.rng 0 i))) := by
  intro pins s σ H vs us Q I r h
  obtain ⟨i, rfl, q⟩ := h
  cases r with
  | cons r1 rr =>
    cases rr
    obtain ⟨t, rfl⟩ := r1
    refine call_range_1 ⟨.ref s.heap.objs.size, upd H s.heap.objs.size (.rng 0 i), I.laid (t' := s.toks + 1 + 1) (fun b o e => Heap.get?_push_of_some _ e) (Nat.le_refl _) ?_, rfl, q _ (I.hok.fresh (Nat.le_refl _))⟩
    exact ⟨s.toks, t, s.toks + 1, Heap.get?_push_size _ rfl⟩
def iRngV (te : TE) : TI := fun σ H R => te σ H fun x H1 => ∃ a n, x = .ref a ∧ H1 a = some (.rng 0 n) ∧ -(2 ^ 62) ≤ n ∧ n < 2 ^ 62 ∧ R (Itr 0 n.toNat) H1
theorem pi_rngV {tg e : Expr} {te : TE} (he : PE X e te) : PI X tg e (iRngV te) := by
  refine ⟨fun pins s σ H R I h => ?_⟩
  refine thn (he.run pins s σ H _ I h) fun v s1 ⟨x, H1, I1, r1, q1⟩ => ?_
  obtain ⟨a, n, e, ha, b1, b2, q⟩ := q1
  subst e
  cases r1
  obtain ⟨t1, t2, t3, ho⟩ := I1.hok a _ ha
  refine wpAny_pyIter_range ho (small_one (by decide) (by decide) b1 b2) ?_
  refine ⟨s1.heap.objs.size, [s1.heap.objs.size], _, _, H1, rfl, I1.kept (t' := s1.toks) fun b o e => Heap.get?_push_of_some _ e, turn_range _ 0 n.toNat, ?_, fun b hb => ?_, q⟩
  · have e1 : (0 : Int) + ((0 : Nat) : Int) * 1 = 0 := by simp
    have e2 : ((n.toNat : Nat) : Int) - ((0 : Nat) : Int) = Builtin.Range.rangeSize 0 n 1 := by rw [rangeSize_one]; split <;> omega
    show IsRangeIter _ _ ((0 : Int) + ((0 : Nat) : Int) * 1) (((n.toNat : Nat) : Int) - ((0 : Nat) : Int)) 1
    rw [e1, e2]
    exact Heap.get?_push_size _ rfl
  · have e : b = s1.heap.objs.size := by simpa using hb
    subst e
    exact I1.fpOk (Nat.le_refl _) (I1.hok.fresh (Nat.le_refl _))
end
end RgV
namespace SbE35
open PySem PySem.Spec PyProof.Rows L2 Evl HT 
/-! ### the text -/
def topS (i : Nat) : Stmt := PySem.Challenge.pw_signbook_k35_tasks_that_are_not_whole.main.body.getD i (.Pass ⟨0, 0, 0, 0⟩)
def clsB : Stmt → List Stmt
  | .ClassDef (body := b) .. => b
  | _ => []
abbrev s_is_whole : Stmt := topS 9
theorem sc_is_whole : FnScope ["thing"] ["thing"] (defScope s_is_whole) := ⟨rfl, rfl, rfl, by decide +kernel, rfl, by decide +kernel, by decide +kernel⟩
abbrev s_is_fraction : Stmt := topS 10
theorem sc_is_fraction : FnScope ["thing", "top", "bottom"] ["thing"] (defScope s_is_fraction) := ⟨rfl, rfl, rfl, by decide +kernel, rfl, by decide +kernel, by decide +kernel⟩
abbrev s_fraction : Stmt := topS 11
theorem sc_fraction : FnScope ["top", "bottom", "common"] ["top", "bottom"] (defScope s_fraction) := ⟨rfl, rfl, rfl, by decide +kernel, rfl, by decide +kernel, by decide +kernel⟩
abbrev s_plus : Stmt := topS 12
theorem sc_plus : FnScope ["one", "other"] ["one", "other"] (defScope s_plus) := ⟨rfl, rfl, rfl, by decide +kernel, rfl, by decide +kernel, by decide +kernel⟩
abbrev s_minus : Stmt := topS 13
theorem sc_minus : FnScope ["one", "other"] ["one", "other"] (defScope s_minus) := ⟨rfl, rfl, rfl, by decide +kernel, rfl, by decide +kernel, by decide +kernel⟩
abbrev s_times : Stmt := topS 14
theorem sc_times : FnScope ["one", "other"] ["one", "other"] (defScope s_times) := ⟨rfl, rfl, rfl, by decide +kernel, rfl, by decide +kernel, by decide +kernel⟩
abbrev s_floor_of : Stmt := topS 15
theorem sc_floor_of : FnScope ["value"] ["value"] (defScope s_floor_of) := ⟨rfl, rfl, rfl, by decide +kernel, rfl, by decide +kernel, by decide +kernel⟩
abbrev s_ceiling_of : Stmt := topS 16
theorem sc_ceiling_of : FnScope ["value"] ["value"] (defScope s_ceiling_of) := ⟨rfl, rfl, rfl, by decide +kernel, rfl, by decide +kernel, by decide +kernel⟩
abbrev s_is_long : Stmt := topS 18
theorem sc_is_long : FnScope ["thing", "many"] ["thing", "many"] (defScope s_is_long) := ⟨rfl, rfl, rfl, by decide +kernel, rfl, by decide +kernel, by decide +kernel⟩
abbrev s_is_fractions : Stmt := topS 19
theorem sc_is_fractions : FnScope ["thing", "many", "value"] ["thing", "many"] (defScope s_is_fractions) := ⟨rfl, rfl, rfl, by decide +kernel, rfl, by decide +kernel, by decide +kernel⟩
abbrev s_is_table : Stmt := topS 22
theorem sc_is_table : FnScope ["thing", "row"] ["thing"] (defScope s_is_table) := ⟨rfl, rfl, rfl, by decide +kernel, rfl, by decide +kernel, by decide +kernel⟩
abbrev s_is_row : Stmt := topS 23
theorem sc_is_row : FnScope ["thing", "entry"] ["thing"] (defScope s_is_row) := ⟨rfl, rfl, rfl, by decide +kernel, rfl, by decide +kernel, by decide +kernel⟩
abbrev s_check_table : Stmt := topS 24
theorem sc_check_table : FnScope ["thing"] ["thing"] (defScope s_check_table) := ⟨rfl, rfl, rfl, by decide +kernel, rfl, by decide +kernel, by decide +kernel⟩
abbrev s_check_pick : Stmt := topS 25
theorem sc_check_pick : FnScope ["thing", "many"] ["thing", "many"] (defScope s_check_pick) := ⟨rfl, rfl, rfl, by decide +kernel, rfl, by decide +kernel, by decide +kernel⟩
abbrev s_check_places : Stmt := topS 26
theorem sc_check_places : FnScope ["thing", "many", "ahead", "at", "place"] ["thing", "many"] (defScope s_check_places) := ⟨rfl, rfl, rfl, by decide +kernel, rfl, by decide +kernel, by decide +kernel⟩
abbrev s_is_place : Stmt := topS 27
theorem sc_is_place : FnScope ["thing", "many"] ["thing", "many"] (defScope s_is_place) := ⟨rfl, rfl, rfl, by decide +kernel, rfl, by decide +kernel, by decide +kernel⟩
abbrev s_shape : Stmt := topS 28
theorem sc_shape : FnScope ["table"] ["table"] (defScope s_shape) := ⟨rfl, rfl, rfl, by decide +kernel, rfl, by decide +kernel, by decide +kernel⟩
abbrev s_piece : Stmt := topS 29
theorem sc_piece : FnScope ["table", "rows", "columns", "many", "wide", "row", "column"] ["table", "rows", "columns"] (defScope s_piece) := ⟨rfl, rfl, rfl, by decide +kernel, rfl, by decide +kernel, by decide +kernel⟩
abbrev s_led : Stmt := topS 30
theorem sc_led : FnScope ["table", "xs", "row"] ["table", "xs"] (defScope s_led) := ⟨rfl, rfl, rfl, by decide +kernel, rfl, by decide +kernel, by decide +kernel⟩
abbrev s_row_sum : Stmt := topS 31
theorem sc_row_sum : FnScope ["row", "xs", "total", "entry", "x"] ["row", "xs"] (defScope s_row_sum) := ⟨rfl, rfl, rfl, by decide +kernel, rfl, by decide +kernel, by decide +kernel⟩
abbrev s_square_value : Stmt := topS 32
theorem sc_square_value : FnScope ["square", "steps", "corner"] ["square"] (defScope s_square_value) := ⟨rfl, rfl, rfl, by decide +kernel, rfl, by decide +kernel, by decide +kernel⟩
abbrev s_cleared : Stmt := topS 33
theorem sc_cleared : FnScope ["table", "rows", "sign", "corner", "steps", "column", "found", "lead", "others", "at", "row"] ["table"] (defScope s_cleared) := ⟨rfl, rfl, rfl, by decide +kernel, rfl, by decide +kernel, by decide +kernel⟩
abbrev s_cleared_row : Stmt := topS 34
theorem sc_cleared_row : FnScope ["row", "lead", "column", "corner", "entry", "top"] ["row", "lead", "column", "corner"] (defScope s_cleared_row) := ⟨rfl, rfl, rfl, by decide +kernel, rfl, by decide +kernel, by decide +kernel⟩
abbrev s_bad_square : Stmt := topS 36
theorem sc_bad_square : FnScope ["table", "many", "wide", "known", "size", "grown", "rows", "columns", "value"] ["table"] (defScope s_bad_square) := ⟨rfl, rfl, rfl, by decide +kernel, rfl, by decide +kernel, by decide +kernel⟩
abbrev s_is_bad : Stmt := topS 37
theorem sc_is_bad : FnScope ["value"] ["value"] (defScope s_is_bad) := ⟨rfl, rfl, rfl, by decide +kernel, rfl, by decide +kernel, by decide +kernel⟩
abbrev s_unfolded : Stmt := topS 38
theorem sc_unfolded : FnScope ["table", "rows", "columns", "known", "ahead", "last", "total", "at", "column", "entry", "part"] ["table", "rows", "columns", "known"] (defScope s_unfolded) := ⟨rfl, rfl, rfl, by decide +kernel, rfl, by decide +kernel, by decide +kernel⟩
abbrev s_solved : Stmt := topS 40
theorem sc_solved : FnScope ["square", "totals", "bottom", "at"] ["square", "totals"] (defScope s_solved) := ⟨rfl, rfl, rfl, by decide +kernel, rfl, by decide +kernel, by decide +kernel⟩
abbrev s_replaced : Stmt := topS 41
theorem sc_replaced : FnScope ["square", "column", "totals", "row", "total"] ["square", "column", "totals"] (defScope s_replaced) := ⟨rfl, rfl, rfl, by decide +kernel, rfl, by decide +kernel, by decide +kernel⟩
abbrev s_spread_out : Stmt := topS 42
theorem sc_spread_out : FnScope ["values", "columns", "wide", "told", "value", "column", "_"] ["values", "columns", "wide"] (defScope s_spread_out) := ⟨rfl, rfl, rfl, by decide +kernel, rfl, by decide +kernel, by decide +kernel⟩
abbrev s_unwhole : Stmt := topS 43
theorem sc_unwhole : FnScope ["table", "found", "rows", "columns", "_", "wide", "rests", "x", "bounds", "gains", "total", "column", "row"] ["table"] (defScope s_unwhole) := ⟨rfl, rfl, rfl, by decide +kernel, rfl, by decide +kernel, by decide +kernel⟩
abbrev s_first_rests : Stmt := topS 44
theorem sc_first_rests : FnScope ["square", "places", "lists", "broken", "at", "row", "values", "_", "bottom", "value"] ["square"] (defScope s_first_rests) := ⟨rfl, rfl, rfl, by decide +kernel, rfl, by decide +kernel, by decide +kernel⟩
abbrev s__law_source_of : Stmt := topS 46
theorem sc__law_source_of : FnScope ["_law_cell"] ["_law_cell"] (defScope s__law_source_of) := ⟨rfl, rfl, rfl, by decide +kernel, rfl, by decide +kernel, by decide +kernel⟩
abbrev s__law_next : Stmt := topS 47
theorem sc__law_next : FnScope ["_law_source", "_law_many", "_law_found", "_law_prime", "_law_figure"] ["_law_source", "_law_many"] (defScope s__law_next) := ⟨rfl, rfl, rfl, by decide +kernel, rfl, by decide +kernel, by decide +kernel⟩
abbrev s__law_one : Stmt := topS 48
theorem sc__law_one : FnScope ["_law_source", "_law_some"] ["_law_source", "_law_some"] (defScope s__law_one) := ⟨rfl, rfl, rfl, by decide +kernel, rfl, by decide +kernel, by decide +kernel⟩
abbrev s__law_cell_at : Stmt := topS 49
theorem sc__law_cell_at : FnScope ["_law_script", "_law_k"] ["_law_script", "_law_k"] (defScope s__law_cell_at) := ⟨rfl, rfl, rfl, by decide +kernel, rfl, by decide +kernel, by decide +kernel⟩
abbrev s__law_mixed : Stmt := topS 50
theorem sc__law_mixed : FnScope ["_law_source", "_law_some", "_law_left", "_law_found"] ["_law_source", "_law_some"] (defScope s__law_mixed) := ⟨rfl, rfl, rfl, by decide +kernel, rfl, by decide +kernel, by decide +kernel⟩
abbrev s__law_ends : Stmt := topS 51
theorem sc__law_ends : FnScope ["_law_source", "_law_many", "_law_places", "_law_found", "_law_k", "_law_two"] ["_law_source", "_law_many"] (defScope s__law_ends) := ⟨rfl, rfl, rfl, by decide +kernel, rfl, by decide +kernel, by decide +kernel⟩
abbrev s__law_net : Stmt := topS 52
theorem sc__law_net : FnScope ["_law_ends_here", "_law_arcs", "_law_far", "_law_k", "_law_begin", "_law_goal", "_law_step", "_law_other", "_law_a", "_law_b"] ["_law_ends_here", "_law_arcs"] (defScope s__law_net) := ⟨rfl, rfl, rfl, by decide +kernel, rfl, by decide +kernel, by decide +kernel⟩
abbrev s__law_net_drawn : Stmt := topS 53
theorem sc__law_net_drawn : FnScope ["_law_source", "_law_many", "_law_wide", "_law_arcs", "_law_k"] ["_law_source", "_law_many", "_law_wide"] (defScope s__law_net_drawn) := ⟨rfl, rfl, rfl, by decide +kernel, rfl, by decide +kernel, by decide +kernel⟩
abbrev s__law_stretches : Stmt := topS 54
theorem sc__law_stretches : FnScope ["_law_source", "_law_many", "_law_wide", "_law_order", "_law_found", "_law_k", "_law_start", "_law_length", "_law_column"] ["_law_source", "_law_many", "_law_wide"] (defScope s__law_stretches) := ⟨rfl, rfl, rfl, by decide +kernel, rfl, by decide +kernel, by decide +kernel⟩
abbrev s__law_swung : Stmt := topS 55
theorem sc__law_swung : FnScope ["_law_source", "_law_table_here", "_law_rows", "_law_signs", "_law_found", "_law_row", "_law_sign", "_law_k", "_law_column", "_law_a", "_law_b"] ["_law_source", "_law_table_here"] (defScope s__law_swung) := ⟨rfl, rfl, rfl, by decide +kernel, rfl, by decide +kernel, by decide +kernel⟩
abbrev s__law_table : Stmt := topS 56
theorem sc__law_table : FnScope ["_law_source", "_law_most", "_law_many", "_law_wide", "_law_kind", "_law_table_here", "_law_k", "_law_row"] ["_law_source", "_law_most"] (defScope s__law_table) := ⟨rfl, rfl, rfl, by decide +kernel, rfl, by decide +kernel, by decide +kernel⟩
abbrev s__law_divisor : Stmt := topS 57
theorem sc__law_divisor : FnScope ["_law_one_here", "_law_other"] ["_law_one_here", "_law_other"] (defScope s__law_divisor) := ⟨rfl, rfl, rfl, by decide +kernel, rfl, by decide +kernel, by decide +kernel⟩
abbrev s__law_lowest : Stmt := topS 58
theorem sc__law_lowest : FnScope ["_law_top", "_law_bottom", "_law_share"] ["_law_top", "_law_bottom"] (defScope s__law_lowest) := ⟨rfl, rfl, rfl, by decide +kernel, rfl, by decide +kernel, by decide +kernel⟩
abbrev s__law_common : Stmt := topS 59
theorem sc__law_common : FnScope ["_law_xs", "_law_bottom", "_law_top", "_law_low"] ["_law_xs"] (defScope s__law_common) := ⟨rfl, rfl, rfl, by decide +kernel, rfl, by decide +kernel, by decide +kernel⟩
abbrev s__law_sums : Stmt := topS 60
theorem sc__law_sums : FnScope ["_law_rows", "_law_xs", "_law_bottom", "_law_tops", "_law_row", "_law_a", "_law_b"] ["_law_rows", "_law_xs"] (defScope s__law_sums) := ⟨rfl, rfl, rfl, by decide +kernel, rfl, by decide +kernel, by decide +kernel⟩
abbrev s__law_sized : Stmt := topS 61
theorem sc__law_sized : FnScope ["_law_many", "_law_size", "_law_found", "_law_turn", "_law_longer", "_law_places", "_law_begin", "_law_k"] ["_law_many", "_law_size"] (defScope s__law_sized) := ⟨rfl, rfl, rfl, by decide +kernel, rfl, by decide +kernel, by decide +kernel⟩
abbrev s__law_minor : Stmt := topS 62
theorem sc__law_minor : FnScope ["_law_rows", "_law_found", "_law_k", "_law_rest", "_law_row"] ["_law_rows"] (defScope s__law_minor) := ⟨rfl, rfl, rfl, by decide +kernel, rfl, by decide +kernel, by decide +kernel⟩
abbrev s__law_solution : Stmt := topS 63
theorem sc__law_solution : FnScope ["_law_rows", "_law_sides", "_law_whole", "_law_found", "_law_k", "_law_other", "_law_row", "_law_side"] ["_law_rows", "_law_sides"] (defScope s__law_solution) := ⟨rfl, rfl, rfl, by decide +kernel, rfl, by decide +kernel, by decide +kernel⟩
abbrev s__law_bad : Stmt := topS 64
theorem sc__law_bad : FnScope ["_law_table_here", "_law_size", "_law_rows", "_law_columns", "_law_i", "_law_j"] ["_law_table_here"] (defScope s__law_bad) := ⟨rfl, rfl, rfl, by decide +kernel, rfl, by decide +kernel, by decide +kernel⟩
abbrev s__law_spent : Stmt := topS 65
theorem sc__law_spent : FnScope ["_law_got", "_law_part"] ["_law_got"] (defScope s__law_spent) := ⟨rfl, rfl, rfl, by decide +kernel, rfl, by decide +kernel, by decide +kernel⟩
abbrev s__law_due : Stmt := topS 66
theorem sc__law_due : FnScope ["_law_table_here", "_law_bad_here", "_law_rows", "_law_columns", "_law_square", "_law_found", "_law_k", "_law_us", "_law_xs", "_law_j", "_law_one_here", "_law_bottom", "_law_tops", "_law_bounds", "_law_gains", "_law_i", "_law_top"] ["_law_table_here"] (defScope s__law_due) := ⟨rfl, rfl, rfl, by decide +kernel, rfl, by decide +kernel, by decide +kernel⟩
abbrev s_law : Stmt := topS 67
theorem sc_law : FnScope ["_law_script", "_law_cell", "_law_source", "_law_table_here", "_law_due_here", "_law_handed", "_law_turn", "_law_found"] ["_law_script"] (defScope s_law) := ⟨rfl, rfl, rfl, by decide +kernel, rfl, by decide +kernel, by decide +kernel⟩
/-- what the top has written -/
structure Txt (K : PySem.W.Frag) (mg : Str → Option Value) where
  f_is_whole : Addr
  fd_is_whole : FuncData
  F_is_whole : Fun K "is_whole" "is_whole" s_is_whole f_is_whole fd_is_whole
  g_is_whole : mg "is_whole" = some (.ref f_is_whole)
  k_is_whole : PySem.W.keepIn K (.ref f_is_whole) = true
  b_is_whole : Binds K fd_is_whole ["thing"] []
  f_is_fraction : Addr
  fd_is_fraction : FuncData
  F_is_fraction : Fun K "is_fraction" "is_fraction" s_is_fraction f_is_fraction fd_is_fraction
  g_is_fraction : mg "is_fraction" = some (.ref f_is_fraction)
  k_is_fraction : PySem.W.keepIn K (.ref f_is_fraction) = true
  b_is_fraction : Binds K fd_is_fraction ["thing"] []
  f_fraction : Addr
  fd_fraction : FuncData
  F_fraction : FunD K "fraction" "fraction" (defArgs s_fraction) (defBody s_fraction) (defScope s_fraction) [.int 1] [] f_fraction fd_fraction
  g_fraction : mg "fraction" = some (.ref f_fraction)
  k_fraction : PySem.W.keepIn K (.ref f_fraction) = true
  b_fraction : Binds K fd_fraction ["top", "bottom"] []
  d_fraction_1 : List Value
  b_fraction_1 : Vals ([.int 1].drop 0) d_fraction_1 ∧ Binds K fd_fraction ["top", "bottom"] d_fraction_1
  f_plus : Addr
  fd_plus : FuncData
  F_plus : Fun K "plus" "plus" s_plus f_plus fd_plus
  g_plus : mg "plus" = some (.ref f_plus)
  k_plus : PySem.W.keepIn K (.ref f_plus) = true
  b_plus : Binds K fd_plus ["one", "other"] []
  f_minus : Addr
  fd_minus : FuncData
  F_minus : Fun K "minus" "minus" s_minus f_minus fd_minus
  g_minus : mg "minus" = some (.ref f_minus)
  k_minus : PySem.W.keepIn K (.ref f_minus) = true
  b_minus : Binds K fd_minus ["one", "other"] []
  f_times : Addr
  fd_times : FuncData
  F_times : Fun K "times" "times" s_times f_times fd_times
  g_times : mg "times" = some (.ref f_times)
  k_times : PySem.W.keepIn K (.ref f_times) = true
  b_times : Binds K fd_times ["one", "other"] []
  f_floor_of : Addr
  fd_floor_of : FuncData
  F_floor_of : Fun K "floor_of" "floor_of" s_floor_of f_floor_of fd_floor_of
  g_floor_of : mg "floor_of" = some (.ref f_floor_of)
  k_floor_of : PySem.W.keepIn K (.ref f_floor_of) = true
  b_floor_of : Binds K fd_floor_of ["value"] []
  f_ceiling_of : Addr
  fd_ceiling_of : FuncData
  F_ceiling_of : Fun K "ceiling_of" "ceiling_of" s_ceiling_of f_ceiling_of fd_ceiling_of
  g_ceiling_of : mg "ceiling_of" = some (.ref f_ceiling_of)
  k_ceiling_of : PySem.W.keepIn K (.ref f_ceiling_of) = true
  b_ceiling_of : Binds K fd_ceiling_of ["value"] []
  f_is_long : Addr
  fd_is_long : FuncData
  F_is_long : Fun K "is_long" "is_long" s_is_long f_is_long fd_is_long
  g_is_long : mg "is_long" = some (.ref f_is_long)
  k_is_long : PySem.W.keepIn K (.ref f_is_long) = true
  b_is_long : Binds K fd_is_long ["thing", "many"] []
  f_is_fractions : Addr
  fd_is_fractions : FuncData
  F_is_fractions : Fun K "is_fractions" "is_fractions" s_is_fractions f_is_fractions fd_is_fractions
  g_is_fractions : mg "is_fractions" = some (.ref f_is_fractions)
  k_is_fractions : PySem.W.keepIn K (.ref f_is_fractions) = true
  b_is_fractions : Binds K fd_is_fractions ["thing", "many"] []
  f_is_table : Addr
  fd_is_table : FuncData
  F_is_table : Fun K "is_table" "is_table" s_is_table f_is_table fd_is_table
  g_is_table : mg "is_table" = some (.ref f_is_table)
  k_is_table : PySem.W.keepIn K (.ref f_is_table) = true
  b_is_table : Binds K fd_is_table ["thing"] []
  f_is_row : Addr
  fd_is_row : FuncData
  F_is_row : Fun K "is_row" "is_row" s_is_row f_is_row fd_is_row
  g_is_row : mg "is_row" = some (.ref f_is_row)
  k_is_row : PySem.W.keepIn K (.ref f_is_row) = true
  b_is_row : Binds K fd_is_row ["thing"] []
  f_check_table : Addr
  fd_check_table : FuncData
  F_check_table : Fun K "check_table" "check_table" s_check_table f_check_table fd_check_table
  g_check_table : mg "check_table" = some (.ref f_check_table)
  k_check_table : PySem.W.keepIn K (.ref f_check_table) = true
  b_check_table : Binds K fd_check_table ["thing"] []
  f_check_pick : Addr
  fd_check_pick : FuncData
  F_check_pick : Fun K "check_pick" "check_pick" s_check_pick f_check_pick fd_check_pick
  g_check_pick : mg "check_pick" = some (.ref f_check_pick)
  k_check_pick : PySem.W.keepIn K (.ref f_check_pick) = true
  b_check_pick : Binds K fd_check_pick ["thing", "many"] []
  f_check_places : Addr
  fd_check_places : FuncData
  F_check_places : Fun K "check_places" "check_places" s_check_places f_check_places fd_check_places
  g_check_places : mg "check_places" = some (.ref f_check_places)
  k_check_places : PySem.W.keepIn K (.ref f_check_places) = true
  b_check_places : Binds K fd_check_places ["thing", "many"] []
  f_is_place : Addr
  fd_is_place : FuncData
  F_is_place : Fun K "is_place" "is_place" s_is_place f_is_place fd_is_place
  g_is_place : mg "is_place" = some (.ref f_is_place)
  k_is_place : PySem.W.keepIn K (.ref f_is_place) = true
  b_is_place : Binds K fd_is_place ["thing", "many"] []
  f_shape : Addr
  fd_shape : FuncData
  F_shape : Fun K "shape" "shape" s_shape f_shape fd_shape
  g_shape : mg "shape" = some (.ref f_shape)
  k_shape : PySem.W.keepIn K (.ref f_shape) = true
  b_shape : Binds K fd_shape ["table"] []
  f_piece : Addr
  fd_piece : FuncData
  F_piece : Fun K "piece" "piece" s_piece f_piece fd_piece
  g_piece : mg "piece" = some (.ref f_piece)
  k_piece : PySem.W.keepIn K (.ref f_piece) = true
  b_piece : Binds K fd_piece ["table", "rows", "columns"] []
  f_led : Addr
  fd_led : FuncData
  F_led : Fun K "led" "led" s_led f_led fd_led
  g_led : mg "led" = some (.ref f_led)
  k_led : PySem.W.keepIn K (.ref f_led) = true
  b_led : Binds K fd_led ["table", "xs"] []
  f_row_sum : Addr
  fd_row_sum : FuncData
  F_row_sum : Fun K "row_sum" "row_sum" s_row_sum f_row_sum fd_row_sum
  g_row_sum : mg "row_sum" = some (.ref f_row_sum)
  k_row_sum : PySem.W.keepIn K (.ref f_row_sum) = true
  b_row_sum : Binds K fd_row_sum ["row", "xs"] []
  f_square_value : Addr
  fd_square_value : FuncData
  F_square_value : Fun K "square_value" "square_value" s_square_value f_square_value fd_square_value
  g_square_value : mg "square_value" = some (.ref f_square_value)
  k_square_value : PySem.W.keepIn K (.ref f_square_value) = true
  b_square_value : Binds K fd_square_value ["square"] []
  f_cleared : Addr
  fd_cleared : FuncData
  F_cleared : Fun K "cleared" "cleared" s_cleared f_cleared fd_cleared
  g_cleared : mg "cleared" = some (.ref f_cleared)
  k_cleared : PySem.W.keepIn K (.ref f_cleared) = true
  b_cleared : Binds K fd_cleared ["table"] []
  f_cleared_row : Addr
  fd_cleared_row : FuncData
  F_cleared_row : Fun K "cleared_row" "cleared_row" s_cleared_row f_cleared_row fd_cleared_row
  g_cleared_row : mg "cleared_row" = some (.ref f_cleared_row)
  k_cleared_row : PySem.W.keepIn K (.ref f_cleared_row) = true
  b_cleared_row : Binds K fd_cleared_row ["row", "lead", "column", "corner"] []
  f_bad_square : Addr
  fd_bad_square : FuncData
  F_bad_square : Fun K "bad_square" "bad_square" s_bad_square f_bad_square fd_bad_square
  g_bad_square : mg "bad_square" = some (.ref f_bad_square)
  k_bad_square : PySem.W.keepIn K (.ref f_bad_square) = true
  b_bad_square : Binds K fd_bad_square ["table"] []
  f_is_bad : Addr
  fd_is_bad : FuncData
  F_is_bad : Fun K "is_bad" "is_bad" s_is_bad f_is_bad fd_is_bad
  g_is_bad : mg "is_bad" = some (.ref f_is_bad)
  k_is_bad : PySem.W.keepIn K (.ref f_is_bad) = true
  b_is_bad : Binds K fd_is_bad ["value"] []
  f_unfolded : Addr
  fd_unfolded : FuncData
  F_unfolded : Fun K "unfolded" "unfolded" s_unfolded f_unfolded fd_unfolded
  g_unfolded : mg "unfolded" = some (.ref f_unfolded)
  k_unfolded : PySem.W.keepIn K (.ref f_unfolded) = true
  b_unfolded : Binds K fd_unfolded ["table", "rows", "columns", "known"] []
  f_solved : Addr
  fd_solved : FuncData
  F_solved : Fun K "solved" "solved" s_solved f_solved fd_solved
  g_solved : mg "solved" = some (.ref f_solved)
  k_solved : PySem.W.keepIn K (.ref f_solved) = true
  b_solved : Binds K fd_solved ["square", "totals"] []
  f_replaced : Addr
  fd_replaced : FuncData
  F_replaced : Fun K "replaced" "replaced" s_replaced f_replaced fd_replaced
  g_replaced : mg "replaced" = some (.ref f_replaced)
  k_replaced : PySem.W.keepIn K (.ref f_replaced) = true
  b_replaced : Binds K fd_replaced ["square", "column", "totals"] []
  f_spread_out : Addr
  fd_spread_out : FuncData
  F_spread_out : Fun K "spread_out" "spread_out" s_spread_out f_spread_out fd_spread_out
  g_spread_out : mg "spread_out" = some (.ref f_spread_out)
  k_spread_out : PySem.W.keepIn K (.ref f_spread_out) = true
  b_spread_out : Binds K fd_spread_out ["values", "columns", "wide"] []
  f_unwhole : Addr
  fd_unwhole : FuncData
  F_unwhole : Fun K "unwhole" "unwhole" s_unwhole f_unwhole fd_unwhole
  g_unwhole : mg "unwhole" = some (.ref f_unwhole)
  k_unwhole : PySem.W.keepIn K (.ref f_unwhole) = true
  b_unwhole : Binds K fd_unwhole ["table"] []
  f_first_rests : Addr
  fd_first_rests : FuncData
  F_first_rests : Fun K "first_rests" "first_rests" s_first_rests f_first_rests fd_first_rests
  g_first_rests : mg "first_rests" = some (.ref f_first_rests)
  k_first_rests : PySem.W.keepIn K (.ref f_first_rests) = true
  b_first_rests : Binds K fd_first_rests ["square"] []
  f__law_source_of : Addr
  fd__law_source_of : FuncData
  F__law_source_of : Fun K "_law_source_of" "_law_source_of" s__law_source_of f__law_source_of fd__law_source_of
  g__law_source_of : mg "_law_source_of" = some (.ref f__law_source_of)
  k__law_source_of : PySem.W.keepIn K (.ref f__law_source_of) = true
  b__law_source_of : Binds K fd__law_source_of ["_law_cell"] []
  f__law_next : Addr
  fd__law_next : FuncData
  F__law_next : Fun K "_law_next" "_law_next" s__law_next f__law_next fd__law_next
  g__law_next : mg "_law_next" = some (.ref f__law_next)
  k__law_next : PySem.W.keepIn K (.ref f__law_next) = true
  b__law_next : Binds K fd__law_next ["_law_source", "_law_many"] []
  f__law_one : Addr
  fd__law_one : FuncData
  F__law_one : Fun K "_law_one" "_law_one" s__law_one f__law_one fd__law_one
  g__law_one : mg "_law_one" = some (.ref f__law_one)
  k__law_one : PySem.W.keepIn K (.ref f__law_one) = true
  b__law_one : Binds K fd__law_one ["_law_source", "_law_some"] []
  f__law_cell_at : Addr
  fd__law_cell_at : FuncData
  F__law_cell_at : Fun K "_law_cell_at" "_law_cell_at" s__law_cell_at f__law_cell_at fd__law_cell_at
  g__law_cell_at : mg "_law_cell_at" = some (.ref f__law_cell_at)
  k__law_cell_at : PySem.W.keepIn K (.ref f__law_cell_at) = true
  b__law_cell_at : Binds K fd__law_cell_at ["_law_script", "_law_k"] []
  f__law_mixed : Addr
  fd__law_mixed : FuncData
  F__law_mixed : Fun K "_law_mixed" "_law_mixed" s__law_mixed f__law_mixed fd__law_mixed
  g__law_mixed : mg "_law_mixed" = some (.ref f__law_mixed)
  k__law_mixed : PySem.W.keepIn K (.ref f__law_mixed) = true
  b__law_mixed : Binds K fd__law_mixed ["_law_source", "_law_some"] []
  f__law_ends : Addr
  fd__law_ends : FuncData
  F__law_ends : Fun K "_law_ends" "_law_ends" s__law_ends f__law_ends fd__law_ends
  g__law_ends : mg "_law_ends" = some (.ref f__law_ends)
  k__law_ends : PySem.W.keepIn K (.ref f__law_ends) = true
  b__law_ends : Binds K fd__law_ends ["_law_source", "_law_many"] []
  f__law_net : Addr
  fd__law_net : FuncData
  F__law_net : Fun K "_law_net" "_law_net" s__law_net f__law_net fd__law_net
  g__law_net : mg "_law_net" = some (.ref f__law_net)
  k__law_net : PySem.W.keepIn K (.ref f__law_net) = true
  b__law_net : Binds K fd__law_net ["_law_ends_here", "_law_arcs"] []
  f__law_net_drawn : Addr
  fd__law_net_drawn : FuncData
  F__law_net_drawn : Fun K "_law_net_drawn" "_law_net_drawn" s__law_net_drawn f__law_net_drawn fd__law_net_drawn
  g__law_net_drawn : mg "_law_net_drawn" = some (.ref f__law_net_drawn)
  k__law_net_drawn : PySem.W.keepIn K (.ref f__law_net_drawn) = true
  b__law_net_drawn : Binds K fd__law_net_drawn ["_law_source", "_law_many", "_law_wide"] []
  f__law_stretches : Addr
  fd__law_stretches : FuncData
  F__law_stretches : Fun K "_law_stretches" "_law_stretches" s__law_stretches f__law_stretches fd__law_stretches
  g__law_stretches : mg "_law_stretches" = some (.ref f__law_stretches)
  k__law_stretches : PySem.W.keepIn K (.ref f__law_stretches) = true
  b__law_stretches : Binds K fd__law_stretches ["_law_source", "_law_many", "_law_wide"] []
  f__law_swung : Addr
  fd__law_swung : FuncData
  F__law_swung : Fun K "_law_swung" "_law_swung" s__law_swung f__law_swung fd__law_swung
  g__law_swung : mg "_law_swung" = some (.ref f__law_swung)
  k__law_swung : PySem.W.keepIn K (.ref f__law_swung) = true
  b__law_swung : Binds K fd__law_swung ["_law_source", "_law_table_here"] []
  f__law_table : Addr
  fd__law_table : FuncData
  F__law_table : Fun K "_law_table" "_law_table" s__law_table f__law_table fd__law_table
  g__law_table : mg "_law_table" = some (.ref f__law_table)
  k__law_table : PySem.W.keepIn K (.ref f__law_table) = true
  b__law_table : Binds K fd__law_table ["_law_source", "_law_most"] []
  f__law_divisor : Addr
  fd__law_divisor : FuncData
  F__law_divisor : Fun K "_law_divisor" "_law_divisor" s__law_divisor f__law_divisor fd__law_divisor
  g__law_divisor : mg "_law_divisor" = some (.ref f__law_divisor)
  k__law_divisor : PySem.W.keepIn K (.ref f__law_divisor) = true
  b__law_divisor : Binds K fd__law_divisor ["_law_one_here", "_law_other"] []
  f__law_lowest : Addr
  fd__law_lowest : FuncData
  F__law_lowest : Fun K "_law_lowest" "_law_lowest" s__law_lowest f__law_lowest fd__law_lowest
  g__law_lowest : mg "_law_lowest" = some (.ref f__law_lowest)
  k__law_lowest : PySem.W.keepIn K (.ref f__law_lowest) = true
  b__law_lowest : Binds K fd__law_lowest ["_law_top", "_law_bottom"] []
  f__law_common : Addr
  fd__law_common : FuncData
  F__law_common : Fun K "_law_common" "_law_common" s__law_common f__law_common fd__law_common
  g__law_common : mg "_law_common" = some (.ref f__law_common)
  k__law_common : PySem.W.keepIn K (.ref f__law_common) = true
  b__law_common : Binds K fd__law_common ["_law_xs"] []
  f__law_sums : Addr
  fd__law_sums : FuncData
  F__law_sums : Fun K "_law_sums" "_law_sums" s__law_sums f__law_sums fd__law_sums
  g__law_sums : mg "_law_sums" = some (.ref f__law_sums)
  k__law_sums : PySem.W.keepIn K (.ref f__law_sums) = true
  b__law_sums : Binds K fd__law_sums ["_law_rows", "_law_xs"] []
  f__law_sized : Addr
  fd__law_sized : FuncData
  F__law_sized : Fun K "_law_sized" "_law_sized" s__law_sized f__law_sized fd__law_sized
  g__law_sized : mg "_law_sized" = some (.ref f__law_sized)
  k__law_sized : PySem.W.keepIn K (.ref f__law_sized) = true
  b__law_sized : Binds K fd__law_sized ["_law_many", "_law_size"] []
  f__law_minor : Addr
  fd__law_minor : FuncData
  F__law_minor : Fun K "_law_minor" "_law_minor" s__law_minor f__law_minor fd__law_minor
  g__law_minor : mg "_law_minor" = some (.ref f__law_minor)
  k__law_minor : PySem.W.keepIn K (.ref f__law_minor) = true
  b__law_minor : Binds K fd__law_minor ["_law_rows"] []
  f__law_solution : Addr
  fd__law_solution : FuncData
  F__law_solution : Fun K "_law_solution" "_law_solution" s__law_solution f__law_solution fd__law_solution
  g__law_solution : mg "_law_solution" = some (.ref f__law_solution)
  k__law_solution : PySem.W.keepIn K (.ref f__law_solution) = true
  b__law_solution : Binds K fd__law_solution ["_law_rows", "_law_sides"] []
  f__law_bad : Addr
  fd__law_bad : FuncData
  F__law_bad : Fun K "_law_bad" "_law_bad" s__law_bad f__law_bad fd__law_bad
  g__law_bad : mg "_law_bad" = some (.ref f__law_bad)
  k__law_bad : PySem.W.keepIn K (.ref f__law_bad) = true
  b__law_bad : Binds K fd__law_bad ["_law_table_here"] []
  f__law_spent : Addr
  fd__law_spent : FuncData
  F__law_spent : Fun K "_law_spent" "_law_spent" s__law_spent f__law_spent fd__law_spent
  g__law_spent : mg "_law_spent" = some (.ref f__law_spent)
  k__law_spent : PySem.W.keepIn K (.ref f__law_spent) = true
  b__law_spent : Binds K fd__law_spent ["_law_got"] []
  f__law_due : Addr
  fd__law_due : FuncData
  F__law_due : Fun K "_law_due" "_law_due" s__law_due f__law_due fd__law_due
  g__law_due : mg "_law_due" = some (.ref f__law_due)
  k__law_due : PySem.W.keepIn K (.ref f__law_due) = true
  b__law_due : Binds K fd__law_due ["_law_table_here"] []
  f_law : Addr
  fd_law : FuncData
  F_law : Fun K "law" "law" s_law f_law fd_law
  g_law : mg "law" = some (.ref f_law)
  k_law : PySem.W.keepIn K (.ref f_law) = true
  b_law : Binds K fd_law ["_law_script"] []
  t_MOST : Tok
  g_MOST : mg "MOST" = some (.int 8 t_MOST)
  g_combinations : mg "combinations" = some (.type "itertools.combinations")
  g_gcd : mg "gcd" = some (.builtin "math.gcd")
  n_abs : mg "abs" = none
  n_all : mg "all" = none
  n_any : mg "any" = none
  n_bool : mg "bool" = none
  n_enumerate : mg "enumerate" = none
  n_int : mg "int" = none
  n_isinstance : mg "isinstance" = none
  n_len : mg "len" = none
  n_list : mg "list" = none
  n_min : mg "min" = none
  n_range : mg "range" = none
  n_repr : mg "repr" = none
  n_sum : mg "sum" = none
  n_tuple : mg "tuple" = none
  n_zip : mg "zip" = none
/-! ### numbers -/
def Bd (n : Nat) (i : Int) : Prop := i.natAbs < 2 ^ n
theorem Bd.mono {a b : Nat} {i : Int} (h : Bd a i) (hab : a ≤ b) : Bd b i := Nat.lt_of_lt_of_le h (Nat.pow_le_pow_right (by decide) hab)
theorem Bd.mul {a b : Nat} {i j : Int} (h : Bd a i) (g : Bd b j) : Bd (a + b) (i * j) := wide_lt h g
theorem Bd.add {a : Nat} {i j : Int} (h : Bd a i) (g : Bd a j) : Bd (a + 1) (i + j) := by
  have h1 : i.natAbs < 2 ^ a := h
  have h2 : j.natAbs < 2 ^ a := g
  show (i + j).natAbs < 2 ^ (a + 1)
  rw [Nat.pow_succ]
  omega
theorem Bd.sub {a : Nat} {i j : Int} (h : Bd a i) (g : Bd a j) : Bd (a + 1) (i - j) := by
  have h1 : i.natAbs < 2 ^ a := h
  have h2 : j.natAbs < 2 ^ a := g
  show (i - j).natAbs < 2 ^ (a + 1)
  rw [Nat.pow_succ]
  omega
theorem Bd.neg {a : Nat} {i : Int} (h : Bd a i) : Bd a (-i) := by
  show (-i).natAbs < 2 ^ a
  rw [Int.natAbs_neg]
  exact h
theorem Bd.abs {a : Nat} {i j : Int} (h : Bd a i) (e : j.natAbs ≤ i.natAbs) : Bd a j := Nat.lt_of_le_of_lt e h
theorem Bd.mulOk {a b : Nat} {i j : Int} (h : Bd a i) (g : Bd b j) (h0 : 0 < a := by decide) (h1 : 0 < b := by decide) (hs : a + b ≤ 1000000 := by decide) : CMulW i j := wide_mul h g h0 h1 hs
theorem Bd.divOk {b : Nat} {i j : Int} (h : 0 < j) (g : Bd b j) (h0 : 0 < b := by decide) (h9 : b ≤ 9000 := by decide) : CDivW i j := wide_div h g h0 h9
/-- // by a divisor other than 0 below 2 ^ 9000 -/
def CDivNW (_ j : Int) : Prop := j ≠ 0 ∧ j.natAbs.log2 < 9000
theorem Bd.divNOk {b : Nat} {i j : Int} (h : j ≠ 0) (g : Bd b j) (h0 : 0 < b := by decide) (h9 : b ≤ 9000 := by decide) : CDivNW i j := ⟨h, Nat.lt_of_lt_of_le (PySem.Flt.log2_lt_of h0 g) h9⟩
theorem op_fdivNW {X : Cx} : OpR X (binaryOp .FloorDiv) (rI CDivNW fun i j => .int (i.fdiv j)) := opI fun _ _ _ _ _ _ _ hc q => floordiv_int hc.1 q (.inl (PyProof.noPylong_of_log2 hc.2))
/-! ### heaps -/
/-- all but what stands at s is as it was -/
def ExB (s : Addr) (H H' : Hp) : Prop := ∀ b o, b ≠ s → H b = some o → H' b = some o
theorem ExB.trans {s : Addr} {H H1 H2 : Hp} (a : ExB s H H1) (b : ExB s H1 H2) : ExB s H H2 := fun c o n h => b c o n (a c o n h)
theorem ExB.refl (s : Addr) (H : Hp) : ExB s H H := fun _ _ _ h => h
theorem ExB.of {s : Addr} {H H1 : Hp} (a : Ex H H1) : ExB s H H1 := fun c o _ h => a c o h
theorem ExB.ex {s : Addr} {H H1 H2 : Hp} (a : ExB s H1 H2) (n : H s = none) (e : Ex H H1) : Ex H H2 := fun b o h => a b o (ne_of_none h n) (e b o h)
theorem ExB.upd (s : Addr) (H : Hp) (o : HO) : ExB s H (upd H s o) := fun b u n h => by
  rw [upd_ne n]
  exact h
theorem Ex.updB {s : Addr} {H H' : Hp} {o : HO} (e : Ex H H') : ExB s H (upd H' s o) := fun b u n h => by
  rw [upd_ne n]
  exact e b u h
/-- the source of a law's numbers: n at least the numbers made so far -/
def SrcAt (H : Hp) (s : Addr) (n : Int) : Prop := ∃ p q r : Int, H s = some (.lst [.int p, .int q, .int r]) ∧ 0 ≤ q ∧ q < 2147483647 ∧ 0 ≤ r ∧ r ≤ n
theorem SrcAt.ex {H H' : Hp} {s : Addr} {n : Int} (h : SrcAt H s n) (e : Ex H H') : SrcAt H' s n := by
  obtain ⟨p, q, r, h1, h2⟩ := h
  exact ⟨p, q, r, e _ _ h1, h2⟩
theorem SrcAt.exB {H H' : Hp} {s t : Addr} {n : Int} (h : SrcAt H s n) (e : ExB t H H') (ne : s ≠ t) : SrcAt H' s n := by
  obtain ⟨p, q, r, h1, h2⟩ := h
  exact ⟨p, q, r, e _ _ ne h1, h2⟩
theorem SrcAt.le {H : Hp} {s : Addr} {n m : Int} (h : SrcAt H s n) (e : n ≤ m) : SrcAt H s m := by
  obtain ⟨p, q, r, h1, h2, h3, h4, h5⟩ := h
  exact ⟨p, q, r, h1, h2, h3, h4, by omega⟩
theorem SrcAt.obj {H : Hp} {s : Addr} {n : Int} (h : SrcAt H s n) : ∃ o, H s = some o := by
  obtain ⟨p, q, r, h1, _⟩ := h
  exact ⟨_, h1⟩
/-- classes that is_whole is asked about -/
def tyOk (t : String) : Prop := t = "int" ∨ t = "bool" ∨ t = "NoneType" ∨ t = "str" ∨ t = "tuple" ∨ t = "list" ∨ t = "dict"
theorem ty_int {t : String} (h : tyOk t) : kitB t "int" = some (t == "int" || t == "bool") := by
  rcases h with rfl | rfl | rfl | rfl | rfl | rfl | rfl <;> decide +kernel
theorem ty_bool {t : String} (h : tyOk t) : kitB t "bool" = some (t == "bool") := by
  rcases h with rfl | rfl | rfl | rfl | rfl | rfl | rfl <;> decide +kernel
theorem ty_tuple {t : String} (h : tyOk t) : kitB t "tuple" = some (t == "tuple") := by
  rcases h with rfl | rfl | rfl | rfl | rfl | rfl | rfl <;> decide +kernel
theorem ty_list {t : String} (h : tyOk t) : kitB t "list" = some (t == "list") := by
  rcases h with rfl | rfl | rfl | rfl | rfl | rfl | rfl <;> decide +kernel
theorem prime_at (r : Int) (h : 0 ≤ r) : ∃ p : Int, atI [V.int 2147483647, V.int 2147483629, V.int 2147483587, V.int 2147483579, V.int 2147483563, V.int 2147483549, V.int 2147483543] (r % 7) = some (.int p) ∧ 0 < p ∧ p ≤ 2147483647 := by
  have h1 : 0 ≤ r % 7 := Int.emod_nonneg _ (by decide)
  have h2 : r % 7 < 7 := Int.emod_lt_of_pos _ (by decide)
  generalize r % 7 = k at h1 h2
  have hk : k = 0 ∨ k = 1 ∨ k = 2 ∨ k = 3 ∨ k = 4 ∨ k = 5 ∨ k = 6 := by omega
  rcases hk with rfl | rfl | rfl | rfl | rfl | rfl | rfl <;> exact ⟨_, rfl, by decide, by decide⟩
/-! ### data, lists, tables -/
mutual
theorem dp_mono {K : PySem.W.Frag} {H H' : Hp} (h : ∀ a xs, SqL K H a xs → SqL K H' a xs) (h2 : ∀ a xs, SqT K H a xs → SqT K H' a xs) : ∀ {v : V} {d : PyData}, Dp K H v d → Dp K H' v d
  | _, _, .non => .non
  | _, _, .bl b => .bl b
  | _, _, .int i => .int i
  | _, _, .str x => .str x
  | _, _, .lst a b => .lst (h _ _ a) (dpAll_mono h h2 b)
  | _, _, .tup a b => .tup (h2 _ _ a) (dpAll_mono h h2 b)
theorem dpAll_mono {K : PySem.W.Frag} {H H' : Hp} (h : ∀ a xs, SqL K H a xs → SqL K H' a xs) (h2 : ∀ a xs, SqT K H a xs → SqT K H' a xs) : ∀ {vs : List V} {ds : List PyData}, DpAll K H vs ds → DpAll K H' vs ds
  | _, _, .nil => .nil
  | _, _, .cons a b => .cons (dp_mono h h2 a) (dpAll_mono h h2 b)
end
theorem dp_ex {K : PySem.W.Frag} {H H' : Hp} (e : Ex H H') {v : V} {d : PyData} (h : Dp K H v d) : Dp K H' v d := dp_mono (fun _ _ => ex_l e) (fun _ _ => ex_t e) h
theorem dpAll_ex {K : PySem.W.Frag} {H H' : Hp} (e : Ex H H') {v : List V} {d : List PyData} (h : DpAll K H v d) : DpAll K H' v d := dpAll_mono (fun _ _ => ex_l e) (fun _ _ => ex_t e) h
def NiceD (d : PyData) : Prop := d.canLay0 = true ∧ d.depth ≤ 8
/-- v is data, whatever becomes of the object at s -/
def DatV (K : PySem.W.Frag) (H : Hp) (s : Addr) (v : V) : Prop := ∀ H', ExB s H H' → ∃ d, Dp K H' v d ∧ NiceD d
theorem DatV.exB {K : PySem.W.Frag} {H H' : Hp} {s : Addr} {v : V} (h : DatV K H s v) (e : ExB s H H') : DatV K H' s v := fun H2 e2 => h H2 (e.trans e2)
theorem datv_int {K : PySem.W.Frag} {H : Hp} {s : Addr} (i : Int) : DatV K H s (.int i) := fun _ _ => ⟨_, .int i, rfl, Nat.zero_le _⟩
theorem datv_pair {K : PySem.W.Frag} {H : Hp} {s a : Addr} {x y : Int} (h : H a = some (.tup [.int x, .int y])) (n : a ≠ s) : DatV K H s (.ref a) := fun H' e =>
  ⟨_, .tup (SqT.of (e _ _ n h)) (.cons (.int x) (.cons (.int y) .nil)), rfl, Nat.le_of_ble_eq_true rfl⟩
theorem dpAll_ints {K : PySem.W.Frag} {H : Hp} : ∀ ns : List Int, DpAll K H (ns.map V.int) (ns.map PyData.int)
  | [] => .nil
  | n :: r => .cons (.int n) (dpAll_ints r)
theorem canLay_ints : ∀ ns : List Int, PyData.canLayAll0 (ns.map PyData.int) = true
  | [] => rfl
  | n :: r => by
    show (true && PyData.canLayAll0 (r.map PyData.int)) = true
    rw [canLay_ints r]
    rfl
theorem depth_ints : ∀ ns : List Int, PyData.depthAll (ns.map PyData.int) = 0
  | [] => rfl
  | n :: r => by
    show max 0 (PyData.depthAll (r.map PyData.int)) = 0
    rw [depth_ints r]
    rfl
theorem datv_row {K : PySem.W.Frag} {H : Hp} {s a : Addr} {ns : List Int} (h : H a = some (.lst (ns.map V.int))) (n : a ≠ s) : DatV K H s (.ref a) := fun H' e =>
  ⟨_, .lst (SqL.of (e _ _ n h)) (dpAll_ints ns), canLay_ints ns, by
    show PyData.depthAll (ns.map PyData.int) + 1 ≤ 8
    rw [depth_ints]
    decide⟩
theorem dat_all {K : PySem.W.Frag} {H : Hp} {s : Addr} : ∀ {xs : List V}, (∀ v ∈ xs, DatV K H s v) → ∃ ds, DpAll K H xs ds ∧ PyData.canLayAll0 ds = true ∧ PyData.depthAll ds ≤ 8
  | [], _ => ⟨[], .nil, rfl, by decide⟩
  | x :: xs, h => by
    obtain ⟨d, h1, h2, h3⟩ := h x (List.mem_cons_self ..) H (ExB.refl _ _)
    obtain ⟨ds, g1, g2, g3⟩ := dat_all (xs := xs) fun v hv => h v (List.mem_cons_of_mem _ hv)
    refine ⟨d :: ds, .cons h1 g1, ?_, ?_⟩
    · show (d.canLay0 && PyData.canLayAll0 ds) = true
      rw [h2, g2]
      rfl
    · show max d.depth (PyData.depthAll ds) ≤ 8
      omega
theorem shaped_list {ds : List PyData} (h : PyData.canLayAll0 ds = true) (h2 : PyData.depthAll ds ≤ 60) : SeqAt.shaped (.list ds) = true := by
  unfold SeqAt.shaped
  have e1 : (PyData.list ds).canLay0 = true := h
  have e2 : (PyData.list ds).depth ≤ 64 := by
    show PyData.depthAll ds + 1 ≤ 64
    omega
  rw [e1, decide_eq_true e2]
  rfl
theorem eqv_nil (ds : List PyData) : PyData.eqv (.list ds) (.list []) = ds.isEmpty := by
  cases ds <;> rfl
theorem Paired.perm {α β : Type} {R : α → β → Prop} {xs xs' : List α} (hp : xs'.Perm xs) : ∀ {ys : List β}, Paired R xs ys → ∃ ys', ys'.Perm ys ∧ Paired R xs' ys' := by
  induction hp with
  | nil => intro ys h; exact ⟨ys, .refl _, h⟩
  | cons x _ ih =>
    intro ys h
    cases h with
    | cons r t =>
      obtain ⟨ys', p, q⟩ := ih t
      exact ⟨_ :: ys', p.cons _, .cons r q⟩
  | swap x y l =>
    intro ys h
    cases h with
    | cons r t =>
      cases t with
      | cons r2 t2 => exact ⟨_, List.Perm.swap .., .cons r2 (.cons r t2)⟩
  | trans _ _ ih1 ih2 =>
    intro ys h
    obtain ⟨y1, p1, q1⟩ := ih2 h
    obtain ⟨y2, p2, q2⟩ := ih1 q1
    exact ⟨y2, p2.trans p1, q2⟩
theorem fresh_B {s p : Addr} {H H' : Hp} (e : ExB s H H') (hp : H' p = none) (hs : ∃ o, H' s = some o) : H p = none := by
  cases q : H p with
  | none => rfl
  | some o =>
    by_cases h : p = s
    · subst h
      obtain ⟨o', ho'⟩ := hs
      rw [ho'] at hp
      cases hp
    · rw [e p o h q] at hp
      cases hp
theorem SrcAt.ne {H : Hp} {s p : Addr} {n : Int} (h : SrcAt H s n) (hp : H p = none) : p ≠ s := by
  intro e
  subst e
  obtain ⟨o, ho⟩ := h.obj
  rw [ho] at hp
  cases hp
theorem SrcAt.neT {H : Hp} {s p : Addr} {n : Int} {xs : List V} (h : SrcAt H s n) (hp : H p = some (.tup xs)) : p ≠ s := by
  intro e
  subst e
  obtain ⟨_, _, _, ho, _⟩ := h
  rw [ho] at hp
  cases hp
theorem ExB.l {K : PySem.W.Frag} {s a : Addr} {H H' : Hp} {xs : List V} (e : ExB s H H') (n : a ≠ s) (h : SqL K H a xs) : SqL K H' a xs := by
  rcases h with (h | ⟨o, h⟩) | h
  · exact .inl (.inl (e _ _ n h))
  · exact .inl (.inr ⟨o, e _ _ n h⟩)
  · exact .inr h
theorem seqIx {i n : Int} {k : Nat} (h0 : 0 ≤ i) (h1 : i < (k : Int)) : seqIndex? i k = some i.toNat := by
  unfold seqIndex?
  split <;> simp_all <;> omega
theorem erase_perm {α : Type} : ∀ {ls : List α} {k : Nat} {y : α}, ls[k]? = some y → (y :: ls.eraseIdx k).Perm ls
  | [], _, _, h => by simp at h
  | a :: l, 0, y, h => by
    have e := Option.some.inj h
    subst e
    exact .refl _
  | a :: l, k + 1, y, h => (List.Perm.swap a y _).trans ((erase_perm (ls := l) (k := k) h).cons a)
theorem perm_pop {α : Type} {fs ls : List α} {k : Nat} {y : α} (h : ls[k]? = some y) : ((fs ++ [y]) ++ ls.eraseIdx k).Perm (fs ++ ls) := by
  have h1 := erase_perm h
  rw [List.append_assoc]
  exact List.Perm.append_left fs h1
/-- the table at p: its rows at the places as -/
def RowsAt (H : Hp) : List Addr → List (List Int) → Prop := Paired fun a r => H a = some (.lst (r.map V.int))
def Tab (H : Hp) (p : Addr) (as : List Addr) (rows : List (List Int)) : Prop := H p = some (.lst (as.map V.ref)) ∧ RowsAt H as rows
theorem RowsAt.ex {H H' : Hp} (e : Ex H H') : ∀ {as : List Addr} {rows : List (List Int)}, RowsAt H as rows → RowsAt H' as rows
  | _, _, .nil => .nil
  | _, _, .cons h t => .cons (e _ _ h) (RowsAt.ex e t)
theorem Tab.ex {H H' : Hp} {p : Addr} {as : List Addr} {rows : List (List Int)} (h : Tab H p as rows) (e : Ex H H') : Tab H' p as rows := ⟨e _ _ h.1, h.2.ex e⟩
/-! ### edges -/
def EdgesAt (H : Hp) : List Addr → List (Int × Int) → Prop := Paired fun a e => H a = some (.tup [.int e.1, .int e.2])
theorem paired_imp {α β : Type} {R R' : α → β → Prop} (h : ∀ a b, R a b → R' a b) : ∀ {xs : List α} {ys : List β}, Paired R xs ys → Paired R' xs ys
  | _, _, .nil => .nil
  | _, _, .cons r t => .cons (h _ _ r) (paired_imp h t)
theorem EdgesAt.mono {H H' : Hp} {as : List Addr} {es : List (Int × Int)} (h : ∀ a xs, H a = some (.tup xs) → H' a = some (.tup xs)) (x : EdgesAt H as es) : EdgesAt H' as es := paired_imp (fun _ _ r => h _ _ r) x
theorem tups_B {H H' : Hp} {s : Addr} {n : Int} (hs : SrcAt H s n) (e : ExB s H H') : ∀ a xs, H a = some (.tup xs) → H' a = some (.tup xs) := fun a _ h => e a _ (hs.neT h) h
theorem tups_E {H H' : Hp} (e : Ex H H') : ∀ a xs, H a = some (.tup xs) → H' a = some (.tup xs) := fun a _ h => e a _ h
theorem tups_U {H : Hp} {l : Addr} {xs : List V} {o : HO} (h : H l = some (.lst xs)) : ∀ a ys, H a = some (.tup ys) → upd H l o a = some (.tup ys) := fun a ys g => by
  rw [upd_ne (ne_of g h (by intro z; cases z))]
  exact g
def Conn (es : List (Int × Int)) (m : Int) : Prop := ∀ S : Int → Bool, (∀ e ∈ es, S e.1 = S e.2) → ∀ a b, 0 ≤ a → a ≤ m → 0 ≤ b → b ≤ m → S a = S b
theorem Conn.perm {es es' : List (Int × Int)} {m : Int} (h : Conn es m) (p : es'.Perm es) : Conn es' m := fun S hS => h S fun e he => hS e (p.mem_iff.mpr he)
def EdgeTree (pl : List Int) (es : List (Int × Int)) : Prop := ∀ j, j < es.length → ∃ i a b, i ≤ j ∧ pl[i]? = some a ∧ pl[j + 1]? = some b ∧ (es[j]? = some (a, b) ∨ es[j]? = some (b, a))
theorem EdgeTree.more {pl : List Int} {es : List (Int × Int)} {e : Int × Int} {i : Nat} {a b : Int} (h : EdgeTree pl es) (hi : i ≤ es.length) (ha : pl[i]? = some a) (hb : pl[es.length + 1]? = some b) (he : e = (a, b) ∨ e = (b, a)) : EdgeTree pl (es ++ [e]) := by
  intro j hj
  rw [List.length_append] at hj
  have hj' : j < es.length + 1 := hj
  by_cases h1 : j < es.length
  · obtain ⟨i', a', b', x1, x2, x3, x4⟩ := h j h1
    refine ⟨i', a', b', x1, x2, x3, ?_⟩
    rw [List.getElem?_append_left h1]
    exact x4
  · have h2 : j = es.length := by omega
    subst h2
    refine ⟨i, a, b, hi, ha, hb, ?_⟩
    rw [List.getElem?_append_right (Nat.le_refl _), Nat.sub_self]
    rcases he with rfl | rfl
    · exact .inl rfl
    · exact .inr rfl
theorem EdgeTree.conn {pl : List Int} {es : List (Int × Int)} {m : Nat} (h : EdgeTree pl es) (hl : es.length = m) (hp : pl.length = m + 1) (hall : ∀ a : Int, 0 ≤ a → a ≤ m → a ∈ pl) : Conn es m := by
  intro S hS
  have key : ∀ j : Nat, ∀ j' : Nat, j' ≤ j → ∀ a, pl[j']? = some a → ∀ z, pl[0]? = some z → S a = S z := by
    intro j
    induction j with
    | zero =>
      intro j' hj' a ha z hz
      have : j' = 0 := by omega
      subst this
      rw [hz] at ha
      rw [Option.some.inj ha]
    | succ j ih =>
      intro j' hj' a ha z hz
      by_cases h1 : j' ≤ j
      · exact ih j' h1 a ha z hz
      · have h2 : j' = j + 1 := by omega
        subst h2
        have hlt : j + 1 < pl.length := (List.getElem?_eq_some_iff.mp ha).1
        obtain ⟨i, x, y, hi, hx, hy, he⟩ := h j (by omega)
        rw [ha] at hy
        have ey := Option.some.inj hy
        subst ey
        have hSe : S x = S a := by
          rcases he with he | he
          · exact hS (x, a) (List.mem_of_getElem? he)
          · exact (hS (a, x) (List.mem_of_getElem? he)).symm
        rw [← hSe]
        exact ih i hi x hx z hz
  intro a b ha ha' hb hb'
  obtain ⟨i, hi⟩ := List.getElem?_of_mem (hall a ha ha')
  obtain ⟨j, hj⟩ := List.getElem?_of_mem (hall b hb hb')
  have hz : ∃ z, pl[0]? = some z := ⟨_, List.getElem?_eq_getElem (by omega)⟩
  obtain ⟨z, hz⟩ := hz
  rw [key i i (Nat.le_refl _) a hi z hz, key j j (Nat.le_refl _) b hj z hz]
theorem paired_map {α β : Type} {R : α → β → Prop} (f : β → α) (h : ∀ b, R (f b) b) : ∀ ys : List β, Paired R (ys.map f) ys
  | [] => .nil
  | b :: r => .cons (h b) (paired_map f h r)
theorem paired_eq_map {α β : Type} {f : β → α} : ∀ {xs : List α} {ys : List β}, Paired (fun x y => x = f y) xs ys → xs = ys.map f
  | _, _, .nil => rfl
  | _, _, .cons r t => by rw [r, paired_eq_map t]; rfl
theorem perm_ints {ys : List V} {ns : List Int} (h : ys.Perm (ns.map V.int)) : ∃ pl : List Int, ys = pl.map V.int ∧ pl.Perm ns := by
  obtain ⟨pl, p, q⟩ := Paired.perm (R := fun (x : V) y => x = V.int y) h (paired_map V.int (fun _ => rfl) ns)
  exact ⟨pl, paired_eq_map q, p⟩
theorem perm_refs {β : Type} {R : Addr → β → Prop} {ys : List V} {as : List Addr} {es : List β} (h : ys.Perm (as.map V.ref)) (hx : Paired R as es) : ∃ (as' : List Addr) (es' : List β), ys = as'.map V.ref ∧ es'.Perm es ∧ Paired R as' es' ∧ as'.Perm as := by
  obtain ⟨as', p, q⟩ := Paired.perm (R := fun (x : V) y => x = V.ref y) h (paired_map V.ref (fun _ => rfl) as)
  obtain ⟨es', p2, q2⟩ := Paired.perm p hx
  exact ⟨as', es', paired_eq_map q, p2, q2, p⟩
def numsTo (m : Nat) : List Int := (List.range m).map fun i : Nat => (i : Int)
theorem rgV_nums (m : Int) : rgV 0 m = (numsTo m.toNat).map V.int := by
  unfold rgV numsTo
  rw [List.map_map, Int.sub_zero]
  refine List.map_congr_left fun i _ => ?_
  show V.int (0 + (i : Int)) = V.int (i : Int)
  rw [Int.zero_add]
theorem mem_numsTo {m : Nat} {a : Int} : a ∈ numsTo m ↔ 0 ≤ a ∧ a < m := by
  unfold numsTo
  rw [List.mem_map]
  constructor
  · rintro ⟨i, hi, rfl⟩
    have := List.mem_range.mp hi
    omega
  · rintro ⟨h0, h1⟩
    exact ⟨a.toNat, List.mem_range.mpr (by omega), by omega⟩
theorem numsTo_length (m : Nat) : (numsTo m).length = m := by
  unfold numsTo
  rw [List.length_map, List.length_range]
theorem paired_snoc {α β : Type} {R : α → β → Prop} {a : α} {b : β} {xs : List α} {ys : List β} (h : Paired R xs ys) (r : R a b) : Paired R (xs ++ [a]) (ys ++ [b]) := Paired.snoc h r
theorem paired_mem {α β : Type} {R : α → β → Prop} : ∀ {xs : List α} {ys : List β} {x : α}, Paired R xs ys → x ∈ xs → ∃ y, y ∈ ys ∧ R x y
  | _, _, _, .nil, h => by simp at h
  | _, _, x, .cons (a := a) r t, h => by
    rcases List.mem_cons.mp h with e | h
    · subst e
      exact ⟨_, List.mem_cons_self .., r⟩
    · obtain ⟨y, hy, hr⟩ := paired_mem t h
      exact ⟨y, List.mem_cons_of_mem _ hy, hr⟩
/-! ### loops and comprehensions over more -/
theorem for_enum {K : PySem.W.Frag} {a : Addr} {xs : List V} {g : TG} {tb : TS} {D : Ends} {σ : L2.St} {H : Hp} (Pv : Nat → L2.St → Hp → Prop) (h0 : Pv 0 σ H) (hq : ∀ i σ H, Pv i σ H → SqL K H a xs)
    (hs : ∀ (i : Nat) (x : V) (T : Addr) (σ : L2.St) (H : Hp), xs[i]? = some x → Pv i σ H → H T = none → g (.ref T) σ (upd H T (.tup [.int (i : Nat), x])) fun σ2 H2 => tb { D with nx := Pv (i + 1), ct := Pv (i + 1), bk := D.nx } σ2 H2) (hd : ∀ σ H, Pv xs.length σ H → D.nx σ H) :
    ∃ W : Nat → Nat → L2.St → Hp → Prop, (∃ m, W 0 m σ H) ∧ ∀ i m σ H, W i m σ H →
      ((Ite K a).stop i H ∧ D.nx σ H) ∨ ((Ite K a).go i H ∧ ∃ N : L2.St → Hp → Prop, (∀ σ' H', N σ' H' → ∃ m', m' < m ∧ W (i + 1) m' σ' H') ∧ ∀ v H', (Ite K a).yld i H v H' → g v σ H' fun σ2 H2 => tb { D with nx := N, ct := N, bk := D.nx } σ2 H2) := by
  refine ⟨fun i m σ H => m = xs.length - i ∧ i ≤ xs.length ∧ Pv i σ H, ⟨xs.length, rfl, Nat.zero_le _, h0⟩, ?_⟩
  rintro i m σ H ⟨rfl, hi, p⟩
  have qx := hq i σ H p
  by_cases hlt : i < xs.length
  · have hx : xs[i]? = some xs[i] := List.getElem?_eq_getElem hlt
    refine .inr ⟨⟨xs, _, qx, hx⟩, Pv (i + 1), fun σ' H' p' => ⟨xs.length - (i + 1), by omega, rfl, hlt, p'⟩, fun v H' y => ?_⟩
    obtain ⟨T, x', rfl, hT, rfl, f1⟩ := y
    exact hs i x' T σ H (f1 xs qx) p hT
  · have e : i = xs.length := by omega
    subst e
    exact .inl ⟨⟨xs, qx, Nat.le_refl _⟩, hd σ H p⟩
theorem lc_zip {K : PySem.W.Frag} {a b : Addr} {xs ys : List V} {g : TG} {tt : TT} {te : TE} {vs : List Nat} {σ : L2.St} {H1 : Hp} {D : Addr} {Qd : Hp → Prop} (hl : xs.length = ys.length) (Pv : Nat → Hp → Prop) (h0 : Pv 0 (upd H1 D (.lst []))) (hq : ∀ i H, Pv i H → SqL K H a xs ∧ SqL K H b ys)
    (hs : ∀ (i : Nat) (x y : V) (T : Addr) (H : Hp), xs[i]? = some x → ys[i]? = some y → Pv i H → H T = none → g (.ref T) (wipe σ vs) (upd H T (.tup [x, y])) fun σ2 H2 => wipe σ2 vs = wipe σ vs ∧ tt σ2 H2 fun b H3 =>
      if b = true then te σ2 H3 fun y H4 => ∃ acc, H4 D = some (.lst acc) ∧ acc.length < sizeLine ∧ Pv (i + 1) (upd H4 D (.lst (acc ++ [y]))) else Pv (i + 1) H3) (hd : ∀ H, Pv xs.length H → Qd H) :
    ∃ W : Nat → Nat → Hp → Prop, (∃ m, W 0 m (upd H1 D (.lst []))) ∧ ∀ i m H, W i m H →
      ((Itz K a b).stop i H ∧ Qd H) ∨ ((Itz K a b).go i H ∧ ∃ Nx : Hp → Prop, (∀ H', Nx H' → ∃ m', m' < m ∧ W (i + 1) m' H') ∧ ∀ x H', (Itz K a b).yld i H x H' → g x (wipe σ vs) H' fun σ2 H2 => wipe σ2 vs = wipe σ vs ∧ tt σ2 H2 fun b H3 =>
        if b = true then te σ2 H3 fun y H4 => ∃ acc, H4 D = some (.lst acc) ∧ acc.length < sizeLine ∧ Nx (upd H4 D (.lst (acc ++ [y]))) else Nx H3) := by
  refine ⟨fun i m H => m = xs.length - i ∧ i ≤ xs.length ∧ Pv i H, ⟨xs.length, rfl, Nat.zero_le _, h0⟩, ?_⟩
  rintro i m H ⟨rfl, hi, p⟩
  obtain ⟨qx, qy⟩ := hq i H p
  by_cases hlt : i < xs.length
  · have hx : xs[i]? = some xs[i] := List.getElem?_eq_getElem hlt
    have hlt2 : i < ys.length := by omega
    have hy : ys[i]? = some ys[i] := List.getElem?_eq_getElem hlt2
    refine .inr ⟨⟨xs, ys, _, _, qx, qy, hx, hy⟩, Pv (i + 1), fun H' p' => ⟨xs.length - (i + 1), by omega, rfl, hlt, p'⟩, fun v H' y => ?_⟩
    obtain ⟨T, x', y', rfl, hT, rfl, f1, f2⟩ := y
    exact hs i x' y' T H (f1 xs qx) (f2 ys qy) p hT
  · have e : i = xs.length := by omega
    subst e
    exact .inl ⟨⟨xs, ys, qx, qy, Or.inl (Nat.le_refl _)⟩, hd H p⟩
abbrev g2 (K : PySem.W.Frag) (j1 j2 : Nat) : TG := gTup K 2 (gCons (gName j1) (gCons (gName j2) gNil))
theorem take_snoc {α : Type} {l : List α} {i : Nat} {x : α} (h : l[i]? = some x) : l.take (i + 1) = l.take i ++ [x] := by
  rw [List.take_add_one, h]
  rfl
/-- [f(x, y) for x, y in zip(xs, ys)] -/
theorem el_zip {K : PySem.W.Frag} {ta : TA} {te : TE} {vs : List Nat} {j1 j2 : Nat} {σ : L2.St} {H : Hp} {a b : Addr} {xs ys : List Int} (f : Int → Int → Int) (h : EvA ta σ H [.ref a, .ref b]) (hx : SqL K H a (xs.map V.int)) (hy : SqL K H b (ys.map V.int)) (hl : xs.length = ys.length) (hz : xs.length ≤ 1000)
    (hw : ∀ u v, wipe (((wipe σ vs).set j1 (some u)).set j2 (some v)) vs = wipe σ vs)
    (he : ∀ x y H1, x ∈ xs → y ∈ ys → Ex H H1 → Ev te (((wipe σ vs).set j1 (some (.int x))).set j2 (some (.int y))) H1 (.int (f x y))) : EvL (tLc (iZip K ta) (g2 K j1 j2) tYes te vs) σ H ((List.zipWith f xs ys).map V.int) := fun H0 e Q q => h H0 e _ fun H1 e1 => by
  have hx1 := ex_l (e.trans e1) hx
  have hy1 := ex_l (e.trans e1) hy
  refine ⟨a, b, _, _, rfl, hx1, hy1, fun D hD => ?_⟩
  refine lc_zip (xs := xs.map V.int) (ys := ys.map V.int) (by rw [List.length_map, List.length_map]; exact hl) (fun i H' => Ex H1 H' ∧ H' D = some (.lst (((List.zipWith f xs ys).take i).map V.int))) ⟨Ex.new hD, upd_same⟩ (fun i H' p => ⟨ex_l p.1 hx1, ex_l p.1 hy1⟩) (fun i x y T H' gx gy p nT => ?_) (fun H' p => ?_)
  · obtain ⟨p1, p2⟩ := p
    rw [List.getElem?_map] at gx gy
    obtain ⟨x', hx', rfl⟩ := Option.map_eq_some_iff.mp gx
    obtain ⟨y', hy', rfl⟩ := Option.map_eq_some_iff.mp gy
    refine ⟨T, _, rfl, SqT.of upd_same, rfl, _, _, rfl, _, _, rfl, rfl, hw _ _, ?_⟩
    show te _ _ _
    have xT : Ex H' (upd H' T (.tup [.int x', .int y'])) := Ex.new nT
    refine he x' y' H (List.mem_of_getElem? hx') (List.mem_of_getElem? hy') (Ex.refl H) _ ((e.trans e1).trans (p1.trans xT)) _ fun H4 e4 => ?_
    refine ⟨_, e4 _ _ (xT _ _ p2), ?_, Ex.mut ((p1.trans xT).trans e4) hD, ?_⟩
    · rw [List.length_map, List.length_take]
      have := (List.getElem?_eq_some_iff.mp hx').1
      exact small1000 (by omega)
    · have hzz : (List.zipWith f xs ys)[i]? = some (f x' y') := by
        rw [List.getElem?_zipWith, hx', hy']
      rw [upd_same, take_snoc hzz, List.map_append]
      rfl
  · obtain ⟨p1, p2⟩ := p
    rw [List.take_of_length_le (by rw [List.length_zipWith, List.length_map]; omega)] at p2
    exact q D H' (fresh_back e1 hD) (e1.trans p1) p2
/-- [g(x, y) for x, y in qs], qs a list of pairs -/
theorem el_pairs {K : PySem.W.Frag} {n : Nat} {te : TE} {vs : List Nat} {j1 j2 : Nat} {σ : L2.St} {H : Hp} {a : Addr} {bs : List Addr} {qs : List (Int × Int)} (f : Int × Int → Int) (hσ : σ[n]? = some (some (.ref a))) (hx : H a = some (.lst (bs.map V.ref))) (hE : EdgesAt H bs qs) (hz : qs.length ≤ 1000)
    (hw : ∀ u v, wipe (((wipe σ vs).set j1 (some u)).set j2 (some v)) vs = wipe σ vs)
    (he : ∀ e H1, e ∈ qs → Ex H H1 → Ev te (((wipe σ vs).set j1 (some (.int e.1))).set j2 (some (.int e.2))) H1 (.int (f e))) : EvL (tLc (iList K (tVar n)) (g2 K j1 j2) tYes te vs) σ H ((qs.map f).map V.int) := fun H1 e1 Q q => by
  have hx1 := e1 _ _ hx
  have el : bs.length = qs.length := Paired.length hE
  refine ⟨_, hσ, a, rfl, ⟨_, SqL.of hx1⟩, fun D hD => ?_⟩
  refine lc_list (K := K) (a := a) (xs := bs.map V.ref) (fun i H' => Ex H1 H' ∧ H' D = some (.lst (((qs.map f).take i).map V.int))) ⟨Ex.new hD, upd_same⟩ (fun i H' _ p => SqL.of (p.1 _ _ hx1)) (fun i x H' gx p => ?_) (fun H' p => ?_)
  · obtain ⟨p1, p2⟩ := p
    rw [List.getElem?_map] at gx
    obtain ⟨b, hb, rfl⟩ := Option.map_eq_some_iff.mp gx
    obtain ⟨ed, hed, hr⟩ := paired_get hE hb
    refine ⟨b, _, rfl, SqT.of ((e1.trans p1) _ _ hr), rfl, _, _, rfl, _, _, rfl, rfl, hw _ _, ?_⟩
    show te _ _ _
    refine he ed H (List.mem_of_getElem? hed) (Ex.refl H) _ (e1.trans p1) _ fun H4 e4 => ?_
    refine ⟨_, e4 _ _ p2, ?_, Ex.mut (p1.trans e4) hD, ?_⟩
    · rw [List.length_map, List.length_take, List.length_map]
      exact small1000 (by omega)
    · have hzz : (qs.map f)[i]? = some (f ed) := by rw [List.getElem?_map, hed]; rfl
      rw [upd_same, take_snoc hzz, List.map_append]
      rfl
  · obtain ⟨p1, p2⟩ := p
    rw [List.take_of_length_le (by rw [List.length_map, List.length_map]; omega)] at p2
    exact q D H' hD p1 p2
/-- [[..] for i in range(m)]: new rows -/
theorem lc_rows {ta : TA} {te : TE} {vs : List Nat} {j : Nat} {σ : L2.St} {H : Hp} {Q : VK} {m : Nat} (F : Nat → List Int) (h : EvA ta σ H [.int (m : Int)]) (hm : m ≤ 1000) (hw : ∀ u, wipe ((wipe σ vs).set j (some u)) vs = wipe σ vs)
    (he : ∀ i H1, Ex H H1 → i < m → EvL te ((wipe σ vs).set j (some (.int (i : Int)))) H1 ((F i).map V.int))
    (k : ∀ p as H2, H p = none → (∀ a ∈ as, H a = none) → as.Nodup → p ∉ as → Ex H H2 → Tab H2 p as ((List.range m).map F) → Q (.ref p) H2) : tLc (iRng1 ta) (gName j) tYes te vs σ H Q := by
  refine h H (Ex.refl H) _ fun H1 e1 => ⟨(m : Int), rfl, by omega, by omega, fun D hD => ?_⟩
  have hDH : H D = none := fresh_back e1 hD
  refine lc_range (lo := 0) (n := (m : Int).toNat) (fun i H' => ∃ as, Ex H1 H' ∧ H' D = some (.lst (as.map V.ref)) ∧ RowsAt H' as ((List.range i).map F) ∧ (∀ a ∈ as, H a = none) ∧ as.Nodup ∧ D ∉ as) ⟨[], Ex.new hD, upd_same, .nil, fun a ha => by simp at ha, List.nodup_nil, by simp⟩ (fun i H' hi p => ?_) (fun H' p => ?_)
  · obtain ⟨as, p1, p2, p3, p4, p5, p6⟩ := p
    have el : as.length = i := by rw [Paired.length p3, List.length_map, List.length_range]
    have e0 : (0 : Int) + (i : Int) = (i : Int) := Int.zero_add _
    refine ⟨hw _, ?_⟩
    show te ((wipe σ vs).set j (some (.int ((0 : Int) + (i : Int))))) H' _
    rw [e0]
    refine he i H' (e1.trans p1) (by omega) H' (Ex.refl _) _ fun r H4 nr e4 hr => ?_
    have nrD : r ≠ D := fun z => by
      rw [z, p2] at nr
      cases nr
    refine ⟨_, e4 _ _ p2, ?_, as ++ [r], Ex.mut (p1.trans e4) hD, ?_, ?_, ?_, ?_, ?_⟩
    · rw [List.length_map, el]
      exact small1000 (by omega)
    · rw [upd_same, List.map_append]
      rfl
    · rw [List.range_succ, List.map_append]
      have st : ∀ a (l : List Int), a ≠ D → H4 a = some (.lst (l.map V.int)) → upd H4 D (.lst (as.map V.ref ++ [.ref r])) a = some (.lst (l.map V.int)) := fun a l n g => by
        rw [upd_ne n]
        exact g
      refine paired_snoc ?_ (st r _ nrD hr)
      have aux : ∀ {as' : List Addr} {rs : List (List Int)}, D ∉ as' → RowsAt H' as' rs → RowsAt (upd H4 D (.lst (as.map V.ref ++ [.ref r]))) as' rs := by
        intro as' rs hn hp
        induction hp with
        | nil => exact .nil
        | cons g t ih => exact .cons (st _ _ (fun z => hn (by rw [z]; exact List.mem_cons_self ..)) (e4 _ _ g)) (ih fun z => hn (List.mem_cons_of_mem _ z))
      exact aux p6 p3
    · intro a ha
      rcases List.mem_append.mp ha with h | h
      · exact p4 a h
      · have : a = r := by simpa using h
        rw [this]
        exact fresh_back (e1.trans p1) nr
    · refine List.nodup_append.mpr ⟨p5, by simp, fun a ha b hb => ?_⟩
      have : b = r := by simpa using hb
      rw [this]
      intro z
      rw [z] at ha
      obtain ⟨x, _, hx⟩ := paired_mem p3 ha
      rw [nr] at hx
      cases hx
    · intro ha
      rcases List.mem_append.mp ha with h | h
      · exact p6 h
      · exact nrD (by simpa using h : D = r).symm
  · obtain ⟨as, p1, p2, p3, p4, p5, p6⟩ := p
    have em : (m : Int).toNat = m := by omega
    rw [em] at p3
    exact k D as H' hDH p4 p5 p6 (e1.trans p1) ⟨p2, p3⟩
/-! ### a dict of rows by places -/
theorem nodup_sub {α : Type} [DecidableEq α] : ∀ {l1 l2 : List α}, l1.Nodup → (∀ x ∈ l1, x ∈ l2) → l1.length ≤ l2.length
  | [], _, _, _ => Nat.zero_le _
  | a :: t, l2, hn, hs => by
    have h1 := List.nodup_cons.mp hn
    have ha := hs a (List.mem_cons_self ..)
    have ih := nodup_sub (l1 := t) (l2 := l2.erase a) h1.2 fun x hx => (List.mem_erase_of_ne (fun z => h1.1 (by rw [← z]; exact hx))).mpr (hs x (List.mem_cons_of_mem _ hx))
    rw [List.length_erase_of_mem ha] at ih
    have := List.length_pos_of_mem ha
    simp only [List.length_cons]
    omega
theorem rep_flat : ∀ m : Nat, (List.replicate m [V.int 0]).flatten = (List.replicate m 0).map V.int
  | 0 => rfl
  | m + 1 => by
    rw [List.replicate_succ, List.flatten_cons, rep_flat m]
    rfl
theorem nodup_nums (m : Nat) : (numsTo m).Nodup := by
  unfold numsTo
  exact List.Pairwise.map _ (fun a b h z => h (by omega)) List.nodup_range
theorem val_mem : ∀ {kvs : List (Key × V)} {L : List Int} {x : Int}, kvs.map (·.1) = L.map Sum.inl → ((valV kvs (Sum.inl x : Key)).isSome = true ↔ x ∈ L)
  | [], L, x, h => by
    cases L with
    | nil => simp [valV]
    | cons a l => simp at h
  | kv :: r, L, x, h => by
    cases L with
    | nil => simp at h
    | cons a l =>
      have h1 : kv.1 = Sum.inl a ∧ r.map (·.1) = l.map Sum.inl := by
        have := List.cons.inj h
        exact ⟨this.1, this.2⟩
      have ih := val_mem (kvs := r) (L := l) (x := x) h1.2
      by_cases e : x = a
      · subst e
        rw [valV_pos h1.1]
        simp
      · have ne : ¬ kv.1 = Sum.inl x := by
          rw [h1.1]
          intro z
          exact e (Sum.inl.inj z).symm
        have e2 : valV (kv :: r) (Sum.inl x : Key) = valV r (Sum.inl x : Key) := by
          simp [valV, List.find?_cons, ne]
        rw [e2, ih, List.mem_cons]
        exact ⟨Or.inr, fun z => z.resolve_left e⟩
/-- the dict at d: rows of m whole numbers by the places L -/
structure FarOk (H : Hp) (d : Addr) (m : Nat) (kvs : List (Key × V)) (L : List Int) : Prop where
  at_ : H d = some (.dK kvs)
  keys : kvs.map (·.1) = L.map Sum.inl
  nd : L.Nodup
  inn : ∀ x ∈ L, 0 ≤ x ∧ x ≤ m
  row : ∀ x v, valV kvs (Sum.inl x : Key) = some v → ∃ (a : Addr) (ns : List Int), v = .ref a ∧ H a = some (.lst (ns.map V.int)) ∧ ns.length = m ∧ ∀ y ∈ ns, y.natAbs ≤ L.length
theorem FarOk.len {H : Hp} {d : Addr} {m : Nat} {kvs : List (Key × V)} {L : List Int} (h : FarOk H d m kvs L) : kvs.length = L.length := by
  rw [← List.length_map (f := (·.1)), h.keys, List.length_map]
theorem FarOk.le {H : Hp} {d : Addr} {m : Nat} {kvs : List (Key × V)} {L : List Int} (h : FarOk H d m kvs L) : L.length ≤ m + 1 := by
  have := nodup_sub (l2 := numsTo (m + 1)) h.nd fun x hx => mem_numsTo.mpr (by have := h.inn x hx; omega)
  rw [numsTo_length] at this
  exact this
theorem FarOk.all {H : Hp} {d : Addr} {m : Nat} {kvs : List (Key × V)} {L : List Int} (h : FarOk H d m kvs L) (hl : m < L.length) : ∀ x : Int, 0 ≤ x → x ≤ m → x ∈ L := by
  intro x h0 h1
  by_cases hx : x ∈ L
  · exact hx
  · have h2 := nodup_sub (l1 := x :: L) (l2 := numsTo (m + 1)) (List.nodup_cons.mpr ⟨hx, h.nd⟩) fun y hy => mem_numsTo.mpr (by
      rcases List.mem_cons.mp hy with rfl | hy
      · omega
      · have := h.inn y hy
        omega)
    rw [numsTo_length, List.length_cons] at h2
    omega
theorem FarOk.ex {H H' : Hp} {d : Addr} {m : Nat} {kvs : List (Key × V)} {L : List Int} (h : FarOk H d m kvs L) (e : Ex H H') : FarOk H' d m kvs L :=
  ⟨e _ _ h.at_, h.keys, h.nd, h.inn, fun x v hv => by
    obtain ⟨a, ns, h1, h2, h3, h4⟩ := h.row x v hv
    exact ⟨a, ns, h1, e _ _ h2, h3, h4⟩⟩
theorem FarOk.get {H : Hp} {d : Addr} {m : Nat} {kvs : List (Key × V)} {L : List Int} (h : FarOk H d m kvs L) {x : Int} (hx : x ∈ L) : ∃ (a : Addr) (ns : List Int), valV kvs (Sum.inl x : Key) = some (.ref a) ∧ H a = some (.lst (ns.map V.int)) ∧ ns.length = m ∧ ∀ y ∈ ns, y.natAbs ≤ L.length := by
  have hs := (val_mem h.keys).mpr hx
  obtain ⟨v, hv⟩ := Option.isSome_iff_exists.mp hs
  obtain ⟨a, ns, h1, h2, h3, h4⟩ := h.row x v hv
  subst h1
  exact ⟨a, ns, hv, h2, h3, h4⟩
theorem FarOk.no {H : Hp} {d : Addr} {m : Nat} {kvs : List (Key × V)} {L : List Int} (h : FarOk H d m kvs L) {x : Int} (hx : x ∉ L) : valV kvs (Sum.inl x : Key) = none := by
  cases q : valV kvs (Sum.inl x : Key) with
  | none => rfl
  | some v => exact absurd ((val_mem h.keys).mp (by rw [q]; rfl)) hx
theorem FarOk.some_ {H : Hp} {d : Addr} {m : Nat} {kvs : List (Key × V)} {L : List Int} (h : FarOk H d m kvs L) (x : Int) : (valV kvs (Sum.inl x : Key)).isSome = decide (x ∈ L) := by
  rw [Bool.eq_iff_iff, val_mem h.keys, decide_eq_true_iff]
theorem FarOk.put {H : Hp} {d : Addr} {m : Nat} {kvs : List (Key × V)} {L : List Int} {x : Int} {a : Addr} {ns : List Int} (h : FarOk H d m kvs L) (hx : x ∉ L) (h0 : 0 ≤ x ∧ x ≤ m) (ha : H a = some (.lst (ns.map V.int))) (hl : ns.length = m) (hb : ∀ y ∈ ns, y.natAbs ≤ L.length + 1) :
    FarOk (upd H d (.dK (putK kvs (Sum.inl x) (.ref a)))) d m (putK kvs (Sum.inl x) (.ref a)) (L ++ [x]) := by
  have hn := h.no hx
  have ne : ∀ b (l : List V), H b = some (.lst l) → b ≠ d := fun b l g => ne_of g h.at_ (by intro z; cases z)
  refine ⟨upd_same, ?_, ?_, ?_, ?_⟩
  · rw [putK_new _ hn, List.map_append, List.map_append, h.keys]
    rfl
  · refine List.nodup_append.mpr ⟨h.nd, by simp, fun y hy z hz => ?_⟩
    have : z = x := by simpa using hz
    rw [this]
    intro e
    exact hx (e ▸ hy)
  · intro y hy
    rcases List.mem_append.mp hy with q | q
    · exact h.inn y q
    · have : y = x := by simpa using q
      rw [this]
      exact h0
  · intro y v hv
    rw [valV_put] at hv
    rw [List.length_append]
    by_cases e : (Sum.inl y : Key) = Sum.inl x
    · rw [if_pos e] at hv
      have ev := Option.some.inj hv
      subst ev
      refine ⟨a, ns, rfl, ?_, hl, hb⟩
      rw [upd_ne (ne a _ ha)]
      exact ha
    · rw [if_neg e] at hv
      obtain ⟨b, l, h1, h2, h3, h4⟩ := h.row y v hv
      refine ⟨b, l, h1, ?_, h3, fun z hz => Nat.le_succ_of_le (h4 z hz)⟩
      rw [upd_ne (ne b _ h2)]
      exact h2
theorem ev_dget {σ : L2.St} {H : Hp} {i j : Nat} {d : Addr} {x : Int} {kvs : List (Key × V)} {v : V} (h1 : σ[i]? = some (some (.ref d))) (h2 : σ[j]? = some (some (.int x))) (hd : H d = some (.dK kvs)) (hv : valV kvs (Sum.inl x : Key) = some v) : Ev (tDGet (tVar i) (tVar j)) σ H v := fun H1 e Q q =>
  ⟨_, h1, _, h2, d, v, rfl, by rw [← hv]; exact DGet.k (k := Sum.inl x) (e _ _ hd), q H1 (Ex.refl _)⟩
/-- the kk-th number of the row that stands by x -/
def rowOf : Option HO → List Int
  | some (.lst xs) => xs.map fun v => match v with | .int i => i | _ => 0
  | _ => []
theorem rowOf_ints (ns : List Int) : rowOf (some (.lst (ns.map V.int))) = ns := by
  show (ns.map V.int).map (fun v => match v with | V.int i => i | _ => 0) = ns
  rw [List.map_map]
  exact List.map_id' ns
def valN (H : Hp) (kvs : List (Key × V)) (x : Int) (kk : Nat) : Int :=
  match valV kvs (Sum.inl x : Key) with
  | some (.ref a) => (rowOf (H a))[kk]?.getD 0
  | _ => 0
theorem valN_eq {H : Hp} {kvs : List (Key × V)} {x : Int} {kk : Nat} {a : Addr} {ns : List Int} (h : valV kvs (Sum.inl x : Key) = some (.ref a)) (g : H a = some (.lst (ns.map V.int))) : valN H kvs x kk = ns[kk]?.getD 0 := by
  unfold valN
  rw [h]
  show (rowOf (H a))[kk]?.getD 0 = _
  rw [g, rowOf_ints]
theorem atI_row {ns : List Int} {kk : Nat} (h : kk < ns.length) : atI (ns.map V.int) (kk : Int) = some (.int (ns[kk]?.getD 0)) := by
  refine atI_nat ?_
  rw [List.getElem?_map, List.getElem?_eq_getElem h]
  rfl
/-- a new table (new since H): m rows of w numbers, none greater than B -/
structure NewTab (H H' : Hp) (p : Addr) (as : List Addr) (rows : List (List Int)) (w B : Nat) : Prop where
  p0 : H p = none
  a0 : ∀ a ∈ as, H a = none
  nd : as.Nodup
  np : p ∉ as
  tab : Tab H' p as rows
  ok : ∀ r ∈ rows, r.length = w ∧ ∀ y ∈ r, y.natAbs ≤ B
theorem NewTab.ex {H H' H2 : Hp} {p : Addr} {as : List Addr} {rows : List (List Int)} {w B : Nat} (h : NewTab H H' p as rows w B) (e : Ex H' H2) : NewTab H H2 p as rows w B := ⟨h.p0, h.a0, h.nd, h.np, h.tab.ex e, h.ok⟩
theorem rows_but {H H' : Hp} : ∀ {as : List Addr} {rows : List (List Int)}, RowsAt H as rows → (∀ a ∈ as, ∀ o, H a = some o → H' a = some o) → RowsAt H' as rows
  | _, _, .nil, _ => .nil
  | _, _, .cons g t, h => .cons (h _ (List.mem_cons_self ..) _ g) (rows_but t fun a ha => h a (List.mem_cons_of_mem _ ha))
theorem NewTab.exB {H H' H2 : Hp} {s p : Addr} {as : List Addr} {rows : List (List Int)} {w B : Nat} (h : NewTab H H' p as rows w B) (e : ExB s H' H2) (hs : ∃ o, H s = some o) : NewTab H H2 p as rows w B := by
  obtain ⟨o, ho⟩ := hs
  have n1 : p ≠ s := fun z => by
    have := h.p0
    rw [z, ho] at this
    cases this
  have n2 : ∀ a ∈ as, a ≠ s := fun a ha z => by
    have := h.a0 a ha
    rw [z, ho] at this
    cases this
  exact ⟨h.p0, h.a0, h.nd, h.np, ⟨e _ _ n1 h.tab.1, rows_but h.tab.2 fun a ha o' g => e a o' (n2 a ha) g⟩, h.ok⟩
theorem NewTab.back {H0 H H' : Hp} {s p : Addr} {as : List Addr} {rows : List (List Int)} {w B : Nat} (h : NewTab H H' p as rows w B) (e : ExB s H0 H) (hs : ∃ o, H s = some o) : NewTab H0 H' p as rows w B :=
  ⟨fresh_B e h.p0 hs, fun a ha => fresh_B e (h.a0 a ha) hs, h.nd, h.np, h.tab, h.ok⟩
theorem NewTab.mono {H H' : Hp} {p : Addr} {as : List Addr} {rows : List (List Int)} {w B B' : Nat} (h : NewTab H H' p as rows w B) (hb : B ≤ B') : NewTab H H' p as rows w B' :=
  ⟨h.p0, h.a0, h.nd, h.np, h.tab, fun r hr => ⟨(h.ok r hr).1, fun y hy => Nat.le_trans ((h.ok r hr).2 y hy) hb⟩⟩
/-- found.append(a new row) -/
theorem NewTab.app {H H' H2 : Hp} {p r : Addr} {as : List Addr} {rows : List (List Int)} {row : List Int} {w B : Nat} (h : NewTab H H' p as rows w B) (e0 : ∀ a, H' a = none → H a = none) (e : Ex H' H2) (nr : H' r = none) (hr : H2 r = some (.lst (row.map V.int))) (hl : row.length = w) (hb : ∀ y ∈ row, y.natAbs ≤ B) :
    NewTab H (upd H2 p (.lst (as.map V.ref ++ [.ref r]))) p (as ++ [r]) (rows ++ [row]) w B := by
  have nrp : r ≠ p := fun z => by
    rw [z, h.tab.1] at nr
    cases nr
  have nra : r ∉ as := fun ha => by
    obtain ⟨x, _, hx⟩ := paired_mem h.tab.2 ha
    rw [nr] at hx
    cases hx
  refine ⟨h.p0, fun a ha => ?_, ?_, ?_, ⟨?_, ?_⟩, fun x hx => ?_⟩
  · rcases List.mem_append.mp ha with q | q
    · exact h.a0 a q
    · have : a = r := by simpa using q
      rw [this]
      exact e0 r nr
  · refine List.nodup_append.mpr ⟨h.nd, by simp, fun a ha b hb z => ?_⟩
    have : b = r := by simpa using hb
    exact nra (by rw [← this, ← z]; exact ha)
  · intro ha
    rcases List.mem_append.mp ha with q | q
    · exact h.np q
    · exact nrp (by simpa using q : p = r).symm
  · rw [upd_same, List.map_append]
    rfl
  · refine paired_snoc (rows_but h.tab.2 fun a ha o g => ?_) ?_
    · rw [upd_ne (fun z => h.np (by rw [← z]; exact ha))]
      exact e a o g
    · rw [upd_ne nrp]
      exact hr
  · rcases List.mem_append.mp hx with q | q
    · exact h.ok x q
    · have : x = row := by simpa using q
      rw [this]
      exact ⟨hl, hb⟩
theorem NewTab.new {H : Hp} {H1 : Hp} {p : Addr} {w B : Nat} (h : H p = none) (h1 : H1 p = some (.lst [])) : NewTab H H1 p [] [] w B := ⟨h, fun a ha => by simp at ha, List.nodup_nil, by simp, ⟨h1, .nil⟩, fun r hr => by simp at hr⟩
theorem noneB {s : Addr} {H H' : Hp} (e : ExB s H H') (hs : ∃ o, H' s = some o) : ∀ a, H' a = none → H a = none := fun a h => fresh_B e h hs
theorem ev_chain {r r' : R2} {ta tb tc : TE} {σ : L2.St} {H : Hp} {x y z : V} {b c : Bool} (ha : Ev ta σ H x) (hb : Ev tb σ H y) (hc : Ev tc σ H z) (h1 : RV r x y H (.bl b)) (h2 : RV r' y z H (.bl c)) : Ev (tChain r r' ta tb tc) σ H (.bl (b && c)) := fun H1 e Q q =>
  ha H1 e _ fun H2 e2 => hb H2 (e.trans e2) _ fun H3 e3 => h1 H3 ((e.trans e2).trans e3) _ fun H4 e4 => ⟨b, rfl, by
    cases b with
    | true =>
      show tc σ H4 _
      exact hc H4 (((e.trans e2).trans e3).trans e4) _ fun H5 e5 => h2 H5 ((((e.trans e2).trans e3).trans e4).trans e5) Q fun H6 e6 => q H6 ((((e2.trans e3).trans e4).trans e5).trans e6)
    | false =>
      show Q (.bl false) H4
      exact q H4 ((e2.trans e3).trans e4)⟩
theorem ev_int1 {ta : TE} {σ : L2.St} {H : Hp} {b : Bool} (h : Ev ta σ H (.bl b)) : Ev (tCB (fun xs H Q => (∃ i, xs = [V.int i] ∧ Q (V.int i) H) ∨ ∃ k, xs = [V.bl k] ∧ Q (V.int (if k = true then 1 else 0)) H) (tCons ta tNil)) σ H (.int (if b = true then 1 else 0)) := fun H1 e Q q =>
  h H1 e _ fun H2 e2 => .inr ⟨b, rfl, q H2 e2⟩
/-- [e for i in range(m)], e whole numbers -/
theorem el_rng {ta : TA} {te : TE} {vs : List Nat} {j m : Nat} {σ : L2.St} {H : Hp} (f : Nat → Int) (h : EvA ta σ H [.int (m : Int)]) (hm : m ≤ 1000) (hw : ∀ x, wipe ((wipe σ vs).set j (some x)) vs = wipe σ vs)
    (he : ∀ (i : Nat) H1, Ex H H1 → i < m → Ev te ((wipe σ vs).set j (some (.int (i : Int)))) H1 (.int (f i))) : EvL (tLc (iRng1 ta) (gName j) tYes te vs) σ H (((List.range m).map f).map V.int) := by
  have g := el_lcR1 (t := tYes) (te := te) (j := j) (vs := vs) (σ := σ) (H := H) (n := (m : Int)) (ta := ta) (fun _ => true) (fun o => .int (f o)) h (by omega) hw (fun o H1 e ho Hx ex Qx qx => qx Hx (Ex.refl _)) (fun o H1 e ho hf => he o H1 e (by omega))
  have eg : given (m : Int).toNat (fun _ => true) (fun o => V.int (f o)) = ((List.range m).map f).map V.int := by
    unfold given
    rw [Int.toNat_natCast, List.filter_eq_self.mpr (fun _ _ => rfl), List.map_map]
    rfl
  rw [eg] at g
  exact g
/-- [f(row) for row in rows] -/
theorem el_col {K : PySem.W.Frag} {n : Nat} {te : TE} {vs : List Nat} {j : Nat} {σ : L2.St} {H : Hp} {a : Addr} {bs : List Addr} {qs : List (List Int)} (f : List Int → Int) (hσ : σ[n]? = some (some (.ref a))) (hx : H a = some (.lst (bs.map V.ref))) (hE : RowsAt H bs qs) (hz : qs.length ≤ 1000)
    (hw : ∀ u, wipe ((wipe σ vs).set j (some u)) vs = wipe σ vs)
    (he : ∀ b r H1, r ∈ qs → H b = some (.lst (r.map V.int)) → Ex H H1 → Ev te ((wipe σ vs).set j (some (.ref b))) H1 (.int (f r))) : EvL (tLc (iList K (tVar n)) (gName j) tYes te vs) σ H ((qs.map f).map V.int) := fun H1 e1 Q q => by
  have hx1 := e1 _ _ hx
  have el : bs.length = qs.length := Paired.length hE
  refine ⟨_, hσ, a, rfl, ⟨_, SqL.of hx1⟩, fun D hD => ?_⟩
  refine lc_list (K := K) (a := a) (xs := bs.map V.ref) (fun i H' => Ex H1 H' ∧ H' D = some (.lst (((qs.map f).take i).map V.int))) ⟨Ex.new hD, upd_same⟩ (fun i H' _ p => SqL.of (p.1 _ _ hx1)) (fun i x H' gx p => ?_) (fun H' p => ?_)
  · obtain ⟨p1, p2⟩ := p
    rw [List.getElem?_map] at gx
    obtain ⟨b, hb, rfl⟩ := Option.map_eq_some_iff.mp gx
    obtain ⟨ed, hed, hr⟩ := paired_get hE hb
    refine ⟨hw _, ?_⟩
    show te _ _ _
    refine he b ed H (List.mem_of_getElem? hed) hr (Ex.refl H) _ (e1.trans p1) _ fun H4 e4 => ?_
    refine ⟨_, e4 _ _ p2, ?_, Ex.mut (p1.trans e4) hD, ?_⟩
    · rw [List.length_map, List.length_take, List.length_map]
      exact small1000 (by omega)
    · have hzz : (qs.map f)[i]? = some (f ed) := by rw [List.getElem?_map, hed]; rfl
      rw [upd_same, take_snoc hzz, List.map_append]
      rfl
  · obtain ⟨p1, p2⟩ := p
    rw [List.take_of_length_le (by rw [List.length_map, List.length_map]; omega)] at p2
    exact q D H' hD p1 p2
/-- [a number drawn for i in range(m)] -/
theorem lc_draw {ta : TA} {te : TE} {vs : List Nat} {j m : Nat} {σ : L2.St} {H : Hp} {Q : VK} {s : Addr} {n : Int} (P : Int → Prop) (h : EvA ta σ H [.int (m : Int)]) (hm : m ≤ 1000) (hs : SrcAt H s n) (hw : ∀ u, wipe ((wipe σ vs).set j (some u)) vs = wipe σ vs)
    (he : ∀ (i : Nat) H1, ExB s H H1 → i < m → SrcAt H1 s (n + i) → ∀ Q1 : VK, (∀ x H2, P x → ExB s H1 H2 → SrcAt H2 s (n + i + 1) → Q1 (.int x) H2) → te ((wipe σ vs).set j (some (.int (i : Int)))) H1 Q1)
    (k : ∀ (D : Addr) (ns : List Int) (H2 : Hp), H D = none → ExB s H H2 → SrcAt H2 s (n + m) → H2 D = some (.lst (ns.map V.int)) → ns.length = m → (∀ x ∈ ns, P x) → Q (.ref D) H2) : tLc (iRng1 ta) (gName j) tYes te vs σ H Q := by
  refine h H (Ex.refl H) _ fun H1 e1 => ⟨(m : Int), rfl, by omega, by omega, fun D hD => ?_⟩
  have hDH : H D = none := fresh_back e1 hD
  have hDs : D ≠ s := (hs.ex e1).ne hD
  refine lc_range (lo := 0) (n := (m : Int).toNat) (fun i H' => ∃ ns, ExB s H H' ∧ SrcAt H' s (n + i) ∧ H' D = some (.lst (ns.map V.int)) ∧ ns.length = i ∧ ∀ x ∈ ns, P x) ⟨[], ExB.of (e1.trans (Ex.new hD)), (hs.ex (e1.trans (Ex.new hD))).le (by omega), upd_same, rfl, fun x hx => by simp at hx⟩ (fun i H' hi p => ?_) (fun H' p => ?_)
  · obtain ⟨ns, p1, p2, p3, p4, p5⟩ := p
    have e0 : (0 : Int) + (i : Int) = (i : Int) := Int.zero_add _
    refine ⟨hw _, ?_⟩
    show te ((wipe σ vs).set j (some (.int ((0 : Int) + (i : Int))))) H' _
    rw [e0]
    refine he i H' p1 (by omega) p2 _ fun x H2 hx e2 s2 => ?_
    refine ⟨_, e2 _ _ hDs p3, small1000 (by rw [List.length_map]; omega), ns ++ [x], ?_, ?_, ?_, ?_, ?_⟩
    · refine fun b o nb hb => ?_
      rw [upd_ne (ne_of_none hb hDH)]
      exact e2 _ _ nb (p1 _ _ nb hb)
    · obtain ⟨a1, a2, a3, a4, a5, a6, a7, a8⟩ := s2
      exact ⟨a1, a2, a3, by rw [upd_ne hDs.symm]; exact a4, a5, a6, a7, by omega⟩
    · rw [upd_same, List.map_append]
      rfl
    · rw [List.length_append, p4]
      rfl
    · intro y hy
      rcases List.mem_append.mp hy with q | q
      · exact p5 y q
      · have : y = x := by simpa using q
        rw [this]
        exact hx
  · obtain ⟨ns, p1, p2, p3, p4, p5⟩ := p
    have em : (m : Int).toNat = m := by omega
    rw [em] at p4 p2
    exact k D ns H' hDH p1 p2 p3 p4 p5
/-- the same over a list of whole numbers -/
theorem lc_drawL {K : PySem.W.Frag} {tl te : TE} {vs : List Nat} {j : Nat} {σ : L2.St} {H : Hp} {Q : VK} {s a : Addr} {n : Int} {xs : List Int} (P : Int → Prop) (h : Ev tl σ H (.ref a)) (hx : H a = some (.lst (xs.map V.int))) (has : a ≠ s) (hm : xs.length ≤ 1000) (hs : SrcAt H s n) (hw : ∀ u, wipe ((wipe σ vs).set j (some u)) vs = wipe σ vs)
    (he : ∀ (i : Nat) (y : Int) H1, ExB s H H1 → i < xs.length → SrcAt H1 s (n + i) → ∀ Q1 : VK, (∀ x H2, P x → ExB s H1 H2 → SrcAt H2 s (n + i + 1) → Q1 (.int x) H2) → te ((wipe σ vs).set j (some (.int y))) H1 Q1)
    (k : ∀ (D : Addr) (ns : List Int) (H2 : Hp), H D = none → ExB s H H2 → SrcAt H2 s (n + xs.length) → H2 D = some (.lst (ns.map V.int)) → ns.length = xs.length → (∀ x ∈ ns, P x) → Q (.ref D) H2) : tLc (iList K tl) (gName j) tYes te vs σ H Q := by
  refine h H (Ex.refl H) _ fun H1 e1 => ⟨a, rfl, ⟨_, SqL.of (e1 _ _ hx)⟩, fun D hD => ?_⟩
  have hDH : H D = none := fresh_back e1 hD
  have hDs : D ≠ s := (hs.ex e1).ne hD
  refine lc_list (K := K) (a := a) (xs := xs.map V.int) (fun i H' => ∃ ns, ExB s H H' ∧ SrcAt H' s (n + i) ∧ H' D = some (.lst (ns.map V.int)) ∧ ns.length = i ∧ ∀ x ∈ ns, P x) ⟨[], ExB.of (e1.trans (Ex.new hD)), (hs.ex (e1.trans (Ex.new hD))).le (by omega), upd_same, rfl, fun x hx => by simp at hx⟩ (fun i H' _ ⟨_, p1, _⟩ => SqL.of (p1 _ _ has hx)) (fun i y H' gy p => ?_) (fun H' p => ?_)
  · obtain ⟨ns, p1, p2, p3, p4, p5⟩ := p
    rw [List.getElem?_map] at gy
    obtain ⟨y', hy', rfl⟩ := Option.map_eq_some_iff.mp gy
    have hi := (List.getElem?_eq_some_iff.mp hy').1
    refine ⟨hw _, ?_⟩
    show te _ H' _
    refine he i y' H' p1 hi p2 _ fun x H2 hx' e2 s2 => ?_
    refine ⟨_, e2 _ _ hDs p3, small1000 (by rw [List.length_map]; omega), ns ++ [x], ?_, ?_, ?_, ?_, ?_⟩
    · refine fun b o nb hb => ?_
      rw [upd_ne (ne_of_none hb hDH)]
      exact e2 _ _ nb (p1 _ _ nb hb)
    · obtain ⟨a1, a2, a3, a4, a5, a6, a7, a8⟩ := s2
      exact ⟨a1, a2, a3, by rw [upd_ne hDs.symm]; exact a4, a5, a6, a7, by omega⟩
    · rw [upd_same, List.map_append]
      rfl
    · rw [List.length_append, p4]
      rfl
    · intro z hz
      rcases List.mem_append.mp hz with q | q
      · exact p5 z q
      · have : z = x := by simpa using q
        rw [this]
        exact hx'
  · obtain ⟨ns, p1, p2, p3, p4, p5⟩ := p
    rw [List.length_map] at p4 p2
    exact k D ns H' hDH p1 p2 p3 p4 p5
theorem rows_set {H : Hp} {v : List V} {x : Addr} : ∀ {as : List Addr} {rows : List (List Int)} {k : Nat} {row : List Int}, RowsAt H as rows → as.Nodup → as[k]? = some x → v = row.map V.int → RowsAt (upd H x (.lst v)) as (rows.set k row)
  | _, _, _, _, .nil, _, h, _ => by simp at h
  | a :: as, r :: rows, 0, row, .cons g t, nd, h, hv => by
    have e : a = x := Option.some.inj h
    subst e
    have h1 := List.nodup_cons.mp nd
    refine .cons (by rw [upd_same, hv]) (rows_but t fun b hb o q => ?_)
    rw [upd_ne (fun z => h1.1 (by rw [← z]; exact hb))]
    exact q
  | a :: as, r :: rows, k + 1, row, .cons g t, nd, h, hv => by
    have h1 := List.nodup_cons.mp nd
    have hx : as[k]? = some x := h
    refine .cons ?_ (rows_set t h1.2 hx hv)
    rw [upd_ne (fun z => h1.1 (by rw [z]; exact List.mem_of_getElem? hx))]
    exact g
theorem NewTab.set {H H' : Hp} {p x : Addr} {as : List Addr} {rows : List (List Int)} {w B k j : Nat} {row : List Int} {y : Int} (h : NewTab H H' p as rows w B) (hx : as[k]? = some x) (hr : rows[k]? = some row) (hy : y.natAbs ≤ B) : NewTab H (upd H' x (.lst ((row.map V.int).set j (.int y)))) p as (rows.set k (row.set j y)) w B := by
  have npx : p ≠ x := fun z => h.np (by rw [z]; exact List.mem_of_getElem? hx)
  have o := h.ok row (List.mem_of_getElem? hr)
  refine ⟨h.p0, h.a0, h.nd, h.np, ⟨?_, rows_set h.tab.2 h.nd hx (by rw [List.map_set])⟩, fun r hr' => ?_⟩
  · rw [upd_ne npx]
    exact h.tab.1
  · rcases List.mem_or_eq_of_mem_set hr' with q | q
    · exact h.ok r q
    · rw [q]
      refine ⟨by rw [List.length_set]; exact o.1, fun z hz => ?_⟩
      rcases List.mem_or_eq_of_mem_set hz with q2 | q2
      · exact o.2 z q2
      · rw [q2]
        exact hy
section
variable {prog : Program} {w : World} {A : Around} {E : Value → Shared → Prop} {s : Shared}
theorem slice_rev2 {sl : Addr} {vl vu vs : Value} {Q : Int × Int × Nat → Shared → Prop} (hs : s.heap.IsSliceOf sl vl vu vs) (pl : IsPart vl none) (pu : IsPart vu none) (ps : IsPart vs (some (-1)))
    (h : Q (1, -1, 2) s) : wpAny (model prog w) A (Builtin.Slice.sliceApplied (.ref sl) (pure ((2 : Nat) : Int))) Q E s := by
  obtain ⟨os, hos, hcs, hds⟩ := id hs
  unfold Builtin.Slice.sliceApplied Builtin.Slice.sliceFields
  refine wpAny_bind (wpAny_bind (wpAny_field hos hds (x := vl) rfl (wpAny_bind (wpAny_field hos hds (x := vu) rfl (wpAny_bind (wpAny_field hos hds (x := vs) rfl (wpAny_pure ?_)))))))
  refine wpAny_bind (slicePart_ ps ?_)
  show wpAny _ _ (if ((-1 : Int) == 0) = true then _ else _) _ _ s
  rw [if_neg (by decide)]
  refine wpAny_bind (slicePart_ pl (wpAny_bind (slicePart_ pu (wpAny_bind (wpAny_pure ?_)))))
  exact wpAny_pure h
theorem item_rev2 {t sl : Addr} {x y vl vu vs : Value} {Q : Value → Shared → Prop} (ht : IsTup s.heap t #[x, y]) (hs : s.heap.IsSliceOf sl vl vu vs) (pl : IsPart vl none) (pu : IsPart vu none) (ps : IsPart vs (some (-1)))
    (h : Q (.ref s.heap.objs.size) { s with heap := s.heap.push { cls := .type "tuple", data := .seq #[y, x] } }) : wpAny (model prog w) A (getItem (.ref t) (.ref sl)) Q E s := by
  have htake : sizeOk (.seq (#[y, x] : Array Value)) := by
    show 2 ≤ sizeLine
    decide
  obtain ⟨os, hos, hcs, hds⟩ := id hs
  have hTs : s.TypeIs (.ref sl) "slice" := ⟨os, hos, hcs⟩
  unfold getItem
  try with_reducible refine wpAny_holding ?_
  first | refine wpAny_bind (wpAny_pure ?_) | skip
  refine wpAny_bind (wpAny_sequenceKey ht.typeIs (by decide) ?_)
  refine wpAny_bind (wpAny_callSpecial?_slot (name := Str.ofString "__getitem__") ht.typeIs PyProof.Rows.slot_tuple_getitem
    (wpAny_call_entry PyProof.Rows.slot_tuple_getitem ht.typeIs entry_tuple_getitem ?_ (args_tuple_getitem _ _)))
  show wpAny _ _ (Builtin.Tuple.tupleItemsOf (.ref t) >>= _) _ _ s
  refine wpAny_bind (tupleItemsOf_ ht ?_)
  refine wpAny_bind (wpAny_typeOf hTs ?_)
  rw [if_pos (by decide)]
  refine wpAny_bind (slice_rev2 hs pl pu ps ?_)
  show wpAny _ _ (if (((1 : Int) == 0 && (-1 : Int) == 1 && (2 : Nat) == 2) = true) then _ else _) _ _ s
  rw [if_neg (by decide)]
  first
    | exact wpAny_bind (m := Builtin.Tuple.tupleExact _) (wpAny_newObj_type (wpAny_pure ⟨_, rfl, wpAny_pure h⟩) htake)
    | exact wpAny_bind (m := Builtin.Tuple.tupleExact _) (wpAny_newObj_type (wpAny_bind (wpAny_pure (wpAny_pure ⟨_, rfl, wpAny_pure h⟩))) htake)
    | exact wpAny_bind (wpAny_bind (m := Builtin.Tuple.tupleExact _) (wpAny_newObj_type (wpAny_pure (wpAny_pure ⟨_, rfl, wpAny_pure h⟩)) htake))
    | exact wpAny_bind (wpAny_bind (m := Builtin.Tuple.tupleExact _) (wpAny_newObj_type (wpAny_pure ⟨_, rfl, wpAny_pure h⟩) htake))
end
section
variable {X : Cx}
/-- t[::-1], t a pair -/
def tRevT (K : PySem.W.Frag) (te : TE) : TE := fun σ H Q => te σ H fun v H1 => ∃ a x y, v = .ref a ∧ SqT K H1 a [x, y] ∧ ∀ p, H1 p = none → Q (.ref p) (upd H1 p (.tup [y, x]))
theorem pe_revT {e : Expr} {te : TE} {k : Nat} {p1 p2 p3 pos : Pos} (he : PE X e te) : PE X (.Subscript e (.Slice none none (some (.UnaryOp .USub (.Constant (.int 1) k p1) p2)) p3) pos) (tRevT X.K te) := by
  refine ⟨fun pins s σ H Q I h => ?_⟩
  refine Subscript_ (thn (he.run pins s σ H _ I h) fun v s1 ⟨z, H1, I1, r1, q1⟩ => ?_)
  obtain ⟨a, x, y, ex, hx, q⟩ := q1
  subst ex
  cases r1
  have hst : PO X (some (.UnaryOp .USub (.Constant (.int 1) k p1) p2)) (tPart (tUn (rU fun i => .int (-i)) (tC (.int 1)))) := po_some (pe_un un_neg pe_int)
  refine wpAny_Slice (thn (po_none.run pins s1 σ H1 (fun o H2 => o = none ∧ H2 = H1) I1 ⟨rfl, rfl⟩) fun vl s2 ⟨l, H2, I2, pl, el, e2⟩ => ?_)
  subst el e2
  refine thn (po_none.run pins s2 σ H2 (fun o H3 => o = none ∧ H3 = H2) I2 ⟨rfl, rfl⟩) fun vu s3 ⟨u, H3, I3, pu, eu, e3⟩ => ?_
  subst eu e3
  refine thn (hst.run pins s3 σ H3 (fun o H4 => o = some (-1) ∧ H4 = H3) I3 ⟨1, rfl, -1, rfl, rfl, rfl⟩) fun vs s4 ⟨o, H4, I4, ps, eo, e4⟩ => ?_
  subst eo e4
  have I5 : Inv X pins σ H4 { s4 with heap := s4.heap.push { cls := .type "slice", data := .fields #[vl, vu, vs] } } := I4.kept (t' := s4.toks) fun b ob q => Heap.get?_push_of_some _ q
  obtain ⟨its, r, ht, hz⟩ := I5.tuple hx
  obtain ⟨ua, ub, rfl, ra, rb⟩ := vals2 r
  show wpAny (model X.prog X.w) X.A (subscriptTail e (.Slice none none (some (.UnaryOp .USub (.Constant (.int 1) k p1) p2)) p3) (.ref a) (.ref s4.heap.objs.size)) (EP X pins σ Q) X.xe { s4 with heap := s4.heap.push { cls := .type "slice", data := .fields #[vl, vu, vs] } }
  refine tail_any (ops := [.ref a, .ref s4.heap.objs.size]) ht.typeIs (PyProof.Rows.slot_tuple_getitem.lookup) ?_ (by with_unfolding_all rfl)
  refine item_rev2 ht (Heap.IsSliceOf.new _ vl vu vs) pl pu ps ?_
  refine ⟨.ref _, _, I5.laid (t' := s4.toks) (o := .tup [y, x]) (fun b ob q => Heap.get?_push_of_some _ q) (Nat.le_refl _) ?_, rfl, q _ (I5.hok.fresh (Nat.le_refl _))⟩
  exact ⟨by show 2 ≤ sizeLine; decide, [ub, ua], .cons rb (.cons ra .nil), IsTup.new _ _⟩
end

theorem mem_dims {rows : List (List Int)} {w B : Nat} (h : ∀ r ∈ rows, r.length = w ∧ ∀ y ∈ r, y.natAbs ≤ B) {r : List Int} (hr : r ∈ rows) : r.length = w := (h r hr).1
/-- a table as the program takes it: 1 to 8 rows of 1 to 8 -/
structure TabOk (H : Hp) (p : Addr) (as : List Addr) (rows : List (List Int)) (m w : Nat) : Prop where
  tab : Tab H p as rows
  m_ : rows.length = m
  w_ : ∀ r ∈ rows, r.length = w
  b : 1 ≤ m ∧ m ≤ 8 ∧ 1 ≤ w ∧ w ≤ 8
theorem TabOk.ex {H H' : Hp} {p : Addr} {as : List Addr} {rows : List (List Int)} {m w : Nat} (h : TabOk H p as rows m w) (e : Ex H H') : TabOk H' p as rows m w := ⟨h.tab.ex e, h.m_, h.w_, h.b⟩
theorem TabOk.al {H : Hp} {p : Addr} {as : List Addr} {rows : List (List Int)} {m w : Nat} (h : TabOk H p as rows m w) : as.length = m := by rw [Paired.length h.tab.2, h.m_]
theorem TabOk.row0 {H : Hp} {p : Addr} {as : List Addr} {rows : List (List Int)} {m w : Nat} (h : TabOk H p as rows m w) : ∃ a0 r0, as[0]? = some a0 ∧ rows[0]? = some r0 ∧ H a0 = some (.lst (r0.map V.int)) ∧ r0.length = w ∧ atI (as.map V.ref) 0 = some (.ref a0) := by
  have hb := h.b
  have hl := h.al
  obtain ⟨a0, ha0⟩ : ∃ a0, as[0]? = some a0 := ⟨_, List.getElem?_eq_getElem (by omega)⟩
  obtain ⟨r0, hr0, hh⟩ := paired_get h.tab.2 ha0
  exact ⟨a0, r0, ha0, hr0, hh, h.w_ r0 (List.mem_of_getElem? hr0), atI_nat (j := 0) (by rw [List.getElem?_map, ha0]; rfl)⟩
theorem all_true (n : Nat) : (List.replicate n true).all id = true := by
  induction n with
  | zero => rfl
  | succ n ih => rw [List.replicate_succ, List.all_cons, ih]; rfl
/-- [f(x) for x in xs], each True -/
theorem el_yes {K : PySem.W.Frag} {n j : Nat} {a : Addr} {xs : List V} {te : TE} {vs : List Nat} {σ : L2.St} {H : Hp} (hσ : σ[n]? = some (some (.ref a))) (hx : H a = some (.lst xs)) (hl : xs.length ≤ 1000)
    (hs : ∀ x H', x ∈ xs → Ex H H' → Ev te ((wipe σ vs).set j (some x)) H' (.bl true)) (hw : ∀ x, wipe ((wipe σ vs).set j (some x)) vs = wipe σ vs) : EvL (tLc (iList K (tVar n)) (gName j) tYes te vs) σ H ((List.replicate xs.length true).map V.bl) := by
  intro H0 e0 Q0 q0
  have hx0 := e0 _ _ hx
  refine ⟨_, hσ, a, rfl, ⟨_, SqL.of hx0⟩, fun D hD => ?_⟩
  refine lc_list (K := K) (a := a) (xs := xs) (fun i H' => Ex H0 H' ∧ H' D = some (.lst ((List.replicate i true).map V.bl))) ⟨Ex.new hD, upd_same⟩ (fun i H' _ p => SqL.of (p.1 _ _ hx0)) (fun i x H' gx p => ?_) (fun H' p => ?_)
  · obtain ⟨p1, p2⟩ := p
    have hi := (List.getElem?_eq_some_iff.mp gx).1
    refine ⟨hw _, ?_⟩
    show te _ _ _
    refine hs x H (List.mem_of_getElem? gx) (Ex.refl H) _ (e0.trans p1) _ fun H4 e4 => ?_
    refine ⟨_, e4 _ _ p2, ?_, Ex.mut (p1.trans e4) hD, ?_⟩
    · rw [List.length_map, List.length_replicate]
      exact small1000 (by omega)
    · rw [upd_same, List.replicate_succ', List.map_append]
      rfl
  · obtain ⟨p1, p2⟩ := p
    exact q0 D H' hD p1 p2
theorem ev_all {K : PySem.W.Frag} {ta : TE} {n : Nat} {σ : L2.St} {H : Hp} (h : EvL ta σ H ((List.replicate n true).map V.bl)) : Ev (tCB (rAll K) (tCons ta tNil)) σ H (.bl true) := fun H1 e Q q =>
  h H1 e _ fun p H2 _ e2 hp => ⟨p, _, rfl, SqL.of hp, by rw [all_true]; exact q H2 e2⟩
theorem ev_fn {sp : Sp} {E : XK} {ta : TA} {σ : L2.St} {H : Hp} {vs : List V} {z : V} (h : EvA ta σ H vs) (hs : ∀ H1, Ex H H1 → ∀ Q : VK, (∀ H2, Ex H1 H2 → Q z H2) → sp vs H1 Q E) : Ev (tCall sp [] E ta) σ H z := fun H1 e Q q =>
  h H1 e _ fun H2 e2 => by
    rw [List.append_nil]
    exact hs H2 (e.trans e2) Q fun H3 e3 => q H3 (e2.trans e3)
theorem ev_isi {K : PySem.W.Frag} {ta tb : TE} {σ : L2.St} {H : Hp} {x : V} {n : String} {t : String} {b : Bool} (ha : Ev ta σ H x) (hb : Ev tb σ H (.ty n)) (ht : ∀ H1, Ex H H1 → TyX K H1 x (.type t)) (hk : kitB t n = some b) : Ev (tCB (rIsi K) (tCons ta (tCons tb tNil))) σ H (.bl b) := fun H1 e Q q =>
  ha H1 e _ fun H2 e2 => hb H2 (e.trans e2) _ fun H3 e3 => ⟨x, .ty n, _, _, b, rfl, .ty n, ht H3 ((e.trans e2).trans e3), kit_ty hk, q H3 (e2.trans e3)⟩
theorem rv_le {i j : Int} {H : Hp} : RV (rI0 fun i j => .bl (decide (i ≤ j))) (.int i) (.int j) H (.bl (decide (i ≤ j))) := rv_I0
/-- a rising list of places below n -/
def Rising (n : Int) (ns : List Int) : Prop := (∀ x ∈ ns, 0 ≤ x ∧ x < n) ∧ ns.Pairwise (· < ·)

/-- [[..] for y in ys], ys whole numbers: new rows -/
theorem lc_rowsL {K : PySem.W.Frag} {nn : Nat} {te : TE} {vs : List Nat} {j : Nat} {σ : L2.St} {H : Hp} {Q : VK} {a : Addr} {ys : List Int} (F : Int → List Int) (hσ : σ[nn]? = some (some (.ref a))) (hx : H a = some (.lst (ys.map V.int))) (hm : ys.length ≤ 1000) (hw : ∀ u, wipe ((wipe σ vs).set j (some u)) vs = wipe σ vs)
    (he : ∀ y H1, y ∈ ys → Ex H H1 → EvL te ((wipe σ vs).set j (some (.int y))) H1 ((F y).map V.int))
    (k : ∀ p as H2, H p = none → (∀ a ∈ as, H a = none) → as.Nodup → p ∉ as → Ex H H2 → Tab H2 p as (ys.map F) → Q (.ref p) H2) : tLc (iList K (tVar nn)) (gName j) tYes te vs σ H Q := by
  refine ⟨_, hσ, a, rfl, ⟨_, SqL.of hx⟩, fun D hD => ?_⟩
  refine lc_list (K := K) (a := a) (xs := ys.map V.int) (fun i H' => ∃ as, Ex H H' ∧ H' D = some (.lst (as.map V.ref)) ∧ RowsAt H' as ((ys.take i).map F) ∧ (∀ a ∈ as, H a = none) ∧ as.Nodup ∧ D ∉ as) ⟨[], Ex.new hD, upd_same, .nil, fun a ha => by simp at ha, List.nodup_nil, by simp⟩ (fun i H' _ ⟨_, p1, _⟩ => SqL.of (p1 _ _ hx)) (fun i x H' gx p => ?_) (fun H' p => ?_)
  · obtain ⟨as, p1, p2, p3, p4, p5, p6⟩ := p
    rw [List.getElem?_map] at gx
    obtain ⟨y, hy, rfl⟩ := Option.map_eq_some_iff.mp gx
    have hi := (List.getElem?_eq_some_iff.mp hy).1
    have el : as.length = i := by rw [Paired.length p3, List.length_map, List.length_take]; omega
    refine ⟨hw _, ?_⟩
    show te _ H' _
    refine he y H' (List.mem_of_getElem? hy) p1 H' (Ex.refl _) _ fun r H4 nr e4 hr => ?_
    have nrD : r ≠ D := fun z => by
      rw [z, p2] at nr
      cases nr
    refine ⟨_, e4 _ _ p2, ?_, as ++ [r], Ex.mut (p1.trans e4) hD, ?_, ?_, ?_, ?_, ?_⟩
    · rw [List.length_map, el]
      exact small1000 (by omega)
    · rw [upd_same, List.map_append]
      rfl
    · rw [take_snoc hy, List.map_append]
      refine paired_snoc (rows_but p3 fun b hb o g => ?_) ?_
      · rw [upd_ne (fun z => p6 (by rw [← z]; exact hb))]
        exact e4 _ _ g
      · rw [upd_ne nrD]
        exact hr
    · intro b hb
      rcases List.mem_append.mp hb with h | h
      · exact p4 b h
      · rw [show b = r by simpa using h]
        exact fresh_back p1 nr
    · refine List.nodup_append.mpr ⟨p5, by simp, fun b hb c hc z => ?_⟩
      have : c = r := by simpa using hc
      have hb' : r ∈ as := by rw [← this, ← z]; exact hb
      obtain ⟨x, _, hx'⟩ := paired_mem p3 hb'
      rw [nr] at hx'
      cases hx'
    · intro hb
      rcases List.mem_append.mp hb with h | h
      · exact p6 h
      · exact nrD (by simpa using h : D = r).symm
  · obtain ⟨as, p1, p2, p3, p4, p5, p6⟩ := p
    rw [List.length_map, List.take_length] at p3
    exact k D as H' hD p4 p5 p6 p1 ⟨p2, p3⟩
/-- [f(y) for y in ys], ys whole numbers -/
theorem el_mapI {K : PySem.W.Frag} {n : Nat} {te : TE} {vs : List Nat} {j : Nat} {σ : L2.St} {H : Hp} {a : Addr} {qs : List Int} (f : Int → Int) (hσ : σ[n]? = some (some (.ref a))) (hx : H a = some (.lst (qs.map V.int))) (hz : qs.length ≤ 1000)
    (hw : ∀ u, wipe ((wipe σ vs).set j (some u)) vs = wipe σ vs)
    (he : ∀ y H1, y ∈ qs → Ex H H1 → Ev te ((wipe σ vs).set j (some (.int y))) H1 (.int (f y))) : EvL (tLc (iList K (tVar n)) (gName j) tYes te vs) σ H ((qs.map f).map V.int) := fun H1 e1 Q q => by
  have hx1 := e1 _ _ hx
  refine ⟨_, hσ, a, rfl, ⟨_, SqL.of hx1⟩, fun D hD => ?_⟩
  refine lc_list (K := K) (a := a) (xs := qs.map V.int) (fun i H' => Ex H1 H' ∧ H' D = some (.lst (((qs.map f).take i).map V.int))) ⟨Ex.new hD, upd_same⟩ (fun i H' _ p => SqL.of (p.1 _ _ hx1)) (fun i x H' gx p => ?_) (fun H' p => ?_)
  · obtain ⟨p1, p2⟩ := p
    rw [List.getElem?_map] at gx
    obtain ⟨b, hb, rfl⟩ := Option.map_eq_some_iff.mp gx
    refine ⟨hw _, ?_⟩
    show te _ _ _
    refine he b H (List.mem_of_getElem? hb) (Ex.refl H) _ (e1.trans p1) _ fun H4 e4 => ?_
    refine ⟨_, e4 _ _ p2, ?_, Ex.mut (p1.trans e4) hD, ?_⟩
    · rw [List.length_map, List.length_take, List.length_map]
      exact small1000 (by omega)
    · have hzz : (qs.map f)[i]? = some (f b) := by rw [List.getElem?_map, hb]; rfl
      rw [upd_same, take_snoc hzz, List.map_append]
      rfl
  · obtain ⟨p1, p2⟩ := p
    rw [List.take_of_length_le (by rw [List.length_map, List.length_map]; omega)] at p2
    exact q D H' hD p1 p2
theorem TabOk.row {H : Hp} {p : Addr} {as : List Addr} {rows : List (List Int)} {m w : Nat} (h : TabOk H p as rows m w) {i : Int} (h0 : 0 ≤ i) (h1 : i < m) : ∃ a r, atI (as.map V.ref) i = some (.ref a) ∧ rows[i.toNat]? = some r ∧ H a = some (.lst (r.map V.int)) ∧ r.length = w := by
  have hl := h.al
  obtain ⟨a, ha⟩ : ∃ a, as[i.toNat]? = some a := ⟨_, List.getElem?_eq_getElem (by omega)⟩
  obtain ⟨r, hr, hh⟩ := paired_get h.tab.2 ha
  exact ⟨a, r, at_of (j := i.toNat) (by omega) (by rw [List.getElem?_map, ha]; rfl), hr, hh, h.w_ r (List.mem_of_getElem? hr)⟩
theorem atI_rowI {ns : List Int} {i : Int} (h0 : 0 ≤ i) (h : i < ns.length) : atI (ns.map V.int) i = some (.int (ns[i.toNat]?.getD 0)) := by
  have e : i = ((i.toNat : Nat) : Int) := by omega
  have h2 := atI_row (ns := ns) (kk := i.toNat) (by omega)
  rw [← e] at h2
  exact h2

/-- [[..] for x, row in zip(xs, rows)]: new rows -/
theorem lc_rowsZ {K : PySem.W.Frag} {ta : TA} {te : TE} {vs : List Nat} {j1 j2 : Nat} {σ : L2.St} {H : Hp} {Q : VK} {a b : Addr} {xs : List Int} {as : List Addr} {rows : List (List Int)} (F : Int → List Int → List Int) (h : EvA ta σ H [.ref a, .ref b]) (hx : H a = some (.lst (xs.map V.int))) (ht : Tab H b as rows) (hl : xs.length = rows.length) (hz : xs.length ≤ 1000)
    (hw : ∀ u v, wipe (((wipe σ vs).set j1 (some u)).set j2 (some v)) vs = wipe σ vs)
    (he : ∀ x c r H1, x ∈ xs → r ∈ rows → H c = some (.lst (r.map V.int)) → Ex H H1 → EvL te (((wipe σ vs).set j1 (some (.int x))).set j2 (some (.ref c))) H1 ((F x r).map V.int))
    (k : ∀ p bs H2, H p = none → (∀ a ∈ bs, H a = none) → bs.Nodup → p ∉ bs → Ex H H2 → Tab H2 p bs (List.zipWith F xs rows) → Q (.ref p) H2) : tLc (iZip K ta) (g2 K j1 j2) tYes te vs σ H Q := by
  refine h H (Ex.refl H) _ fun H1 e1 => ⟨a, b, _, _, rfl, SqL.of (e1 _ _ hx), SqL.of (e1 _ _ ht.1), fun D hD => ?_⟩
  have hDH : H D = none := fresh_back e1 hD
  have el0 : as.length = rows.length := Paired.length ht.2
  refine lc_zip (xs := xs.map V.int) (ys := as.map V.ref) (by rw [List.length_map, List.length_map, el0]; exact hl) (fun i H' => ∃ bs, Ex H1 H' ∧ H' D = some (.lst (bs.map V.ref)) ∧ RowsAt H' bs ((List.zipWith F xs rows).take i) ∧ (∀ a ∈ bs, H a = none) ∧ bs.Nodup ∧ D ∉ bs) ⟨[], Ex.new hD, upd_same, .nil, fun a ha => by simp at ha, List.nodup_nil, by simp⟩ (fun i H' ⟨_, p1, _⟩ => ⟨SqL.of ((e1.trans p1) _ _ hx), SqL.of ((e1.trans p1) _ _ ht.1)⟩) (fun i x y T H' gx gy p nT => ?_) (fun H' p => ?_)
  · obtain ⟨bs, p1, p2, p3, p4, p5, p6⟩ := p
    rw [List.getElem?_map] at gx gy
    obtain ⟨x', hx', rfl⟩ := Option.map_eq_some_iff.mp gx
    obtain ⟨c, hc, rfl⟩ := Option.map_eq_some_iff.mp gy
    obtain ⟨r, hr, hh⟩ := paired_get ht.2 hc
    have hi := (List.getElem?_eq_some_iff.mp hx').1
    have el : bs.length = i := by rw [Paired.length p3, List.length_take, List.length_zipWith]; omega
    have xT : Ex H' (upd H' T (.tup [.int x', .ref c])) := Ex.new nT
    refine ⟨T, _, rfl, SqT.of upd_same, rfl, _, _, rfl, _, _, rfl, rfl, hw _ _, ?_⟩
    show te _ _ _
    refine he x' c r H (List.mem_of_getElem? hx') (List.mem_of_getElem? hr) hh (Ex.refl H) _ ((e1.trans p1).trans xT) _ fun q H4 nq e4 hq => ?_
    have nqD : q ≠ D := fun z => by
      rw [z, xT _ _ p2] at nq
      cases nq
    have nqH' : H' q = none := fresh_back xT nq
    refine ⟨_, e4 _ _ (xT _ _ p2), ?_, bs ++ [q], Ex.mut ((p1.trans xT).trans e4) hD, ?_, ?_, ?_, ?_, ?_⟩
    · rw [List.length_map, el]
      exact small1000 (by omega)
    · rw [upd_same, List.map_append]
      rfl
    · have hzz : (List.zipWith F xs rows)[i]? = some (F x' r) := by rw [List.getElem?_zipWith, hx', hr]
      rw [take_snoc hzz]
      refine paired_snoc (rows_but p3 fun b hb o g => ?_) ?_
      · rw [upd_ne (fun z => p6 (by rw [← z]; exact hb))]
        exact e4 _ _ (xT _ _ g)
      · rw [upd_ne nqD]
        exact hq
    · intro b hb
      rcases List.mem_append.mp hb with h | h
      · exact p4 b h
      · rw [show b = q by simpa using h]
        exact fresh_back (e1.trans p1) nqH'
    · refine List.nodup_append.mpr ⟨p5, by simp, fun b hb c' hc' z => ?_⟩
      have : c' = q := by simpa using hc'
      have hb' : q ∈ bs := by rw [← this, ← z]; exact hb
      obtain ⟨y, _, hy⟩ := paired_mem p3 hb'
      rw [nqH'] at hy
      cases hy
    · intro hb
      rcases List.mem_append.mp hb with h | h
      · exact p6 h
      · exact nqD (by simpa using h : D = q).symm
  · obtain ⟨bs, p1, p2, p3, p4, p5, p6⟩ := p
    rw [List.take_of_length_le (by rw [List.length_zipWith, List.length_map]; omega)] at p3
    exact k D bs H' hDH p4 p5 p6 (e1.trans p1) ⟨p2, p3⟩
theorem flat_ints (ns : List Int) : (ns.map V.int).all flatV = true := by
  rw [List.all_eq_true]
  intro x hx
  obtain ⟨i, _, rfl⟩ := List.mem_map.mp hx
  rfl
/-- -1 at the picked places, else 1 -/
def sgnAt (ns : List Int) (kk : Nat) : Int := if inV (.int (kk : Int)) (ns.map V.int) = true then -1 else 1
theorem sgnAt_two (ns : List Int) (kk : Nat) : sgnAt ns kk = 1 ∨ sgnAt ns kk = -1 := by
  unfold sgnAt
  split
  · exact .inr rfl
  · exact .inl rfl
def sgns (ns : List Int) (m : Nat) : List Int := (List.range m).map (sgnAt ns)
theorem sgns_mem {ns : List Int} {m : Nat} {x : Int} (h : x ∈ sgns ns m) : x = 1 ∨ x = -1 := by
  obtain ⟨kk, _, rfl⟩ := List.mem_map.mp h
  exact sgnAt_two ns kk
def signedOf (rows : List (List Int)) (ris cis : List Int) (m w : Nat) : List (List Int) := List.zipWith (fun s r => List.zipWith (fun c y => s * c * y) (sgns cis w) r) (sgns ris m) rows
theorem bd_sgn {x : Int} (h : x = 1 ∨ x = -1) : Bd 2 x := by
  rcases h with rfl | rfl <;> (unfold Bd; decide)
/-! ### fractions -/
def gcdI (t b : Int) : Int := ((Nat.gcd t.natAbs b.natAbs : Nat) : Int)
/-- the divisor that fraction takes -/
def comI (t b : Int) : Int := if b < 0 then -(gcdI t b) else gcdI t b
theorem gcdI_pos {t b : Int} (h : b ≠ 0) : 0 < gcdI t b := by
  unfold gcdI
  have : 0 < Nat.gcd t.natAbs b.natAbs := Nat.gcd_pos_of_pos_right _ (by omega)
  omega
theorem comI_ne {t b : Int} (h : b ≠ 0) : comI t b ≠ 0 := by
  have := gcdI_pos (t := t) h
  unfold comI
  split <;> omega
theorem gcdI_le {t b : Int} (h : b ≠ 0) : (gcdI t b).natAbs ≤ b.natAbs := by
  unfold gcdI
  rw [Int.natAbs_natCast]
  exact Nat.gcd_le_right _ (by omega)
theorem comI_bd {t b : Int} {n : Nat} (h : b ≠ 0) (g : Bd n b) : Bd n (comI t b) := by
  have e : (comI t b).natAbs = (gcdI t b).natAbs := by
    unfold comI
    split
    · exact Int.natAbs_neg _
    · rfl
  exact Bd.abs g (by rw [e]; exact gcdI_le h)
/-- a value that is_fraction is asked of, and its answer -/
inductive FracV (K : PySem.W.Frag) (H : Hp) : V → Bool → Prop where
  | two {p : Addr} {t b : Int} (e : H p = some (.tup [.int t, .int b])) : FracV K H (.ref p) (decide (1 ≤ b) && decide (gcdI t b = 1))
  | odd1 {p : Addr} {x y : V} {t : String} (e : H p = some (.tup [x, y])) (h : TyX K H x (.type t)) (k : tyOk t) (n : t ≠ "int") : FracV K H (.ref p) false
  | odd2 {p : Addr} {t : Int} {y : V} {u : String} (e : H p = some (.tup [.int t, y])) (h : TyX K H y (.type u)) (k : tyOk u) (n : u ≠ "int") : FracV K H (.ref p) false
  | len {p : Addr} {xs : List V} (e : H p = some (.tup xs)) (n : xs.length ≠ 2) : FracV K H (.ref p) false
  | no {x : V} {t : String} (h : TyX K H x (.type t)) (k : tyOk t) (n : t ≠ "tuple") : FracV K H x false

theorem great_at (k : Int) (h0 : 0 ≤ k) (h1 : k < 4) : ∃ g : Int, atI [V.int 7, V.int 1000, V.int (10 ^ (12 : Int).toNat), V.int (10 ^ (39 : Int).toNat)] k = some (.int g) ∧ 0 < g ∧ Bd 130 g := by
  have hk : k = 0 ∨ k = 1 ∨ k = 2 ∨ k = 3 := by omega
  rcases hk with rfl | rfl | rfl | rfl <;> exact ⟨_, rfl, by decide +kernel, by unfold Bd; decide +kernel⟩
theorem gcdI_dvd_l (t b : Int) : gcdI t b ∣ t := Int.gcd_dvd_left ..
theorem gcdI_dvd_r (t b : Int) : gcdI t b ∣ b := Int.gcd_dvd_right ..
theorem gcdI_mul (m a b : Int) : gcdI (m * a) (m * b) = (m.natAbs : Int) * gcdI a b := by
  unfold gcdI
  rw [Int.natAbs_mul, Int.natAbs_mul, Nat.gcd_mul_left, Int.natCast_mul]
/-- what low tells is in lowest terms -/
theorem low_terms {t b : Int} (h : 0 < b) : 0 < b / gcdI t b ∧ gcdI (t / gcdI t b) (b / gcdI t b) = 1 ∧ (t / gcdI t b).natAbs ≤ t.natAbs ∧ (b / gcdI t b).natAbs ≤ b.natAbs := by
  have gp := gcdI_pos (t := t) (show b ≠ 0 by omega)
  obtain ⟨x, hx⟩ := gcdI_dvd_l t b
  obtain ⟨y, hy⟩ := gcdI_dvd_r t b
  generalize hg : gcdI t b = g at gp hx hy ⊢
  have e1 : t / g = x := by rw [hx]; exact Int.mul_ediv_cancel_left _ (by omega)
  have e2 : b / g = y := by rw [hy]; exact Int.mul_ediv_cancel_left _ (by omega)
  rw [e1, e2]
  have hy0 : 0 < y := by
    rw [hy] at h
    exact Int.pos_of_mul_pos_right h gp |> fun z => z
  refine ⟨hy0, ?_, ?_, ?_⟩
  · have e3 := gcdI_mul g x y
    rw [← hx, ← hy, hg] at e3
    have e4 : (g.natAbs : Int) = g := by omega
    rw [e4] at e3
    have e5 : g * 1 = g * gcdI x y := by rw [Int.mul_one]; exact e3
    exact (Int.eq_of_mul_eq_mul_left (by omega) e5).symm
  · rw [hx, Int.natAbs_mul]
    exact Nat.le_mul_of_pos_left _ (by omega)
  · rw [hy, Int.natAbs_mul]
    exact Nat.le_mul_of_pos_left _ (by omega)
/-- fraction and low agree -/
theorem frac_low {t b : Int} (h : 0 < b) : t.fdiv (comI t b) = t / gcdI t b ∧ b.fdiv (comI t b) = b / gcdI t b := by
  have e : comI t b = gcdI t b := by
    unfold comI
    rw [if_neg (by omega)]
  have gp := gcdI_pos (t := t) (show b ≠ 0 by omega)
  rw [e]
  exact ⟨Int.fdiv_eq_ediv_of_nonneg _ (by omega), Int.fdiv_eq_ediv_of_nonneg _ (by omega)⟩
theorem gcdI_neg_neg (t b : Int) : gcdI (-t) (-b) = gcdI t b := by
  unfold gcdI
  rw [Int.natAbs_neg, Int.natAbs_neg]
theorem frac_low_neg {t b : Int} (h : b < 0) : t.fdiv (comI t b) = (-t) / gcdI (-t) (-b) ∧ b.fdiv (comI t b) = (-b) / gcdI (-t) (-b) := by
  have e : comI t b = -(gcdI t b) := by
    unfold comI
    rw [if_pos h]
  have gp := gcdI_pos (t := t) (show b ≠ 0 by omega)
  rw [e, gcdI_neg_neg]
  obtain ⟨x, hx⟩ := gcdI_dvd_l t b
  obtain ⟨y, hy⟩ := gcdI_dvd_r t b
  generalize gcdI t b = g at gp hx hy ⊢
  have aux : ∀ z w : Int, z = g * w → z.fdiv (-g) = (-z) / g := by
    intro z w hz
    have e1 : z = (-g) * (-w) := by rw [hz, Int.neg_mul_neg]
    have e2 : -z = g * (-w) := by rw [hz, Int.mul_neg]
    have e3 : z.fdiv (-g) = -w := by rw [e1]; exact Int.mul_fdiv_cancel_left _ (by omega)
    rw [e3, e2, Int.mul_ediv_cancel_left _ (by omega)]
  exact ⟨aux t x hx, aux b y hy⟩
theorem frac_share {m a b : Int} (hm : m ≠ 0) (hb : 0 < b) (hg : gcdI a b = 1) : (m * a).fdiv (comI (m * a) (m * b)) = a ∧ (m * b).fdiv (comI (m * a) (m * b)) = b := by
  have e : comI (m * a) (m * b) = m := by
    unfold comI
    rw [gcdI_mul, hg, Int.mul_one]
    by_cases h : m < 0
    · rw [if_pos (Int.mul_neg_of_neg_of_pos h hb)]
      omega
    · rw [if_neg (by have := Int.mul_pos (show 0 < m by omega) hb; omega)]
      omega
  rw [e]
  exact ⟨Int.mul_fdiv_cancel_left _ hm, Int.mul_fdiv_cancel_left _ hm⟩
theorem frac_one (a : Int) : a.fdiv (comI a 1) = a ∧ (1 : Int).fdiv (comI a 1) = 1 := by
  have e : comI a 1 = 1 := by
    unfold comI gcdI
    rw [if_neg (by decide)]
    show ((Nat.gcd a.natAbs 1 : Nat) : Int) = 1
    rw [Nat.gcd_one_right]
    rfl
  rw [e]
  exact ⟨Int.fdiv_one a, rfl⟩

theorem paired_get {α β : Type} {R : α → β → Prop} : ∀ {xs : List α} {ys : List β} {i : Nat} {x : α}, Paired R xs ys → xs[i]? = some x → ∃ y, ys[i]? = some y ∧ R x y
  | _, _, _, _, .nil, h => by simp at h
  | _, _, 0, _, .cons r _, h => ⟨_, rfl, by
      have e := Option.some.inj h
      subst e
      exact r⟩
  | _, _, i + 1, _, .cons _ t, h => paired_get (i := i) t h
theorem tyx_ex {K : PySem.W.Frag} {H H' : Hp} (e : Ex H H') {x : V} {t : String} (k : tyOk t) (h : TyX K H x (.type t)) : TyX K H' x (.type t) := by
    cases h with
    | base b =>
      cases b with
      | non => exact .base .non
      | bl y => exact .base (.bl y)
      | int i => exact .base (.int i)
      | str y => exact .base (.str y)
      | flt y => exact .base (.flt y)
      | lst h => exact .base (.lst (e _ _ h))
      | frz h => exact .base (.frz (e _ _ h))
      | tup h => exact .base (.tup (e _ _ h))
      | dK h => exact .base (.dK (e _ _ h))
      | dT h => exact .base (.dT (e _ _ h))
    | byt y => exact .byt y
    | set h => exact .set (e _ _ h)
    | kList h c => exact .kList h c
    | kTuple h c => exact .kTuple h c
    | kDict h c => exact .kDict h c
    | fTuple h => exact .fTuple (e _ _ h)
    | fDict h => exact .fDict (e _ _ h)
theorem FracV.ex {K : PySem.W.Frag} {H H' : Hp} {x : V} {r : Bool} (e : Ex H H') (f : FracV K H x r) : FracV K H' x r := by
  cases f with
  | two h => exact .two (e _ _ h)
  | odd1 h a k n => exact .odd1 (e _ _ h) (tyx_ex e k a) k n
  | odd2 h a k n => exact .odd2 (e _ _ h) (tyx_ex e k a) k n
  | len h n => exact .len (e _ _ h) n
  | no a k n => exact .no (tyx_ex e k a) k n
/-- what is_whole is asked of, and its answer -/
def WhoV (K : PySem.W.Frag) (H : Hp) (x : V) (r : Bool) : Prop := ∃ t, TyX K H x (.type t) ∧ tyOk t ∧ r = (t == "int")
theorem dp_bools {K : PySem.W.Frag} {H : Hp} : ∀ bs : List Bool, DpAll K H (bs.map V.bl) (bs.map PyData.bool)
  | [] => .nil
  | b :: r => .cons (.bl b) (dp_bools r)
theorem sgn_at (c : Int) : atI [V.int 1, V.int (-1)] (if decide (c < 0) = true then 1 else 0) = some (.int (if c < 0 then -1 else 1)) := by
  by_cases h : c < 0
  · rw [decide_eq_true h, if_pos rfl, if_pos h]
    rfl
  · rw [decide_eq_false h, if_neg Bool.false_ne_true, if_neg h]
    rfl
theorem turn_at (f : Int) (h0 : 0 ≤ f) (h1 : f < 2) : ∃ t : Int, atI [V.int 1, V.int (-1)] f = some (.int t) ∧ t ≠ 0 ∧ Bd 2 t := by
  have : f = 0 ∨ f = 1 := by omega
  rcases this with rfl | rfl <;> exact ⟨_, rfl, by decide, by unfold Bd; decide⟩
theorem c_tup {ta : TA} {σ : L2.St} {H : Hp} {Q : VK} {vs : List V} (h : EvA ta σ H vs) (hl : vs.length ≤ 100000) (k : ∀ p H2, H p = none → Ex H H2 → H2 p = some (.tup vs) → Q (.ref p) H2) : tTup ta σ H Q := eu_tup h hl H (Ex.refl H) Q k
theorem c_lst {ta : TA} {σ : L2.St} {H : Hp} {Q : VK} {vs : List V} (h : EvA ta σ H vs) (hl : vs.length ≤ 100000) (k : ∀ p H2, H p = none → Ex H H2 → H2 p = some (.lst vs) → Q (.ref p) H2) : tLst ta σ H Q := el_lst h hl H (Ex.refl H) Q k
/-- [f(x) for x in xs], the answers rs -/
theorem t_ask {K : PySem.W.Frag} {n j : Nat} {a : Addr} {xs : List V} {rs : List Bool} {R : V → Bool → Prop} {te : TE} {vs : List Nat} {σ : L2.St} {H : Hp} {Q : VK} (hσ : σ[n]? = some (some (.ref a))) (hx : H a = some (.lst xs)) (hl : xs.length ≤ 1000) (hR : Paired R xs rs)
    (hs : ∀ x r H', Ex H H' → R x r → ∀ Q : VK, Q (.bl r) H' → te ((wipe σ vs).set j (some x)) H' Q) (hw : ∀ x, wipe ((wipe σ vs).set j (some x)) vs = wipe σ vs)
    (hd : ∀ D H', H D = none → Ex H H' → H' D = some (.lst (rs.map V.bl)) → Q (.ref D) H') : tLc (iList K (tVar n)) (gName j) tYes te vs σ H Q := by
  refine ⟨_, hσ, a, rfl, ⟨_, SqL.of hx⟩, fun D hD => ?_⟩
  refine lc_list (K := K) (a := a) (xs := xs) (fun i H' => Ex H H' ∧ H' D = some (.lst ((rs.take i).map V.bl))) ⟨Ex.new hD, upd_same⟩ (fun i H' _ h => SqL.of (h.1 _ _ hx)) (fun i x H' hi h => ?_) (fun H' h => ?_)
  · obtain ⟨e, hD'⟩ := h
    obtain ⟨r, hr, f⟩ := paired_get hR hi
    refine ⟨hw x, ?_⟩
    show te ((wipe σ vs).set j (some x)) H' _
    refine hs x r H' e f _ ⟨_, hD', ?_, Ex.mut e hD, ?_⟩
    · rw [List.length_map, List.length_take]
      have h1 := (List.getElem?_eq_some_iff.mp hi).1
      exact small1000 (by omega)
    · rw [upd_same, List.take_add_one, hr, List.map_append]
      rfl
  · obtain ⟨e, hD'⟩ := h
    have el : xs.length = rs.length := Paired.length hR
    rw [el, List.take_length] at hD'
    exact hd D H' hD e hD'
theorem el_ask {K : PySem.W.Frag} {n j : Nat} {a : Addr} {xs : List V} {rs : List Bool} {R : V → Bool → Prop} {te : TE} {vs : List Nat} {σ : L2.St} {H : Hp} (hσ : σ[n]? = some (some (.ref a))) (hx : H a = some (.lst xs)) (hl : xs.length ≤ 1000) (hR : Paired R xs rs)
    (hs : ∀ x r H', Ex H H' → R x r → ∀ Q : VK, Q (.bl r) H' → te ((wipe σ vs).set j (some x)) H' Q) (hw : ∀ x, wipe ((wipe σ vs).set j (some x)) vs = wipe σ vs) : EvL (tLc (iList K (tVar n)) (gName j) tYes te vs) σ H (rs.map V.bl) :=
  fun H1 e Q q => t_ask hσ (e _ _ hx) hl hR (fun x r H' e' f => hs x r H' (e.trans e') f) hw q
theorem rv_neB {K : PySem.W.Frag} {p q : Addr} {bs : List Bool} {H : Hp} (hp : SqL K H p (bs.map V.bl)) (hq : SqL K H q (bs.map V.bl)) (hs : SeqAt.shaped (.list (bs.map PyData.bool)) = true) : RV (rNeD K) (.ref p) (.ref q) H (.bl false) := fun H1 e Q k =>
  ⟨_, _, .lst (ex_l e hp) (dp_bools bs), .lst (ex_l e hq) (dp_bools bs), hs, hs, by
    rw [SeqAt.eqv_refl _ (SeqAt.canLay_of_shaped hs)]
    exact k H1 (Ex.refl _)⟩
theorem el_cat {σ : L2.St} {H : Hp} {ta tb : TE} {xs ys : List V} (ha : EvL ta σ H xs) (hb : EvL tb σ H ys) (hz : xs.length + ys.length ≤ 100000) : EvL (tOp rCat ta tb) σ H (xs ++ ys) := fun H1 e Q q =>
  ha H1 e _ fun p H2 _ e2 hp => hb H2 (e.trans e2) _ fun r H3 _ e3 hr => ⟨p, r, xs, ys, rfl, rfl, e3 _ _ hp, hr, sz_of hz, fun u hu => q u _ (fresh_back (e2.trans e3) hu) ((e2.trans e3).trans (Ex.new hu)) upd_same⟩
theorem el_rep {σ : L2.St} {H : Hp} {ta tb : TE} {xs : List V} {k : Int} (ha : EvL ta σ H xs) (hb : Ev tb σ H (.int k)) (h0 : 0 ≤ k ∧ k ≤ 100000) (hz : xs.length * k.toNat ≤ 100000) : EvL (tOp rRep ta tb) σ H (List.replicate k.toNat xs).flatten := fun H1 e Q q =>
  ha H1 e _ fun p H2 _ e2 hp => hb H2 (e.trans e2) _ fun H3 e3 => ⟨p, k, xs, rfl, rfl, e3 _ _ hp, by omega, by omega, sz_of hz, fun u hu => q u _ (fresh_back (e2.trans e3) hu) ((e2.trans e3).trans (Ex.new hu)) upd_same⟩
theorem tcons_c {v : V} {r : TA} {σ : L2.St} {H : Hp} {Q : List V → Hp → Prop} (h : r σ H fun xs H2 => Q (v :: xs) H2) : tCons (tC v) r σ H Q := h
theorem due_eq {b c : Int} (X : Int) (hb : 0 < b) (hc : c ≠ 0) :
    (X * (if c < 0 then -1 else 1)) / gcdI (X * (if c < 0 then -1 else 1)) (b * (if (if c < 0 then -c else c) > 1 then (if c < 0 then -c else c) else 1)) = X.fdiv (comI X (b * c)) ∧
    (b * (if (if c < 0 then -c else c) > 1 then (if c < 0 then -c else c) else 1)) / gcdI (X * (if c < 0 then -1 else 1)) (b * (if (if c < 0 then -c else c) > 1 then (if c < 0 then -c else c) else 1)) = (b * c).fdiv (comI X (b * c)) := by
  have e : (if (if c < 0 then -c else c) > 1 then (if c < 0 then -c else c) else 1) = (if c < 0 then -c else c) := by
    split <;> split <;> omega
  rw [e]
  by_cases h : c < 0
  · rw [if_pos h, if_pos h, Int.mul_neg, Int.mul_neg, Int.mul_one]
    have hn : b * c < 0 := Int.mul_neg_of_pos_of_neg hb h
    exact ⟨(frac_low_neg hn).1.symm, (frac_low_neg hn).2.symm⟩
  · rw [if_neg h, if_neg h, Int.mul_one]
    have hp : 0 < b * c := Int.mul_pos hb (by omega)
    exact ⟨(frac_low hp).1.symm, (frac_low hp).2.symm⟩
theorem max_abs (c : Int) (h : c ≠ 0) : (if (if c < 0 then -c else c) > 1 then (if c < 0 then -c else c) else 1) = (if c < 0 then -c else c) := by
  split <;> split <;> omega
/-! ### fractions as the rational numbers -/
def frV (q : Rat) : List V := [.int q.num, .int (q.den : Int)]
theorem fr_low {t b : Int} (h : 0 < b) : [V.int (t / gcdI t b), V.int (b / gcdI t b)] = frV (mkRat t b.toNat) := by
  have e : b.toNat ≠ 0 := by omega
  have g : gcdI t b = ((b.toNat.gcd t.natAbs : Nat) : Int) := by
    unfold gcdI
    rw [Nat.gcd_comm, show b.natAbs = b.toNat by omega]
  have hb : b = (b.toNat : Int) := by omega
  unfold frV
  rw [Rat.num_mkRat, Rat.den_mkRat, if_neg e, if_neg e, g, Int.natCast_ediv, ← hb]
theorem fr_com {t b : Int} (h : 0 < b) : [V.int (t.fdiv (comI t b)), V.int (b.fdiv (comI t b))] = frV (mkRat t b.toNat) := by
  have e : comI t b = gcdI t b := if_neg (by omega)
  have g := gcdI_pos (t := t) (b := b) (by omega)
  rw [e, Int.fdiv_eq_ediv_of_nonneg _ (by omega), Int.fdiv_eq_ediv_of_nonneg _ (by omega)]
  exact fr_low h
theorem den_pos (x y : Rat) : 0 < (x.den : Int) * (y.den : Int) := Int.mul_pos (Int.natCast_pos.mpr x.den_pos) (Int.natCast_pos.mpr y.den_pos)
theorem den_ne (x y : Rat) : (x.den : Int) * (y.den : Int) ≠ 0 := Int.ne_of_gt (den_pos x y)
theorem den_nat (x y : Rat) : ((x.den : Int) * (y.den : Int)).toNat = x.den * y.den := by
  rw [← Int.natCast_mul]
  exact Int.toNat_natCast _
theorem fr_plus {x y : Rat} : mkRat (x.num * (y.den : Int) + y.num * (x.den : Int)) ((x.den : Int) * (y.den : Int)).toNat = x + y := by
  rw [den_nat, ← Rat.add_def']
theorem fr_mul {x y : Rat} : mkRat (x.num * y.num) ((x.den : Int) * (y.den : Int)).toNat = x * y := by
  rw [den_nat, ← Rat.mul_def']
theorem num_one (a : Int) : (mkRat a 1).num = a := by
  rw [Rat.num_mkRat]
  simp
theorem den_one (a : Int) : (mkRat a 1).den = 1 := by
  rw [Rat.den_mkRat]
  simp
theorem fr_int {a : Int} {x : Rat} : mkRat (a * x.num) x.den = mkRat a 1 * x := by
  have h := Rat.mkRat_mul_mkRat a x.num 1 x.den
  rw [Rat.mkRat_self, Nat.one_mul] at h
  exact h.symm
def BdQ (n d : Nat) (q : Rat) : Prop := Bd n q.num ∧ Bd d (q.den : Int)
theorem BdQ.mono {n d n' d' : Nat} {q : Rat} (h : BdQ n d q) (a : n ≤ n') (b : d ≤ d') : BdQ n' d' q := ⟨h.1.mono a, h.2.mono b⟩
theorem mk_bd {n d : Nat} {t : Int} {b : Nat} (hb : b ≠ 0) (h1 : Bd n t) (h2 : Bd d (b : Int)) : BdQ n d (mkRat t b) := by
  unfold BdQ
  rw [Rat.num_mkRat, Rat.den_mkRat, if_neg hb, if_neg hb]
  constructor
  · refine h1.abs ?_
    exact Int.natAbs_ediv_le_natAbs _ _
  · refine h2.abs ?_
    rw [Int.natAbs_natCast, Int.natAbs_natCast]
    exact Nat.div_le_self _ _
theorem add_bd {n d n' d' k : Nat} {x y : Rat} (hx : BdQ n d x) (hy : BdQ n' d' y) (h1 : n + d' ≤ k) (h2 : n' + d ≤ k) : BdQ (k + 1) (d + d') (x + y) := by
  rw [Rat.add_def']
  refine mk_bd (Nat.mul_ne_zero x.den_nz y.den_nz) (((hx.1.mul hy.2).mono h1).add ((hy.1.mul hx.2).mono h2)) ?_
  rw [Int.natCast_mul]
  exact hx.2.mul hy.2
theorem times_bd {n m d : Nat} {a : Int} {x : Rat} (ha : Bd n a) (hx : BdQ m d x) : BdQ (n + m) d (mkRat a 1 * x) := by
  rw [← fr_int]
  exact mk_bd x.den_nz (ha.mul hx.1) hx.2
def terms (ns : List Int) (qs : List Rat) : List Rat := List.zipWith (fun a x => mkRat a 1 * x) ns qs
def psum (ts : List Rat) (i : Nat) : Rat := (ts.take i).foldl (· + ·) 0
def fsum (ns : List Int) (qs : List Rat) : Rat := (terms ns qs).foldl (· + ·) 0
theorem psum_succ {ts : List Rat} {i : Nat} {x : Rat} (h : ts[i]? = some x) : psum ts (i + 1) = psum ts i + x := by
  unfold psum
  rw [take_snoc h, List.foldl_append]
  rfl
theorem psum_all {ts : List Rat} {i : Nat} (h : ts.length ≤ i) : psum ts i = ts.foldl (· + ·) 0 := by
  unfold psum
  rw [List.take_of_length_le h]
theorem terms_at {ns : List Int} {qs : List Rat} {i : Nat} {n : Int} {q : Rat} (h1 : ns[i]? = some n) (h2 : qs[i]? = some q) : (terms ns qs)[i]? = some (mkRat n 1 * q) := by
  unfold terms
  rw [List.getElem?_zipWith, h1, h2]
theorem terms_bd {n m d : Nat} {ns : List Int} {qs : List Rat} (hn : ∀ y ∈ ns, Bd n y) (hq : ∀ q ∈ qs, BdQ m d q) : ∀ t ∈ terms ns qs, BdQ (n + m) d t := by
  intro t ht
  obtain ⟨i, hi⟩ := List.mem_iff_getElem?.mp ht
  unfold terms at hi
  rw [List.getElem?_zipWith] at hi
  cases h1 : ns[i]? with
  | none => rw [h1] at hi; cases hi
  | some a =>
    cases h2 : qs[i]? with
    | none => rw [h1, h2] at hi; cases hi
    | some q =>
      rw [h1, h2] at hi
      cases hi
      exact times_bd (hn a (List.mem_of_getElem? h1)) (hq q (List.mem_of_getElem? h2))
theorem psum_bd {n d : Nat} {ts : List Rat} (h : ∀ t ∈ ts, BdQ n d t) : ∀ i : Nat, BdQ (1 + i * (n + d + 1)) (1 + i * d) (psum ts i)
  | 0 => by
    unfold psum
    rw [List.take_zero, Nat.zero_mul, Nat.zero_mul]
    exact ⟨by show (0 : Nat) < _; exact Nat.two_pow_pos _, by show (1 : Nat) < 2 ^ (1 + 0); decide⟩
  | i + 1 => by
    have ih := psum_bd h i
    cases e : ts[i]? with
    | none =>
      have : psum ts (i + 1) = psum ts i := by
        have hl := List.getElem?_eq_none_iff.mp e
        rw [psum_all hl, psum_all (by omega)]
      rw [this]
      exact ih.mono (by rw [Nat.succ_mul]; omega) (by rw [Nat.succ_mul]; omega)
    | some x =>
      rw [psum_succ e]
      have e1 : i * (n + d + 1) = i * n + i * d + i := by rw [Nat.mul_add, Nat.mul_add, Nat.mul_one]
      exact (add_bd (k := i * (n + d + 1) + n + d + 1) ih (h x (List.mem_of_getElem? e)) (by omega) (by omega)).mono (by rw [Nat.succ_mul]; omega) (by rw [Nat.succ_mul]; omega)
/-- fractions in a list -/
def FrsAt (H : Hp) : List Addr → List Rat → Prop := Paired fun a q => H a = some (.tup (frV q))
def FrL (H : Hp) (p : Addr) (bs : List Addr) (qs : List Rat) : Prop := H p = some (.lst (bs.map V.ref)) ∧ FrsAt H bs qs
theorem FrsAt.ex {H H' : Hp} {bs : List Addr} {qs : List Rat} (h : FrsAt H bs qs) (e : Ex H H') : FrsAt H' bs qs := paired_imp (fun _ _ r => e _ _ r) h
theorem FrL.ex {H H' : Hp} {p : Addr} {bs : List Addr} {qs : List Rat} (h : FrL H p bs qs) (e : Ex H H') : FrL H' p bs qs := ⟨e _ _ h.1, h.2.ex e⟩
/-- [f(x) for x in xs], truths -/
theorem el_bools {K : PySem.W.Frag} {n j : Nat} {a : Addr} {xs : List V} {bs : List Bool} {te : TE} {vs : List Nat} {σ : L2.St} {H : Hp} (hσ : σ[n]? = some (some (.ref a))) (hx : H a = some (.lst xs)) (hl : xs.length ≤ 1000) (hb : xs.length = bs.length)
    (hs : ∀ (i : Nat) (x : V) (r : Bool) (H' : Hp), xs[i]? = some x → bs[i]? = some r → Ex H H' → Ev te ((wipe σ vs).set j (some x)) H' (.bl r)) (hw : ∀ x, wipe ((wipe σ vs).set j (some x)) vs = wipe σ vs) : EvL (tLc (iList K (tVar n)) (gName j) tYes te vs) σ H (bs.map V.bl) := by
  intro H0 e0 Q0 q0
  have hx0 := e0 _ _ hx
  refine ⟨_, hσ, a, rfl, ⟨_, SqL.of hx0⟩, fun D hD => ?_⟩
  refine lc_list (K := K) (a := a) (xs := xs) (fun i H' => Ex H0 H' ∧ H' D = some (.lst ((bs.take i).map V.bl))) ⟨Ex.new hD, upd_same⟩ (fun i H' _ p => SqL.of (p.1 _ _ hx0)) (fun i x H' gx p => ?_) (fun H' p => ?_)
  · obtain ⟨p1, p2⟩ := p
    have hi := (List.getElem?_eq_some_iff.mp gx).1
    have gb : bs[i]? = some bs[i] := List.getElem?_eq_getElem (by omega)
    refine ⟨hw _, ?_⟩
    show te _ _ _
    refine hs i x _ H gx gb (Ex.refl H) _ (e0.trans p1) _ fun H4 e4 => ?_
    refine ⟨_, e4 _ _ p2, ?_, Ex.mut (p1.trans e4) hD, ?_⟩
    · rw [List.length_map, List.length_take]
      exact small1000 (by omega)
    · rw [upd_same, take_snoc gb, List.map_append]
      rfl
  · obtain ⟨p1, p2⟩ := p
    rw [hb, List.take_length] at p2
    exact q0 D H' hD p1 p2
theorem all_map {bs : List Bool} : bs.all id = true ↔ ∀ b ∈ bs, b = true := by
  rw [List.all_eq_true]
  rfl
theorem ev_allB {K : PySem.W.Frag} {ta : TE} {σ : L2.St} {H : Hp} {bs : List Bool} (h : EvL ta σ H (bs.map V.bl)) : Ev (tCB (rAll K) (tCons ta tNil)) σ H (.bl (bs.all id)) := fun H1 e Q q =>
  h H1 e _ fun p H2 _ e2 hp => ⟨p, _, rfl, SqL.of hp, q H2 e2⟩
def EvQ (te : TE) (σ : L2.St) (H : Hp) (q : Rat) : Prop := ∀ H1, Ex H H1 → ∀ Q : VK, (∀ t H2, Ex H1 H2 → H2 t = some (.tup (frV q)) → Q (.ref t) H2) → te σ H1 Q
theorem fr_true {q : Rat} : (decide (1 ≤ (q.den : Int)) && decide (gcdI q.num (q.den : Int) = 1)) = true := by
  have h1 : (1 : Int) ≤ (q.den : Int) := by
    have := q.den_pos
    omega
  have h2 : gcdI q.num (q.den : Int) = 1 := by
    unfold gcdI
    rw [Int.natAbs_natCast, q.reduced.gcd_eq_one]
    rfl
  rw [decide_eq_true h1, decide_eq_true h2]
  rfl
theorem lf_rows {K : PySem.W.Frag} {nn : Nat} {te : TE} {vs : List Nat} {j : Nat} {σ : L2.St} {H : Hp} {Q : VK} {a : Addr} {as0 : List Addr} {rows : List (List Int)} (F : List Int → Rat) (hσ : σ[nn]? = some (some (.ref a))) (ht : Tab H a as0 rows) (hm : rows.length ≤ 1000) (hw : ∀ u, wipe ((wipe σ vs).set j (some u)) vs = wipe σ vs)
    (he : ∀ c r H1, r ∈ rows → H c = some (.lst (r.map V.int)) → Ex H H1 → EvQ te ((wipe σ vs).set j (some (.ref c))) H1 (F r))
    (k : ∀ p bs H2, H p = none → Ex H H2 → FrL H2 p bs (rows.map F) → Q (.ref p) H2) : tLc (iList K (tVar nn)) (gName j) tYes te vs σ H Q := by
  refine ⟨_, hσ, a, rfl, ⟨_, SqL.of ht.1⟩, fun D hD => ?_⟩
  refine lc_list (K := K) (a := a) (xs := as0.map V.ref) (fun i H' => ∃ bs, Ex H H' ∧ H' D = some (.lst (bs.map V.ref)) ∧ FrsAt H' bs ((rows.take i).map F)) ⟨[], Ex.new hD, upd_same, .nil⟩ (fun i H' _ ⟨_, p1, _⟩ => SqL.of (p1 _ _ ht.1)) (fun i x H' gx p => ?_) (fun H' p => ?_)
  · obtain ⟨bs, p1, p2, p3⟩ := p
    rw [List.getElem?_map] at gx
    obtain ⟨c0, hc0, rfl⟩ := Option.map_eq_some_iff.mp gx
    obtain ⟨y, hy, hh⟩ := paired_get ht.2 hc0
    have hi := (List.getElem?_eq_some_iff.mp hy).1
    have el : bs.length = i := by rw [Paired.length p3, List.length_map, List.length_take]; omega
    refine ⟨hw _, ?_⟩
    show te _ H' _
    refine he c0 y H' (List.mem_of_getElem? hy) hh p1 H' (Ex.refl _) _ fun r H4 e4 hr => ?_
    refine ⟨_, e4 _ _ p2, ?_, bs ++ [r], Ex.mut (p1.trans e4) hD, ?_, ?_⟩
    · rw [List.length_map, el]
      exact small1000 (by omega)
    · rw [upd_same, List.map_append]
      rfl
    · rw [take_snoc hy, List.map_append]
      have p24 := e4 _ _ p2
      refine paired_snoc (paired_imp (fun b q h => tups_U p24 _ _ (e4 _ _ h)) p3) ?_
      exact tups_U p24 _ _ hr
  · obtain ⟨bs, p1, p2, p3⟩ := p
    rw [List.length_map, Paired.length ht.2, List.take_length] at p3
    exact k D bs H' hD p1 ⟨p2, p3⟩
namespace Fq
end Fq

section
variable {P : Program} {w : World} {K : PySem.W.Frag} {mg : Str → Option Value} {base : Heap}
-- DEF is_whole

def sp_is_whole (K : PySem.W.Frag) : Sp := fun vs H Q _ => ∃ (x : V) (t : String), vs = [x] ∧ TyX K H x (.type t) ∧ tyOk t ∧ Q (.bl (t == "int")) H

theorem ok_is_whole (T : Txt K mg) : FnOk P w K mg base CX0 1 T.f_is_whole T.fd_is_whole ["thing"] (sp_is_whole K) := by
  refine Fun.ok T.F_is_whole sc_is_whole (fun vs H Q E h => ?_) (fun cdv A outer s H vs Q E hr h => ?_)
  · obtain ⟨_, _, rfl, _⟩ := h; rfl
  · refine ⟨_, (pss_one (ps_ret (pe_and (pe_callB (id := "isinstance") (r := rIsi K) call_isi (by rfl) T.n_isinstance (by decide +kernel) (pa_cons (pv 0) (pa_cons (pe_bltn (v := .ty "int") (by rfl) T.n_int (by decide +kernel) rfl) pa_nil))) (pe_one (pe_not (pe_callB (id := "isinstance") (r := rIsi K) call_isi (by rfl) T.n_isinstance (by decide +kernel) (pa_cons (pv 0) (pa_cons (pe_bltn (v := .ty "bool") (by rfl) T.n_bool (by decide +kernel) rfl) pa_nil)))))))), ?_⟩
    obtain ⟨x, t, rfl, ty, ok, q⟩ := h
    refine ⟨x, rfl, x, _, _, _, _, rfl, ClsV.ty _, ty, kit_ty (ty_int ok), _, rfl, ?_⟩
    rcases ok with rfl | rfl | rfl | rfl | rfl | rfl | rfl
    · exact iteT ⟨x, rfl, x, _, _, _, _, rfl, ClsV.ty _, ty, kit_ty (ty_bool (.inl rfl)), _, rfl, q⟩
    · exact iteT ⟨x, rfl, x, _, _, _, _, rfl, ClsV.ty _, ty, kit_ty (ty_bool (.inr (.inl rfl))), _, rfl, q⟩
    all_goals exact iteF q
-- DEF floor_of

namespace Fq
open PySem PySem.Spec PyProof.Rows
def fl (q : Rat) : Int := q.num / (q.den : Int)
def ce (q : Rat) : Int := -((-q.num) / (q.den : Int))
theorem dpos (q : Rat) : (0 : Int) < (q.den : Int) := Int.natCast_pos.mpr q.den_pos
theorem ce_le (q : Rat) : ce q ≤ fl q + 1 := by
  have hb := dpos q
  unfold ce fl
  have h1 := Int.lt_ediv_add_one_mul_self q.num hb
  have h2 : -(q.num / (q.den : Int)) - 1 ≤ (-q.num) / (q.den : Int) := Int.le_ediv_of_mul_le hb (by
    have e : (-(q.num / (q.den : Int)) - 1) * (q.den : Int) = -((q.num / (q.den : Int) + 1) * (q.den : Int)) := by
      rw [← Int.neg_mul]
      congr 1
      omega
    rw [e]
    omega)
  omega
def ch (q : Rat) : List Int := Ls.rg (fl q) (ce q + 1)
theorem ch_len (q : Rat) : (ch q).length ≤ 2 := by
  unfold ch
  rw [Ls.rg_len]
  have := ce_le q
  omega
theorem ch_mem {q : Rat} {z : Int} (h : z ∈ ch q) : z = fl q ∨ z = ce q := by
  have h1 := Ls.rg_mem h
  have h2 := ce_le q
  omega
def betw (rows : List (List Int)) (qs : List Rat) (zs : List Int) : Bool := rows.all fun r => decide (fl (fsum r qs) ≤ Ls.dot r zs) && decide (Ls.dot r zs ≤ ce (fsum r qs))
def rnd (rows : List (List Int)) (qs : List Rat) : Option (List Int) := (Ls.allL (qs.map ch)).find? (betw rows qs)
theorem bd_fl {n d : Nat} {q : Rat} (h : BdQ n d q) : Bd n (fl q) := h.1.abs (Int.natAbs_ediv_le_natAbs _ _)
theorem bd_ce {n d : Nat} {q : Rat} (h : BdQ n d q) : Bd n (ce q) := h.1.abs (by
  unfold ce
  rw [Int.natAbs_neg]
  refine Nat.le_trans (Int.natAbs_ediv_le_natAbs _ _) ?_
  rw [Int.natAbs_neg]
  exact Nat.le_refl _)
theorem ch_bd {n d : Nat} {q : Rat} {z : Int} (h : BdQ n d q) (hz : z ∈ ch q) : Bd n z := by
  rcases ch_mem hz with rfl | rfl
  · exact bd_fl h
  · exact bd_ce h
theorem ch_all {n d : Nat} : ∀ {qs : List Rat} {zs : List Int}, (∀ q ∈ qs, BdQ n d q) → Paired (fun (y : Int) (c : List Int) => y ∈ c) zs (qs.map ch) → ∀ z ∈ zs, Bd n z
  | [], _, _, .nil, z, hz => nomatch hz
  | q :: qs, _, h, .cons r t, z, hz => by
    rcases List.mem_cons.mp hz with rfl | hz
    · exact ch_bd (h q (.head _)) r
    · exact ch_all (fun q hq => h q (.tail _ hq)) t z hz
end Fq
theorem el_colF {K : PySem.W.Frag} {n : Nat} {te : TE} {vs : List Nat} {j : Nat} {σ : L2.St} {H : Hp} {a : Addr} {bs : List Addr} {qs : List Rat} (f : Rat → Int) (hσ : σ[n]? = some (some (.ref a))) (hx : H a = some (.lst (bs.map V.ref))) (hE : FrsAt H bs qs) (hz : qs.length ≤ 1000)
    (hw : ∀ u, wipe ((wipe σ vs).set j (some u)) vs = wipe σ vs)
    (he : ∀ b r H1, r ∈ qs → H b = some (.tup (frV r)) → Ex H H1 → Ev te ((wipe σ vs).set j (some (.ref b))) H1 (.int (f r))) : EvL (tLc (iList K (tVar n)) (gName j) tYes te vs) σ H ((qs.map f).map V.int) := fun H1 e1 Q q => by
  have hx1 := e1 _ _ hx
  have el : bs.length = qs.length := Paired.length hE
  refine ⟨_, hσ, a, rfl, ⟨_, SqL.of hx1⟩, fun D hD => ?_⟩
  refine lc_list (K := K) (a := a) (xs := bs.map V.ref) (fun i H' => Ex H1 H' ∧ H' D = some (.lst (((qs.map f).take i).map V.int))) ⟨Ex.new hD, upd_same⟩ (fun i H' _ p => SqL.of (p.1 _ _ hx1)) (fun i x H' gx p => ?_) (fun H' p => ?_)
  · obtain ⟨p1, p2⟩ := p
    rw [List.getElem?_map] at gx
    obtain ⟨b, hb, rfl⟩ := Option.map_eq_some_iff.mp gx
    obtain ⟨ed, hed, hr⟩ := paired_get hE hb
    refine ⟨hw _, ?_⟩
    show te _ _ _
    refine he b ed H (List.mem_of_getElem? hed) hr (Ex.refl H) _ (e1.trans p1) _ fun H4 e4 => ?_
    refine ⟨_, e4 _ _ p2, ?_, Ex.mut (p1.trans e4) hD, ?_⟩
    · rw [List.length_map, List.length_take, List.length_map]
      exact small1000 (by omega)
    · have hzz : (qs.map f)[i]? = some (f ed) := by rw [List.getElem?_map, hed]; rfl
      rw [upd_same, take_snoc hzz, List.map_append]
      rfl
  · obtain ⟨p1, p2⟩ := p
    rw [List.take_of_length_le (by rw [List.length_map, List.length_map]; omega)] at p2
    exact q D H' hD p1 p2

/-- [F(q) for q in qs], lists made of fractions -/
theorem lc_rowsF {K : PySem.W.Frag} {nn : Nat} {te : TE} {vs : List Nat} {j : Nat} {σ : L2.St} {H : Hp} {Q : VK} {a : Addr} {bs0 : List Addr} {qs : List Rat} (F : Rat → List Int) (hσ : σ[nn]? = some (some (.ref a))) (ht : FrL H a bs0 qs) (hm : qs.length ≤ 1000) (hw : ∀ u, wipe ((wipe σ vs).set j (some u)) vs = wipe σ vs)
    (he : ∀ c q H1, q ∈ qs → H1 c = some (.tup (frV q)) → Ex H H1 → EvL te ((wipe σ vs).set j (some (.ref c))) H1 ((F q).map V.int))
    (k : ∀ p as H2, H p = none → Ex H H2 → Tab H2 p as (qs.map F) → Q (.ref p) H2) : tLc (iList K (tVar nn)) (gName j) tYes te vs σ H Q := by
  refine ⟨_, hσ, a, rfl, ⟨_, SqL.of ht.1⟩, fun D hD => ?_⟩
  refine lc_list (K := K) (a := a) (xs := bs0.map V.ref) (fun i H' => ∃ as, Ex H H' ∧ H' D = some (.lst (as.map V.ref)) ∧ RowsAt H' as ((qs.take i).map F) ∧ D ∉ as) ⟨[], Ex.new hD, upd_same, .nil, fun z => nomatch z⟩ (fun i H' _ ⟨_, p1, _⟩ => SqL.of (p1 _ _ ht.1)) (fun i x H' gx p => ?_) (fun H' p => ?_)
  · obtain ⟨as, p1, p2, p3, p6⟩ := p
    rw [List.getElem?_map] at gx
    obtain ⟨c0, hc0, rfl⟩ := Option.map_eq_some_iff.mp gx
    obtain ⟨y, hy, hh⟩ := paired_get ht.2 hc0
    have hi := (List.getElem?_eq_some_iff.mp hy).1
    have el : as.length = i := by rw [Paired.length p3, List.length_map, List.length_take]; omega
    refine ⟨hw _, ?_⟩
    show te _ H' _
    refine he c0 y H' (List.mem_of_getElem? hy) (p1 _ _ hh) p1 H' (Ex.refl _) _ fun r H4 nr e4 hr => ?_
    have nrD : r ≠ D := fun z => by
      rw [z, p2] at nr
      cases nr
    refine ⟨_, e4 _ _ p2, ?_, as ++ [r], Ex.mut (p1.trans e4) hD, ?_, ?_, ?_⟩
    · rw [List.length_map, el]
      exact small1000 (by omega)
    · rw [upd_same, List.map_append]
      rfl
    · rw [take_snoc hy, List.map_append]
      refine paired_snoc (rows_but p3 fun b hb o g => ?_) ?_
      · rw [upd_ne (fun z => p6 (by rw [← z]; exact hb))]
        exact e4 _ _ g
      · rw [upd_ne nrD]
        exact hr
    · intro hb
      rcases List.mem_append.mp hb with h | h
      · exact p6 h
      · exact nrD (List.mem_singleton.mp h).symm
  · obtain ⟨as, p1, p2, p3, p6⟩ := p
    rw [List.length_map, Paired.length ht.2, List.take_length] at p3
    exact k D as H' hD p1 ⟨p2, p3⟩
/-- [(f(q), g(q)) for q in a list just made] -/
theorem lc_pairsF {K : PySem.W.Frag} {tl te : TE} {vs : List Nat} {j : Nat} {σ : L2.St} {H : Hp} {Q : VK} {qs : List Rat} (F : Rat → Int × Int) (h : ∀ Q' : VK, (∀ c cs H1, H c = none → Ex H H1 → FrL H1 c cs qs → Q' (.ref c) H1) → tl σ H Q') (hm : qs.length ≤ 1000) (hw : ∀ u, wipe ((wipe σ vs).set j (some u)) vs = wipe σ vs)
    (he : ∀ c q H1, q ∈ qs → H1 c = some (.tup (frV q)) → Ex H H1 → EvU te ((wipe σ vs).set j (some (.ref c))) H1 [.int (F q).1, .int (F q).2])
    (k : ∀ p as H2, H p = none → Ex H H2 → H2 p = some (.lst (as.map V.ref)) → EdgesAt H2 as (qs.map F) → Q (.ref p) H2) : tLc (iList K tl) (gName j) tYes te vs σ H Q := by
  refine h _ fun a bs0 H1 na e1 ht => ⟨a, rfl, ⟨_, SqL.of ht.1⟩, fun D hD => ?_⟩
  have hDH := fresh_back e1 hD
  refine lc_list (K := K) (a := a) (xs := bs0.map V.ref) (fun i H' => ∃ as, Ex H1 H' ∧ H' D = some (.lst (as.map V.ref)) ∧ EdgesAt H' as ((qs.take i).map F)) ⟨[], Ex.new hD, upd_same, .nil⟩ (fun i H' _ ⟨_, p1, _⟩ => SqL.of (p1 _ _ ht.1)) (fun i x H' gx p => ?_) (fun H' p => ?_)
  · obtain ⟨as, p1, p2, p3⟩ := p
    rw [List.getElem?_map] at gx
    obtain ⟨c0, hc0, rfl⟩ := Option.map_eq_some_iff.mp gx
    obtain ⟨y, hy, hh⟩ := paired_get ht.2 hc0
    have hi := (List.getElem?_eq_some_iff.mp hy).1
    have el : as.length = i := by rw [Paired.length p3, List.length_map, List.length_take]; omega
    refine ⟨hw _, ?_⟩
    show te _ H' _
    refine he c0 y H' (List.mem_of_getElem? hy) (p1 _ _ hh) (e1.trans p1) H' (Ex.refl _) _ fun r H4 nr e4 hr => ?_
    have p24 := e4 _ _ p2
    refine ⟨_, p24, ?_, as ++ [r], Ex.mut (p1.trans e4) hD, ?_, ?_⟩
    · rw [List.length_map, el]
      exact small1000 (by omega)
    · rw [upd_same, List.map_append]
      rfl
    · rw [take_snoc hy, List.map_append]
      refine paired_snoc (paired_imp (fun b q h => tups_U p24 _ _ (e4 _ _ h)) p3) ?_
      exact tups_U p24 _ _ hr
  · obtain ⟨as, p1, p2, p3⟩ := p
    rw [List.length_map, Paired.length ht.2, List.take_length] at p3
    exact k D as H' hDH (e1.trans p1) p2 p3
abbrev g3 (K : PySem.W.Frag) (j1 j2 j3 : Nat) : TG := gTup K 2 (gCons (gName j1) (gCons (g2 K j2 j3) gNil))
/-- [f(x, (lo, hi)) for x, (lo, hi) in zip(xs, ps)], truths -/
theorem el_zipPB {K : PySem.W.Frag} {ta : TA} {te : TE} {vs : List Nat} {j1 j2 j3 : Nat} {σ : L2.St} {H : Hp} {Q : VK} {b : Addr} {cs : List Addr} {xs : List Int} {ps : List (Int × Int)} (f : Int → Int × Int → Bool) (h : ∀ Q' : List V → Hp → Prop, (∀ a H1, H a = none → Ex H H1 → H1 a = some (.lst (xs.map V.int)) → Q' [.ref a, .ref b] H1) → ta σ H Q') (hy : H b = some (.lst (cs.map V.ref))) (hp : EdgesAt H cs ps) (hl : xs.length = ps.length) (hz : xs.length ≤ 1000)
    (hw : ∀ u v z, wipe ((((wipe σ vs).set j1 (some u)).set j2 (some v)).set j3 (some z)) vs = wipe σ vs)
    (he : ∀ x p H2, x ∈ xs → p ∈ ps → Ex H H2 → Ev te ((((wipe σ vs).set j1 (some (.int x))).set j2 (some (.int p.1))).set j3 (some (.int p.2))) H2 (.bl (f x p)))
    (k : ∀ D H2, H D = none → Ex H H2 → H2 D = some (.lst ((List.zipWith f xs ps).map V.bl)) → Q (.ref D) H2) : tLc (iZip K ta) (g3 K j1 j2 j3) tYes te vs σ H Q := by
  refine h _ fun a H1 na eH hx => ?_
  have hx1 : SqL K H1 a (xs.map V.int) := SqL.of hx
  have hy1 := eH _ _ hy
  have hp1 : EdgesAt H1 cs ps := EdgesAt.mono (fun a xs g => eH _ _ g) hp
  have el : cs.length = ps.length := Paired.length hp1
  refine ⟨a, b, _, _, rfl, hx1, SqL.of hy1, fun D hD => ?_⟩
  refine lc_zip (xs := xs.map V.int) (ys := cs.map V.ref) (by rw [List.length_map, List.length_map, el]; exact hl) (fun i H' => Ex H1 H' ∧ H' D = some (.lst (((List.zipWith f xs ps).take i).map V.bl))) ⟨Ex.new hD, upd_same⟩ (fun i H' p => ⟨ex_l p.1 hx1, SqL.of (p.1 _ _ hy1)⟩) (fun i x y T H' gx gy p nT => ?_) (fun H' p => ?_)
  · obtain ⟨p1, p2⟩ := p
    rw [List.getElem?_map] at gx gy
    obtain ⟨x', hx', rfl⟩ := Option.map_eq_some_iff.mp gx
    obtain ⟨c', hc', rfl⟩ := Option.map_eq_some_iff.mp gy
    obtain ⟨y', hy', hh⟩ := paired_get hp1 hc'
    have xT : Ex H' (upd H' T (.tup [.int x', .ref c'])) := Ex.new nT
    refine ⟨T, _, rfl, SqT.of upd_same, rfl, _, _, rfl, _, _, rfl, ⟨c', _, rfl, SqT.of (xT _ _ (p1 _ _ hh)), rfl, _, _, rfl, _, _, rfl, rfl, rfl, hw _ _ _, ?_⟩⟩
    show te _ _ _
    refine he x' y' H (List.mem_of_getElem? hx') (List.mem_of_getElem? hy') (Ex.refl _) _ (eH.trans (p1.trans xT)) _ fun H4 e4 => ?_
    refine ⟨_, e4 _ _ (xT _ _ p2), ?_, Ex.mut ((p1.trans xT).trans e4) hD, ?_⟩
    · rw [List.length_map, List.length_take]
      have := (List.getElem?_eq_some_iff.mp hx').1
      exact small1000 (by omega)
    · have hzz : (List.zipWith f xs ps)[i]? = some (f x' y') := by
        rw [List.getElem?_zipWith, hx', hy']
      rw [upd_same, take_snoc hzz, List.map_append]
      rfl
  · obtain ⟨p1, p2⟩ := p
    rw [List.take_of_length_le (by rw [List.length_zipWith, List.length_map]; omega)] at p2
    exact k D H' (fresh_back eH hD) (eH.trans p1) p2

def sp_floor_of (K : PySem.W.Frag) : Sp := fun vs H Q _ => ∃ (p : Addr) (a b : Int), vs = [.ref p] ∧ H p = some (.tup [.int a, .int b]) ∧ 0 < b ∧ Bd 9000 b ∧ Q (.int (a / b)) H

theorem ok_floor_of (T : Txt K mg) : FnOk P w K mg base CX0 1 T.f_floor_of T.fd_floor_of ["value"] (sp_floor_of K) := by
  refine Fun.ok T.F_floor_of sc_floor_of (fun vs H Q E h => ?_) (fun cdv A outer s H vs Q E hr h => ?_)
  · obtain ⟨_, _, _, rfl, _⟩ := h; rfl
  · refine ⟨_, (pss_one (ps_ret (pe_op op_fdivW (pe_ix (r := rIxT K) ix_tup (pv 0) pe_int (fun _ _ => rfl)) (pe_ix (r := rIxT K) ix_tup (pv 0) pe_int (fun _ _ => rfl))))), ?_⟩
    obtain ⟨p, a, b, rfl, hp, hb, bb, k⟩ := h
    refine ⟨_, rfl, p, _, _, _, rfl, rfl, SqT.of hp, rfl, _, rfl, p, _, _, _, rfl, rfl, SqT.of hp, rfl, _, _, rfl, rfl, Bd.divOk hb bb, k⟩
-- DEF ceiling_of

def sp_ceiling_of (K : PySem.W.Frag) : Sp := fun vs H Q _ => ∃ (p : Addr) (a b : Int), vs = [.ref p] ∧ H p = some (.tup [.int a, .int b]) ∧ 0 < b ∧ Bd 9000 b ∧ Q (.int (-((-a) / b))) H

theorem ok_ceiling_of (T : Txt K mg) : FnOk P w K mg base CX0 1 T.f_ceiling_of T.fd_ceiling_of ["value"] (sp_ceiling_of K) := by
  refine Fun.ok T.F_ceiling_of sc_ceiling_of (fun vs H Q E h => ?_) (fun cdv A outer s H vs Q E hr h => ?_)
  · obtain ⟨_, _, _, rfl, _⟩ := h; rfl
  · refine ⟨_, (pss_one (ps_ret (pe_un un_neg (pe_op op_fdivW (pe_un un_neg (pe_ix (r := rIxT K) ix_tup (pv 0) pe_int (fun _ _ => rfl))) (pe_ix (r := rIxT K) ix_tup (pv 0) pe_int (fun _ _ => rfl)))))), ?_⟩
    obtain ⟨p, a, b, rfl, hp, hb, bb, k⟩ := h
    refine ⟨_, rfl, p, _, _, _, rfl, rfl, SqT.of hp, rfl, _, rfl, _, rfl, p, _, _, _, rfl, rfl, SqT.of hp, rfl, _, _, rfl, rfl, Bd.divOk hb bb, _, rfl, k⟩
-- DEF is_long

def sp_is_long (K : PySem.W.Frag) : Sp := fun vs H Q _ => ∃ (a : Addr) (xs : List V) (n : Int), vs = [.ref a, .int n] ∧ H a = some (.lst xs) ∧ (xs.length : Int) = n ∧ ∀ H', Ex H H' → Q (.bl true) H'

theorem ok_is_long (T : Txt K mg) : FnOk P w K mg base CX0 1 T.f_is_long T.fd_is_long ["thing", "many"] (sp_is_long K) := by
  refine Fun.ok T.F_is_long sc_is_long (fun vs H Q E h => ?_) (fun cdv A outer s H vs Q E hr h => ?_)
  · obtain ⟨_, _, _, rfl, _⟩ := h; rfl
  · refine ⟨_, (pss_one (ps_ret (pe_and (pe_callB (id := "isinstance") (r := rIsi K) call_isi (by rfl) T.n_isinstance (by decide +kernel) (pa_cons (pv 0) (pa_cons (pe_bltn (v := .ty "list") (by rfl) T.n_list (by decide +kernel) rfl) pa_nil))) (pe_one (pe_cmpR op_eq (pe_callB (id := "len") (r := rLenS K) call_len_seq (by rfl) T.n_len PySem.boot_len (pa_cons (pv 0) pa_nil)) (pv 1) (nomark _)))))), ?_⟩
    obtain ⟨a, xs, n, rfl, ha, hl, k⟩ := h
    exact s_ret (ev_andV (a := true) (b := true) (ev_isi (t := "list") (b := true) (ev_var rfl) ev_c (fun H1 e => .base (.lst (e _ _ ha))) (by decide +kernel)) (fun _ => ev_is (ev_op (ev_len (ev_var rfl) (SqL.of ha)) (ev_var rfl) (rv_eq rfl)) (by rw [hl]; exact congrArg V.bl (decide_eq_true rfl)))) fun H' e => k H' e
-- DEF cleared_row

open Dt in
def sp_cleared_row (K : PySem.W.Frag) : Sp := fun vs H Q _ => ∃ (a b : Addr) (ns ms : List Int) (col corner : Int) (B : Nat), vs = [.ref a, .ref b, .int col, .int corner] ∧ H a = some (.lst (ns.map V.int)) ∧ H b = some (.lst (ms.map V.int)) ∧ ns.length = ms.length ∧ ns.length ≤ 8 ∧ 0 ≤ col ∧ col < ns.length ∧ corner ≠ 0 ∧ Bd 9000 corner ∧ 0 < B ∧ B ≤ 400000 ∧ (∀ y ∈ ns, Bd B y) ∧ (∀ y ∈ ms, Bd B y) ∧
  ∀ q H', H q = none → Ex H H' → H' q = some (.lst ((crow ns ms col.toNat corner).map V.int)) → Q (.ref q) H'

theorem ok_cleared_row (T : Txt K mg) : FnOk P w K mg base CX0 1 T.f_cleared_row T.fd_cleared_row ["row", "lead", "column", "corner"] (sp_cleared_row K) := by
  refine Fun.ok T.F_cleared_row sc_cleared_row (fun vs H Q E h => ?_) (fun cdv A outer s H vs Q E hr h => ?_)
  · obtain ⟨_, _, _, _, _, _, _, rfl, _⟩ := h; rfl
  · refine ⟨_, (pss_one (ps_ret (pe_lc (own := [("entry", 4), ("top", 5)]) (wi := iZip K _) (g := gTup K 2 (gCons (gName 4) (gCons (gName 5) gNil))) (tt := tYes) rfl sc_cleared_row.nd (pi_zip (by rfl) T.n_zip (pa_cons (pv 0) (pa_cons (pv 1) pa_nil))) (blkOk_by (N := ["row", "lead", "column", "corner", "entry", "top"]) (sc := (defScope s_cleared_row)) (by decide +kernel)) (fun _ _ _ _ _ => (pg_tup rfl (pgs_cons (pg_name (i := 4) sc_cleared_row.nd rfl (Or.inl rfl)) (pgs_cons (pg_name (i := 5) sc_cleared_row.nd rfl (Or.inl rfl)) pgs_nil)))) (fun _ _ _ _ _ => pts_nil) (fun _ _ _ _ _ => (pe_op op_fdivNW (pe_op op_sub (pe_op op_mulW (pv 4) (pe_ix (r := rIxL K) ix_list (pv 1) (pv 2) (fun _ _ => rfl))) (pe_op op_mulW (pe_ix (r := rIxL K) ix_list (pv 0) (pv 2) (fun _ _ => rfl)) (pv 5))) (pv 3)))))), ?_⟩
    obtain ⟨a, b, ns, ms, col, corner, B, rfl, ha, hb, hl, h8, hc0, hc1, hn, hcb, hB0, hB, b1, b2, k⟩ := h
    refine s_retL (xs := (Dt.crow ns ms col.toNat corner).map V.int) (el_zip (K := K) (f := fun e t => (e * ms[col.toNat]?.getD 0 - ns[col.toNat]?.getD 0 * t).fdiv corner) (xs := ns) (ys := ms) (ea_cons (ev_var rfl) (ea_cons (ev_var rfl) ea_nil)) (SqL.of ha) (SqL.of hb) hl (by omega) (fun u v => rfl) fun x y H1 hx hy e1 => ?_) fun q H1 nq e1 hq => k q H1 nq e1 hq
    have m1 : Bd B (ms[col.toNat]?.getD 0) := by
      rw [List.getElem?_eq_getElem (show col.toNat < ms.length by omega)]
      exact b2 _ (List.getElem_mem _)
    have m2 : Bd B (ns[col.toNat]?.getD 0) := by
      rw [List.getElem?_eq_getElem (show col.toNat < ns.length by omega)]
      exact b1 _ (List.getElem_mem _)
    exact ev_op (ev_op (ev_op (ev_var rfl) (ev_op (ev_var rfl) (ev_var rfl) (rv_ixL (SqL.of (e1 _ _ hb)) (atI_rowI hc0 (by omega)))) (rv_I (Bd.mulOk (b1 x hx) m1 hB0 hB0 (by omega)))) (ev_op (ev_op (ev_var rfl) (ev_var rfl) (rv_ixL (SqL.of (e1 _ _ ha)) (atI_rowI hc0 hc1))) (ev_var rfl) (rv_I (Bd.mulOk m2 (b2 y hy) hB0 hB0 (by omega)))) rv_I0) (ev_var rfl) (rv_I (Bd.divNOk hn hcb))
-- DEF is_bad

theorem not_in3 (t : Int) : (!inV (.int t) [.int (-1), .int 0, .int 1]) = Bs.isBad t := by
  unfold inV Bs.isBad
  congr 1
  rw [Bool.eq_iff_iff, Bool.or_eq_true, Bool.or_eq_true, decide_eq_true_eq, decide_eq_true_eq, decide_eq_true_eq]
  show (((-1 : Int) == t) || ((0 == t) || ((1 == t) || false))) = true ↔ _
  simp only [Bool.or_false, Bool.or_eq_true, beq_iff_eq]
  omega

def sp_is_bad (K : PySem.W.Frag) : Sp := fun vs H Q _ => ∃ (i : Int), vs = [.int i] ∧ ∀ H', Ex H H' → Q (.bl (Bs.isBad i)) H'

theorem ok_is_bad (T : Txt K mg) : FnOk P w K mg base CX0 1 T.f_is_bad T.fd_is_bad ["value"] (sp_is_bad K) := by
  refine Fun.ok T.F_is_bad sc_is_bad (fun vs H Q E h => ?_) (fun cdv A outer s H vs Q E hr h => ?_)
  · obtain ⟨_, rfl, _⟩ := h; rfl
  · refine ⟨_, (pss_one (ps_ret (pe_cmpR (r := rIn K true) op_notIn_seq (pv 0) (pe_tup (pa_cons (pe_un un_neg pe_int) (pa_cons pe_int (pa_cons pe_int pa_nil)))) (by rfl)))), ?_⟩
    obtain ⟨i, rfl, k⟩ := h
    exact s_ret (ev_is (ev_niU (ev_var rfl) (eu_tup (ea_cons (ev_un (x := .int 1) ev_c ru_neg) (ea_cons ev_c (ea_cons ev_c ea_nil))) (Nat.le_of_ble_eq_true rfl)) rfl rfl) (by rw [not_in3])) fun H1 e1 => k H1 e1
-- DEF unfolded

theorem bd_zero {n : Nat} : Bd n 0 := by
  unfold Bd
  exact Nat.two_pow_pos n
theorem ev_lenTu {K : PySem.W.Frag} {ta : TE} {σ : L2.St} {H : Hp} {p : Addr} {xs : List V} (ha : Ev ta σ H (.ref p)) (h : SqT K H p xs) : Ev (tCB (rLenS K) (tCons ta tNil)) σ H (.int (xs.length : Int)) := fun H1 e Q q => ha H1 e _ fun H2 e2 => ⟨p, xs, rfl, Or.inr (ex_t (e.trans e2) h), q H2 e2⟩
/-- readings that tell a tuple, new or not -/
def EvW (te : TE) (σ : L2.St) (H : Hp) (xs : List V) : Prop := ∀ H1, Ex H H1 → ∀ Q : VK, (∀ p H2, Ex H1 H2 → H2 p = some (.tup xs) → Q (.ref p) H2) → te σ H1 Q
theorem cutV_whole {xs : List V} {lo hi : Option Int} (h : HT.sIx xs.length 0 lo = 0 ∧ HT.sIx xs.length xs.length hi = xs.length) : cutV xs lo hi = xs := by
  unfold cutV
  rw [h.1, h.2, List.drop_zero, Nat.sub_zero, List.take_length]
theorem ew_var {i : Nat} {σ : L2.St} {H : Hp} {a : Addr} {xs : List V} (hσ : σ[i]? = some (some (.ref a))) (h : H a = some (.tup xs)) : EvW (tVar i) σ H xs := fun H1 e Q q => ⟨_, hσ, q a H1 (Ex.refl _) (e _ _ h)⟩
theorem ew_sl {K : PySem.W.Frag} {te : TE} {tl th : TO} {σ : L2.St} {H : Hp} {a : Addr} {xs : List V} {lo hi : Option Int} (h : Ev te σ H (.ref a)) (h1 : EvO tl σ H lo) (h2 : EvO th σ H hi) (hs : H a = some (.tup xs)) : EvW (tSl (rSlA K) te tl th) σ H (cutV xs lo hi) := fun H1 e Q q =>
  h H1 e _ fun H2 e2 => h1 H2 (e.trans e2) _ fun H3 e3 => h2 H3 ((e.trans e2).trans e3) _ fun H4 e4 => by
    have ha := (((e.trans e2).trans e3).trans e4) _ _ hs
    have e14 := (e2.trans e3).trans e4
    exact ⟨a, xs, rfl, SqT.of ha, fun z => q a H4 e14 (by rw [cutV_whole z]; exact ha), fun _ p hp => q p _ (e14.trans (Ex.new hp)) upd_same⟩
theorem ew_cat {K : PySem.W.Frag} {ta tb : TE} {σ : L2.St} {H : Hp} {xs ys : List V} (ha : EvW ta σ H xs) (hb : EvW tb σ H ys) (hz : xs.length + ys.length ≤ 100000) : EvW (tOp (rCatA K) ta tb) σ H (xs ++ ys) := fun H1 e Q q =>
  ha H1 e _ fun a H2 e2 h2 => hb H2 (e.trans e2) _ fun b H3 e3 h3 => by
    have h2' := e3 _ _ h2
    refine ⟨a, b, xs, ys, rfl, rfl, SqT.of h2', SqT.of h3, sz_of hz, fun z => ?_, fun z1 z2 => ?_, fun z1 z2 p hp => q p _ ((e2.trans e3).trans (Ex.new hp)) upd_same⟩
    · rw [z, List.nil_append] at q
      exact q b H3 (e2.trans e3) h3
    · rw [z2, List.append_nil] at q
      exact q a H3 (e2.trans e3) h2'
/-- the key of a square -/
def keyS (rs cs : List Nat) : NestedKey := .tup [.tup ((Sg.zs rs).map .num), .tup ((Sg.zs cs).map .num)]
theorem zs_inj {a b : List Nat} (h : Sg.zs a = Sg.zs b) : a = b := by
  unfold Sg.zs at h
  exact List.map_inj_right (fun _ _ h => Int.ofNat_inj.mp h) |>.mp h
theorem num_inj {a b : List Int} (h : a.map NestedKey.num = b.map NestedKey.num) : a = b := List.map_inj_right (fun _ _ h => NestedKey.num.inj h) |>.mp h
theorem keyS_inj {r r' c c' : List Nat} (h : keyS r c = keyS r' c') : r = r' ∧ c = c' := by
  unfold keyS at h
  have h1 := NestedKey.tup.inj h
  obtain ⟨h2, h3⟩ := List.cons.inj h1
  obtain ⟨h4, _⟩ := List.cons.inj h3
  exact ⟨zs_inj (num_inj (NestedKey.tup.inj h2)), zs_inj (num_inj (NestedKey.tup.inj h4))⟩
theorem keyS_depth (r c : List Nat) : (keyS r c).depth ≤ 8 := by
  have z : ∀ l : List Int, NestedKey.depthAll (l.map .num) = 0 := fun l => by
    induction l with
    | nil => rfl
    | cons a l ih =>
      show max 0 (NestedKey.depthAll (l.map .num)) = 0
      rw [ih]
      rfl
  unfold keyS
  show max (NestedKey.depthAll ((Sg.zs r).map .num) + 1) (max (NestedKey.depthAll ((Sg.zs c).map .num) + 1) 0) + 1 ≤ 8
  rw [z, z]
  decide
theorem is_key {K : PySem.W.Frag} {H : Hp} {b r c : Addr} {rs cs : List Nat} (hb : H b = some (.tup [.ref r, .ref c])) (hr : H r = some (.tup ((Sg.zs rs).map V.int))) (hc : H c = some (.tup ((Sg.zs cs).map V.int))) : DN.Is K H (keyS rs cs) (.ref b) :=
  .tup (SqT.of hb) (.cons (.tup (SqT.of hr) (DN.all_ints _)) (.cons (.tup (SqT.of hc) (DN.all_ints _)) .nil))
theorem cutT_1 {xs : List V} : cutV xs none (some (-1)) = xs.take (xs.length - 1) := by
  unfold cutV
  have e : HT.sIx xs.length xs.length (some (-1)) = xs.length - 1 := by
    show (if (-1 : Int) < 0 then ((-1 : Int) + (xs.length : Int)).toNat else min (-1 : Int).toNat xs.length) = _
    rw [if_pos (by decide)]
    omega
  rw [HT.sIx_none, e, List.drop_zero, Nat.sub_zero]
theorem cut_to {xs : List V} {n : Nat} (h : n ≤ xs.length) : cutV xs none (some (n : Int)) = xs.take n := by
  unfold cutV
  rw [HT.sIx_none, HT.sIx_nat, Nat.min_eq_left h, List.drop_zero, Nat.sub_zero]
theorem cut_fr {xs : List V} {n : Nat} (h : n ≤ xs.length) : cutV xs (some (n : Int)) none = xs.drop n := by
  unfold cutV
  rw [HT.sIx_none, HT.sIx_nat, Nat.min_eq_left h]
  exact List.take_of_length_le (by rw [List.length_drop]; exact Nat.le_refl _)
theorem ev_dgetN {K : PySem.W.Frag} {P : Program} {w : World} {td tx ty : TE} {σ : L2.St} {H : Hp} {d : Addr} {L : DN.Tb} {rs cs : List Nat} {i : Int} (hd : Ev td σ H (.ref d)) (hx : EvW tx σ H ((Sg.zs rs).map V.int)) (hy : EvW ty σ H ((Sg.zs cs).map V.int)) (hL : H d = some (DN.O P w d L)) (hK : DN.Keys K H L) (hf : DN.find L (keyS rs cs) = some i) :
    Ev (DN.tGet K P w td (tTup (tCons tx (tCons ty tNil)))) σ H (.int i) := fun H1 e Q q =>
  hd H1 e _ fun H2 e2 => hx H2 (e.trans e2) _ fun a H3 e3 h3 => hy H3 ((e.trans e2).trans e3) _ fun b H4 e4 h4 => ⟨(by show 2 ≤ sizeLine; decide), fun t nt => by
    have xt := Ex.new (o := .tup [V.ref a, .ref b]) nt
    have e5 := (((e.trans e2).trans e3).trans e4).trans xt
    exact ⟨d, t, L, keyS rs cs, i, rfl, rfl, e5 _ _ hL, hK.ex e5, is_key upd_same (xt _ _ (e4 _ _ h3)) (xt _ _ h4), keyS_depth _ _, hf, q _ (((e2.trans e3).trans e4).trans xt)⟩⟩
def sgi (n j : Nat) : Int := if (n + 1 - j) % 2 = 1 then 1 else -1
theorem sgi_eq {n j : Nat} (h : j ≤ n) : ((sgi n j : Int) : Rat) = Dt.sg n * Dt.sg j := by
  unfold sgi Dt.sg
  have : (n + 1 - j) % 2 = 1 ↔ (n % 2 = 0 ↔ j % 2 = 0) := by omega
  by_cases a : n % 2 = 0 <;> by_cases b : j % 2 = 0 <;> simp only [a, b, if_true, if_false, this] <;> simp <;> first | rfl | grind

def sp_unfolded (K : PySem.W.Frag) (P : Program) (w : World) : Sp := fun vs H Q _ => ∃ (p r c d : Addr) (as : List Addr) (R : List (List Int)) (m wd : Nat) (ahead : List Nat) (l : Nat) (cols : List Nat) (L : DN.Tb), vs = [.ref p, .ref r, .ref c, .ref d] ∧ TabOk H p as R m wd ∧ (∀ r ∈ R, ∀ y ∈ r, Bd 100 y) ∧
  H r = some (.tup ((Sg.zs (ahead ++ [l])).map V.int)) ∧ H c = some (.tup ((Sg.zs cols).map V.int)) ∧ cols.length = ahead.length + 1 ∧ cols.length ≤ 8 ∧ l < m ∧ (∀ j ∈ cols, j < wd) ∧ H d = some (DN.O P w d L) ∧ DN.Keys K H L ∧
  (∀ j, j < cols.length → DN.find L (keyS ahead (Bs.out cols j)) = some (Bs.val R ahead (Bs.out cols j)) ∧ Bd (ahead.length * 112 + 1) (Bs.val R ahead (Bs.out cols j))) ∧
  (Bd (cols.length * 112 + 1) (Bs.val R (ahead ++ [l]) cols) → ∀ H', Ex H H' → Q (.int (Bs.val R (ahead ++ [l]) cols)) H')

theorem ok_unfolded (T : Txt K mg) : FnOk P w K mg base CX0 1 T.f_unfolded T.fd_unfolded ["table", "rows", "columns", "known"] (sp_unfolded K P w) := by
  refine Fun.ok T.F_unfolded sc_unfolded (fun vs H Q E h => ?_) (fun cdv A outer s H vs Q E hr h => ?_)
  · obtain ⟨_, _, _, _, _, _, _, _, _, _, _, _, rfl, _⟩ := h; rfl
  · refine ⟨_, (pss_cut (ps_set (i := 4) sc_unfolded.nd rfl (by first | exact Or.inl rfl | exact Or.inr rfl) (pe_slice (r := rSlA K) sl_tupA (pv 1) po_none (po_some (pe_un un_neg pe_int))))
      (pss_cut (ps_set (i := 5) sc_unfolded.nd rfl (by first | exact Or.inl rfl | exact Or.inr rfl) (pe_ix (r := rIxL K) ix_list (pv 0) (pe_ix (r := rIxT K) ix_tup (pv 1) (pe_un un_neg pe_int) (fun _ _ => rfl)) (fun _ _ => rfl)))
      (pss_cons (ps_set (i := 6) sc_unfolded.nd rfl (by first | exact Or.inl rfl | exact Or.inr rfl) pe_int)
      (pss_cut (ps_for PassesOwn.never rfl (EnT.pi_e (by rfl) T.n_enumerate (pa_cons (pv 2) pa_nil)) (pg_tup rfl (pgs_cons (pg_name (i := 7) sc_unfolded.nd rfl (by first | exact Or.inl rfl | exact Or.inr rfl)) (pgs_cons (pg_name (i := 8) sc_unfolded.nd rfl (by first | exact Or.inl rfl | exact Or.inr rfl)) pgs_nil)))
        (pss_cons (ps_set (i := 9) sc_unfolded.nd rfl (by first | exact Or.inl rfl | exact Or.inr rfl) (pe_ix (r := rIxL K) ix_list (pv 5) (pv 8) (fun _ _ => rfl)))
          (pss_one (ps_if (pt_cmpR op_ne (pv 9) pe_int (nomark _))
            (pss_cons (ps_set (i := 10) sc_unfolded.nd rfl (by first | exact Or.inl rfl | exact Or.inr rfl) (pe_op op_mulW (pv 9) (DN.pe_get hr (pv 3) (pe_tup (pa_cons (pv 4) (pa_cons (pe_op op_catA (pe_slice (r := rSlA K) sl_tupA (pv 2) po_none (po_some (pv 7))) (pe_slice (r := rSlA K) sl_tupA (pv 2) (po_some (pe_op op_add (pv 7) pe_int)) po_none)) pa_nil))) (fun _ _ => rfl))))
              (pss_one (ps_aug (i := 6) sc_unfolded.nd rfl (by first | exact Or.inl rfl | exact Or.inr rfl) (pe_ifExp (pt_cmpR op_eq (pe_op op_mod (pe_op op_sub (pe_callB (id := "len") (r := rLenS K) call_len_seq (by rfl) T.n_len PySem.boot_len (pa_cons (pv 2) pa_nil)) (pv 7)) pe_int) pe_int (nomark _)) (pv 10) (pe_un un_neg (pv 10))) ip_add)))
            pss_nil))))
      (pss_one (ps_ret (pv 6))))))), ?_⟩
    obtain ⟨p, r, c, d, as, R, m, wd, ahead, l, cols, L, rfl, hT, hb, hr, hc, hcl, hc8, hl, hj, hd, hK, hf, k⟩ := h
    have hdm := hT.b
    have zl : ∀ ns : List Nat, ((Sg.zs ns).map V.int).length = ns.length := fun ns => by unfold Sg.zs; rw [List.length_map, List.length_map]
    have zap : ∀ a b : List Nat, (Sg.zs (a ++ b)).map V.int = (Sg.zs a).map V.int ++ (Sg.zs b).map V.int := fun a b => by unfold Sg.zs; rw [List.map_append, List.map_append]
    have ztk : ∀ (a : List Nat) (n : Nat), (Sg.zs (a.take n)).map V.int = ((Sg.zs a).map V.int).take n := fun a n => by unfold Sg.zs; rw [List.map_take, List.map_take]
    have zdr : ∀ (a : List Nat) (n : Nat), (Sg.zs (a.drop n)).map V.int = ((Sg.zs a).map V.int).drop n := fun a n => by unfold Sg.zs; rw [List.map_drop, List.map_drop]
    -- ahead
    refine ⟨fun σ' H' => ∃ pa, σ' = [some (.ref p), some (.ref r), some (.ref c), some (.ref d), some (.ref pa), none, none, none, none, none, none] ∧ Ex H H' ∧ H' pa = some (.tup ((Sg.zs ahead).map V.int)), ?_, ?_⟩
    · have e := ew_sl (K := K) (te := tVar 1) (tl := tNoPart) (th := tPart (tUn (rU fun i => .int (-i)) (tC (.int 1)))) (σ := [some (.ref p), some (.ref r), some (.ref c), some (.ref d), none, none, none, none, none, none, none]) (ev_var rfl) eo_none (eo_some (ev_un (x := .int 1) ev_c ru_neg)) hr
      rw [cutT_1, zl, List.length_append, ← ztk] at e
      have e2 : (ahead ++ [l]).take (ahead.length + [l].length - 1) = ahead := by simp
      rw [e2] at e
      exact e H (Ex.refl _) _ fun pa H1 e1 h1 => ⟨pa, rfl, e1, h1⟩
    rintro σ' H1 ⟨pa, rfl, e1, hpa⟩
    -- last
    obtain ⟨al, rl, atl, hrl, hhl, hll⟩ : ∃ a r, atI (as.map V.ref) (l : Int) = some (.ref a) ∧ R[l]? = some r ∧ H a = some (.lst (r.map V.int)) ∧ r.length = wd := by
      obtain ⟨a, r, h1, h2, h3, h4⟩ := hT.row (i := (l : Int)) (by omega) (by omega)
      rw [Int.toNat_natCast] at h2
      exact ⟨a, r, h1, h2, h3, h4⟩
    refine ⟨fun σ' H' => σ' = [some (.ref p), some (.ref r), some (.ref c), some (.ref d), some (.ref pa), some (.ref al), none, none, none, none, none] ∧ Ex H1 H', ?_, ?_⟩
    · refine s_asg (ev_op (ev_var (i := 0) rfl) (ev_op (ev_var (i := 1) rfl) (ev_un (x := .int 1) ev_c ru_neg) (rv_ixT (v := .int (l : Int)) (SqT.of (e1 _ _ hr)) ?_)) (rv_ixL (SqL.of (hT.ex e1).tab.1) atl)) fun H2 e2 => ⟨rfl, e2⟩
      rw [zap]
      exact atI_last _ _
    rintro σ' H2 ⟨rfl, e2⟩
    have e12 := e1.trans e2
    refine q_asg (v := .int 0) ev_c fun H3 e3 => ?_
    have e13 := e12.trans e3
    have hcz := e13 _ _ hc
    refine ⟨fun σ' H' => ∃ y7 y8 y9 y10 : Option V, σ' = [some (.ref p), some (.ref r), some (.ref c), some (.ref d), some (.ref pa), some (.ref al), some (.int (Bs.val R (ahead ++ [l]) cols)), y7, y8, y9, y10] ∧ Ex H3 H' ∧ Bd (cols.length * 112 + 1) (Bs.val R (ahead ++ [l]) cols), ?_, ?_⟩
    rotate_left
    · rintro σ' H4 ⟨y7, y8, y9, y10, rfl, e4, hbd⟩
      exact s_ret (ev_var rfl) fun H5 e5 => k hbd H5 (e13.trans (e4.trans e5))
    have hn8 : ahead.length ≤ 7 := by omega
    refine ⟨_, rfl, c, _, rfl, SqT.of hcz, EnT.for_enumT (K := K) (a := c) (xs := (Sg.zs cols).map V.int) (fun i σ' H' => ∃ (t : Int) (y7 y8 y9 y10 : Option V), σ' = [some (.ref p), some (.ref r), some (.ref c), some (.ref d), some (.ref pa), some (.ref al), some (.int t), y7, y8, y9, y10] ∧ Ex H3 H' ∧ ((t : Int) : Rat) = Dt.sm i (fun j => (Dt.sg ahead.length * Dt.sg j) * ((Dt.at_ R l (cols[j]?.getD 0) : Int) : Rat) * ((Bs.val R ahead (Bs.out cols j) : Int) : Rat)) ∧ Bd (ahead.length * 112 + 102 + i) t)
      ⟨0, _, _, _, _, rfl, Ex.refl _, rfl, bd_zero⟩ (fun i σ' H' ⟨_, _, _, _, _, _, e, _⟩ => SqT.of (e _ _ hcz)) (fun i x T σ' H4 hx hP nT => ?_) (fun σ' H4 hP => ?_)⟩
    rotate_left
    · obtain ⟨t, y7, y8, y9, y10, rfl, e4, h1, h2⟩ := hP
      rw [zl] at h1 h2
      have ht : t = Bs.val R (ahead ++ [l]) cols := by
        refine Rat.intCast_inj.mp ?_
        rw [h1, Bs.val_last R hcl, hcl]
      subst ht
      exact ⟨_, _, _, _, rfl, e4, h2.mono (by omega)⟩
    obtain ⟨t, y7, y8, y9, y10, rfl, e4, h1, h2⟩ := hP
    have hi := (List.getElem?_eq_some_iff.mp hx).1
    rw [zl] at hi
    rw [List.getElem?_map] at hx
    obtain ⟨xi, hx1, rfl⟩ := Option.map_eq_some_iff.mp hx
    unfold Sg.zs at hx1
    rw [List.getElem?_map] at hx1
    obtain ⟨cj, hcj, rfl⟩ := Option.map_eq_some_iff.mp hx1
    have xT := Ex.new (o := .tup [V.int (i : Nat), .int (cj : Int)]) nT
    refine ⟨T, _, rfl, SqT.of upd_same, rfl, _, _, rfl, _, _, rfl, rfl, ?_⟩
    have e5 := e13.trans (e4.trans xT)
    have hcw : cj < wd := hj cj (List.mem_of_getElem? hcj)
    have ent : Dt.at_ R l cj = rl[cj]?.getD 0 := by
      show (R[l]?.getD [])[cj]?.getD 0 = _
      rw [hrl]
      rfl
    have cd : cols[i]?.getD 0 = cj := by rw [hcj]; rfl
    refine q_asg (v := .int (Dt.at_ R l cj)) (ev_op (ev_var (i := 5) rfl) (ev_var (i := 8) rfl) (rv_ixL (SqL.of (e5 _ _ hhl)) (by rw [ent]; exact atI_row (by omega)))) fun H6 e6 => ?_
    obtain ⟨hfi, hbi⟩ := hf i hi
    have e36 : Ex H3 H6 := e4.trans (xT.trans e6)
    have be : Bd 100 (Dt.at_ R l cj) := by
      rw [ent, List.getElem?_eq_getElem (show cj < rl.length by omega)]
      exact hb rl (List.mem_of_getElem? hrl) _ (List.getElem_mem _)
    refine s_when (b := !decide (Dt.at_ R l cj = 0)) (et_is (et_test (ev_op (ev_var (i := 9) rfl) ev_c (rv_ne rfl))) ?_) (fun z H7 e7 => ?_) (fun z H7 e7 => ?_)
    · congr 1
      exact decide_eq_decide.mpr ⟨fun z => V.int.inj z, fun z => by rw [z]⟩
    rotate_left
    · have z : Dt.at_ R l cj = 0 := by
        by_cases c1 : Dt.at_ R l cj = 0
        · exact c1
        · rw [decide_eq_false c1] at z
          cases z
      refine ⟨t, _, _, _, _, rfl, e36.trans e7, ?_, h2.mono (by omega)⟩
      show _ = Dt.sm i _ + Dt.sg ahead.length * Dt.sg i * ((Dt.at_ R l (cols[i]?.getD 0) : Int) : Rat) * ((Bs.val R ahead (Bs.out cols i) : Int) : Rat)
      rw [← h1, cd, z]
      show _ = _ + Dt.sg ahead.length * Dt.sg i * (0 : Rat) * _
      grind
    have e37 := e36.trans e7
    have e07 := e13.trans e37
    have o1 : (Sg.zs (Bs.out cols i)).map V.int = cutV ((Sg.zs cols).map V.int) none (some (i : Int)) ++ cutV ((Sg.zs cols).map V.int) (some ((i : Int) + 1)) none := by
      rw [cut_to (by rw [zl]; omega), show (i : Int) + 1 = ((i + 1 : Nat) : Int) by omega, cut_fr (by rw [zl]; omega), ← ztk, ← zdr, ← zap]
      rfl
    have kx : EvW (tOp (rCatA K) (tSl (rSlA K) (tVar 2) tNoPart (tPart (tVar 7))) (tSl (rSlA K) (tVar 2) (tPart (tOp (rI0 fun i j => .int (i + j)) (tVar 7) (tC (.int 1)))) tNoPart)) [some (.ref p), some (.ref r), some (.ref c), some (.ref d), some (.ref pa), some (.ref al), some (.int t), some (.int (i : Int)), some (.int (cj : Int)), some (.int (Dt.at_ R l cj)), y10] H7 ((Sg.zs (Bs.out cols i)).map V.int) := by
      rw [o1]
      refine ew_cat (ew_sl (ev_var rfl) eo_none (eo_some (ev_var rfl)) (e07 _ _ hc)) (ew_sl (ev_var rfl) (eo_some (ev_op (ev_var rfl) ev_c rv_I0)) eo_none (e07 _ _ hc)) ?_
      have a1 := cutV_length ((Sg.zs cols).map V.int) none (some (i : Int))
      have a2 := cutV_length ((Sg.zs cols).map V.int) (some ((i : Int) + 1)) none
      rw [zl] at a1 a2
      omega
    refine q_asg (v := .int (Dt.at_ R l cj * Bs.val R ahead (Bs.out cols i))) (ev_op (ev_var (i := 9) rfl) (ev_dgetN (ev_var (i := 3) rfl) (ew_var (i := 4) rfl ((e2.trans (e3.trans e37)) _ _ hpa)) kx (e07 _ _ hd) (hK.ex e07) hfi) (rv_I (be.mulOk hbi (by decide) (by omega) (by omega)))) fun H8 e8 => ?_
    have sgb : sgi ahead.length i = if (cols.length - i) % 2 = 1 then 1 else -1 := by
      unfold sgi
      rw [hcl]
    refine s_aug (a := t) (b := sgi ahead.length i * (Dt.at_ R l cj * Bs.val R ahead (Bs.out cols i))) rfl (ev_if (b := decide ((cols.length - i) % 2 = 1)) (et_is (et_test (ev_op (ev_op (ev_op (ev_is (ev_lenTu (ev_var (i := 2) rfl) (SqT.of ((e07.trans e8) _ _ hc))) (by rw [zl])) (ev_var (i := 7) rfl) rv_I0) ev_c (rv_I (by show (0 : Int) < 2; decide))) ev_c (rv_eq rfl))) ?_) (fun z => ?_) (fun z => ?_)) fun H9 e9 => ⟨_, _, _, _, _, rfl, e37.trans (e8.trans e9), ?_, ?_⟩
    · rw [decide_eq_decide]
      constructor
      · intro z
        have := V.int.inj z
        omega
      · intro z
        exact congrArg V.int (by omega)
    · rw [sgb, if_pos (of_decide_eq_true z), Int.one_mul]
      exact ev_var rfl
    · rw [sgb, if_neg (of_decide_eq_false z)]
      exact ev_is (ev_un (ev_var (i := 10) rfl) ru_neg) (by rw [Int.neg_mul, Int.one_mul])
    · show _ = Dt.sm i _ + Dt.sg ahead.length * Dt.sg i * ((Dt.at_ R l (cols[i]?.getD 0) : Int) : Rat) * ((Bs.val R ahead (Bs.out cols i) : Int) : Rat)
      rw [← h1, cd, Rat.intCast_add, Rat.intCast_mul, Rat.intCast_mul, sgi_eq (by omega)]
      grind
    · have b1 : Bd 1 (sgi ahead.length i) := by
        unfold sgi
        split <;> unfold Bd <;> decide
      exact (Bd.add (h2 : Bd (ahead.length * 112 + 102 + i) t) (((b1.mul (be.mul hbi))).mono (by omega))).mono (by omega)
-- DEF _law_source_of

def sp__law_source_of (K : PySem.W.Frag) : Sp := fun vs H Q _ => ∃ c : Int, vs = [.int c] ∧ ∀ (s : Addr) (H' : Hp), H s = none → Ex H H' → SrcAt H' s 0 → Q (.ref s) H'

theorem ok__law_source_of (T : Txt K mg) : FnOk P w K mg base CX0 1 T.f__law_source_of T.fd__law_source_of ["_law_cell"] (sp__law_source_of K) := by
  refine Fun.ok T.F__law_source_of sc__law_source_of (fun vs H Q E h => ?_) (fun cdv A outer s H vs Q E hr h => ?_)
  · obtain ⟨_, rfl, _⟩ := h; rfl
  · refine ⟨_, (pss_one (ps_ret (pe_lst (pa_cons (pe_op op_mul (pv 0) (pe_callTy (T := "int") call_int1 (by rfl) T.n_int (by decide +kernel) (pa_cons (pe_cmpR op_ge (pv 0) (pe_op op_pow pe_int pe_int) (nomark _)) pa_nil))) (pa_cons (pe_op op_mod (pv 0) pe_int) (pa_cons pe_int pa_nil)))))), ?_⟩
    obtain ⟨c, rfl, k⟩ := h
    refine ⟨_, rfl, _, rfl, _, _, rfl, rfl, ⟨by decide, by decide, by decide⟩, _, _, rfl, rfl, .inr ⟨_, rfl, _, _, rfl, rfl, .inr ?_, ?_⟩⟩
    · split <;> exact ⟨by decide, by decide⟩
    refine ⟨_, rfl, _, _, rfl, rfl, (by show (0 : Int) < 2147483647; decide), (by show 3 ≤ sizeLine; decide), fun s hs => ?_⟩
    exact k s _ hs (Ex.new hs) ⟨_, _, _, upd_same, Int.emod_nonneg _ (by decide), Int.emod_lt_of_pos _ (by decide), Int.le_refl _, Int.le_refl _⟩
-- DEF _law_next

def sp__law_next (K : PySem.W.Frag) : Sp := fun vs H Q _ => ∃ (s : Addr) (m n : Int), vs = [.ref s, .int m] ∧ SrcAt H s n ∧ n ≤ 1000000000 ∧ 0 < m ∧ Bd 8000 m ∧
  ∀ (f : Int) (H' : Hp), 0 ≤ f → f < m → ExB s H H' → SrcAt H' s (n + 1) → Q (.int f) H'

theorem ok__law_next (T : Txt K mg) : FnOk P w K mg base CX0 1 T.f__law_next T.fd__law_next ["_law_source", "_law_many"] (sp__law_next K) := by
  refine Fun.ok T.F__law_next sc__law_next (fun vs H Q E h => ?_) (fun cdv A outer s H vs Q E hr h => ?_)
  · obtain ⟨_, _, _, rfl, _⟩ := h; rfl
  · refine ⟨_, (pss_cons (ps_if (pt_cmpR op_gt (pe_ix (r := rIxL K) ix_list (pv 0) pe_int (fun _ _ => rfl)) pe_int (nomark _))
        (pss_cons (ps_set (i := 2) sc__law_next.nd rfl (by first | exact Or.inl rfl | exact Or.inr rfl) (pe_op op_mod (pe_ix (r := rIxL K) ix_list (pv 0) pe_int (fun _ _ => rfl)) (pv 1)))
          (pss_cons (ps_asg (pe_op op_fdivW (pe_ix (r := rIxL K) ix_list (pv 0) pe_int (fun _ _ => rfl)) (pv 1)) (pg_sub (pv 0) pe_int set_list))
          (pss_one (ps_ret (pv 2)))))
        pss_nil)
      (pss_cons (ps_asg (pe_op op_add (pe_ix (r := rIxL K) ix_list (pv 0) pe_int (fun _ _ => rfl)) pe_int) (pg_sub (pv 0) pe_int set_list))
      (pss_cons (ps_set (i := 3) sc__law_next.nd rfl (by first | exact Or.inl rfl | exact Or.inr rfl) (pe_ix (r := rIxL K) ix_list (pe_lst (pa_cons pe_int (pa_cons pe_int (pa_cons pe_int (pa_cons pe_int (pa_cons pe_int (pa_cons pe_int (pa_cons pe_int pa_nil)))))))) (pe_op op_mod (pe_ix (r := rIxL K) ix_list (pv 0) pe_int (fun _ _ => rfl)) pe_int) (fun _ _ => rfl)))
      (pss_cons (ps_set (i := 4) sc__law_next.nd rfl (by first | exact Or.inl rfl | exact Or.inr rfl) (pe_op op_mod (pe_op op_pow (pe_op op_add (pe_op op_add (pe_ix (r := rIxL K) ix_list (pv 0) pe_int (fun _ _ => rfl)) (pe_op op_mul pe_int (pe_ix (r := rIxL K) ix_list (pv 0) pe_int (fun _ _ => rfl)))) pe_int) pe_int) (pv 3)))
      (pss_cons (ps_set (i := 4) sc__law_next.nd rfl (by first | exact Or.inl rfl | exact Or.inr rfl) (pe_op op_mod (pe_op op_mul (pe_op op_add (pv 4) (pe_ix (r := rIxL K) ix_list (pv 0) pe_int (fun _ _ => rfl))) (pe_op op_add (pe_op op_fdiv (pv 4) pe_int) pe_int)) (pv 3)))
      (pss_one (ps_ret (pe_op op_mod (pe_op op_fdiv (pv 4) pe_int) (pv 1))))))))), ?_⟩
    obtain ⟨s, m, n, rfl, ⟨p, u, r, hs, hu0, hu1, hr0, hr1⟩, hn, hm, bm, k⟩ := h
    refine ⟨_, rfl, s, _, _, _, rfl, rfl, SqL.of hs, rfl, _, _, rfl, rfl, _, rfl, ?_⟩
    refine ite2 (fun hp => ?_) (fun _ => ?_)
    · refine ⟨_, rfl, s, _, _, _, rfl, rfl, SqL.of hs, rfl, _, rfl, _, _, rfl, rfl, hm, ?_⟩
      refine ⟨_, rfl, s, _, _, _, rfl, rfl, SqL.of hs, rfl, _, rfl, _, _, rfl, rfl, Bd.divOk hm (bm.mono (by decide : 8000 ≤ 9000)), ?_⟩
      refine ⟨_, rfl, s, _, _, 0, rfl, rfl, hs, rfl, ?_⟩
      refine ⟨_, rfl, ?_⟩
      exact k _ _ (Int.emod_nonneg _ (by omega)) (Int.emod_lt_of_pos _ hm) (ExB.upd _ _ _) ⟨_, _, _, upd_same, hu0, hu1, hr0, by omega⟩
    · refine ⟨_, rfl, s, _, _, _, rfl, rfl, SqL.of hs, rfl, _, _, rfl, rfl, ?_⟩
      refine ⟨_, rfl, s, _, _, 2, rfl, rfl, hs, rfl, ?_⟩
      have hs2 : upd H s (.lst [.int p, .int u, .int (r + 1)]) s = some (.lst [.int p, .int u, .int (r + 1)]) := upd_same
      show tSeq _ _ _ _ (upd H s (.lst [.int p, .int u, .int (r + 1)]))
      generalize hH : upd H s (.lst [.int p, .int u, .int (r + 1)]) = H2 at hs2 ⊢
      refine ⟨(by show 7 ≤ sizeLine; decide), fun l hl => ?_⟩
      have nls : s ≠ l := ne_of_none hs2 hl
      have hs3 : upd H2 l (.lst [V.int 2147483647, V.int 2147483629, V.int 2147483587, V.int 2147483579, V.int 2147483563, V.int 2147483549, V.int 2147483543]) s = some (.lst [.int p, .int u, .int (r + 1)]) := by
        rw [upd_ne nls]
        exact hs2
      obtain ⟨pr, hpr, hp0, hp1⟩ := prime_at (r + 1) (by omega)
      refine ⟨_, rfl, s, _, _, _, rfl, rfl, SqL.of hs3, rfl, _, _, rfl, rfl, (by show (0 : Int) < 7; decide), l, _, _, _, rfl, rfl, SqL.of upd_same, hpr, ?_⟩
      have eH : ExB s H2 (upd H2 l (.lst [V.int 2147483647, V.int 2147483629, V.int 2147483587, V.int 2147483579, V.int 2147483563, V.int 2147483549, V.int 2147483543])) := ExB.of (Ex.new hl)
      generalize upd H2 l (.lst [V.int 2147483647, V.int 2147483629, V.int 2147483587, V.int 2147483579, V.int 2147483563, V.int 2147483549, V.int 2147483543]) = H3 at hs3 eH ⊢
      -- figure
      refine ⟨_, rfl, s, _, _, _, rfl, rfl, SqL.of hs3, rfl, _, rfl, s, _, _, _, rfl, rfl, SqL.of hs3, rfl, _, _, rfl, rfl, .inl ⟨by decide, by decide⟩, _, _, rfl, rfl, _, _, rfl, rfl, _, _, rfl, rfl, ⟨by decide, by decide, ?_⟩, ?_⟩
      · show (u + 7919 * (r + 1) + 1).natAbs < 2 ^ 64
        omega
      refine ⟨_, rfl, _, _, rfl, rfl, hp0, ?_⟩
      have f0 : 0 ≤ (u + 7919 * (r + 1) + 1) ^ (5 : Int).toNat % pr := Int.emod_nonneg _ (by omega)
      have f1 : (u + 7919 * (r + 1) + 1) ^ (5 : Int).toNat % pr < pr := Int.emod_lt_of_pos _ hp0
      show tSeq _ _ _ [some (.ref s), some (.int m), _, some (.int pr), some (.int ((u + 7919 * (r + 1) + 1) ^ (5 : Int).toNat % pr))] _
      generalize (u + 7919 * (r + 1) + 1) ^ (5 : Int).toNat % pr = f at f0 f1 ⊢
      refine ⟨_, rfl, _, rfl, s, _, _, _, rfl, rfl, SqL.of hs3, rfl, _, _, rfl, rfl, ?_⟩
      refine ⟨_, rfl, _, _, rfl, rfl, ⟨by decide, by decide⟩, _, _, rfl, rfl, _, _, rfl, rfl, .inl ?_, ?_⟩
      · constructor <;> omega
      refine ⟨_, rfl, _, _, rfl, rfl, hp0, ?_⟩
      refine ⟨_, rfl, _, _, rfl, rfl, ⟨by decide, by decide⟩, _, rfl, _, _, rfl, rfl, hm, ?_⟩
      refine k _ _ (Int.emod_nonneg _ (by omega)) (Int.emod_lt_of_pos _ hm) (ExB.trans ?_ eH) ⟨_, _, _, hs3, hu0, hu1, by omega, by omega⟩
      rw [← hH]
      exact ExB.upd _ _ _
-- DEF _law_cell_at

def sp__law_cell_at (K : PySem.W.Frag) : Sp := fun vs H Q _ => ∃ (a : Addr) (ns : List Int) (k : Int), vs = [.ref a, .int k] ∧ SqL K H a (ns.map V.int) ∧ 0 ≤ k ∧ ∀ c : Int, Q (.int c) H

theorem ok__law_cell_at (T : Txt K mg) : FnOk P w K mg base CX0 1 T.f__law_cell_at T.fd__law_cell_at ["_law_script", "_law_k"] (sp__law_cell_at K) := by
  refine Fun.ok T.F__law_cell_at sc__law_cell_at (fun vs H Q E h => ?_) (fun cdv A outer s H vs Q E hr h => ?_)
  · obtain ⟨_, _, _, rfl, _⟩ := h; rfl
  · refine ⟨_, (pss_cons (ps_if (pt_cmpR op_lt (pv 1) (pe_callB (id := "len") (r := rLenS K) call_len_seq (by rfl) T.n_len PySem.boot_len (pa_cons (pv 0) pa_nil)) (nomark _))
        (pss_one (ps_ret (pe_ix (r := rIxL K) ix_list (pv 0) (pv 1) (fun _ _ => rfl))))
        pss_nil)
      (pss_one (ps_ret pe_int))), ?_⟩
    obtain ⟨a, ns, k, rfl, hS, hk, q⟩ := h
    refine ⟨_, rfl, _, rfl, a, _, rfl, .inl hS, _, _, rfl, rfl, _, rfl, ?_⟩
    refine ite2 (fun hp => ?_) (fun _ => q 0)
    have hlt : k < ((ns.map V.int).length : Int) := of_decide_eq_true hp
    rw [List.length_map] at hlt
    have hn : k.toNat < ns.length := by omega
    have g : (ns.map V.int)[k.toNat]? = some (.int ns[k.toNat]) := by
      rw [List.getElem?_map, List.getElem?_eq_getElem hn]
      rfl
    refine ⟨_, rfl, _, rfl, a, _, k, _, rfl, rfl, hS, at_of (j := k.toNat) (by omega) g, ?_⟩
    exact q _
-- DEF _law_net

def sp__law_net (K : PySem.W.Frag) : Sp := fun vs H Q _ => ∃ (pE pA : Addr) (as bs : List Addr) (es qs : List (Int × Int)) (m : Nat), vs = [.ref pE, .ref pA] ∧ es.length = m ∧ 1 ≤ m ∧ m ≤ 8 ∧ H pE = some (.lst (as.map V.ref)) ∧ EdgesAt H as es ∧ H pA = some (.lst (bs.map V.ref)) ∧ EdgesAt H bs qs ∧ qs.length ≤ 8 ∧
  (∀ e ∈ es, 0 ≤ e.1 ∧ e.1 ≤ m ∧ 0 ≤ e.2 ∧ e.2 ≤ m) ∧ (∀ e ∈ qs, 0 ≤ e.1 ∧ e.1 ≤ m ∧ 0 ≤ e.2 ∧ e.2 ≤ m) ∧ Conn es m ∧
  ∀ (rs : List Addr) (rows : List (List Int)) (p : Addr) (H' : Hp), H p = none → (∀ a ∈ rs, H a = none) → rs.Nodup → p ∉ rs → Ex H H' → Tab H' p rs rows → rows.length = m → (∀ r ∈ rows, r.length = qs.length ∧ ∀ y ∈ r, y.natAbs ≤ 100) → Q (.ref p) H'

theorem ok__law_net (T : Txt K mg) : FnOk P w K mg base CX0 1 T.f__law_net T.fd__law_net ["_law_ends_here", "_law_arcs"] (sp__law_net K) := by
  refine Fun.ok T.F__law_net sc__law_net (fun vs H Q E h => ?_) (fun cdv A outer s H vs Q E hr h => ?_)
  · obtain ⟨_, _, _, _, _, _, _, rfl, _⟩ := h; rfl
  · refine ⟨_, (pss_cons (ps_set (i := 2) sc__law_net.nd rfl (by first | exact Or.inl rfl | exact Or.inr rfl) (pe_disp (pps_cons (pe_ix (r := rIxT K) ix_tup (pe_ix (r := rIxL K) ix_list (pv 0) pe_int (fun _ _ => rfl)) pe_int (fun _ _ => rfl)) (pe_op op_rep (pe_lst (pa_cons pe_int pa_nil)) (pe_callB (id := "len") (r := rLenS K) call_len_seq (by rfl) T.n_len PySem.boot_len (pa_cons (pv 0) pa_nil))) pps_nil) (by rfl) (by rfl) (fun z => by cases z) (by decide)))
      (pss_cons (ps_while PassesOwn.never (pt_cmpR op_le (pe_callB (id := "len") call_lenD (by rfl) T.n_len PySem.boot_len (pa_cons (pv 2) pa_nil)) (pe_callB (id := "len") (r := rLenS K) call_len_seq (by rfl) T.n_len PySem.boot_len (pa_cons (pv 0) pa_nil)) (nomark _))
        (pss_one (ps_for PassesOwn.never rfl (pi_enum (by rfl) T.n_enumerate (pa_cons (pv 0) pa_nil)) (pg_tup rfl (pgs_cons (pg_name (i := 3) sc__law_net.nd rfl (by first | exact Or.inl rfl | exact Or.inr rfl)) (pgs_cons (pg_tup rfl (pgs_cons (pg_name (i := 4) sc__law_net.nd rfl (by first | exact Or.inl rfl | exact Or.inr rfl)) (pgs_cons (pg_name (i := 5) sc__law_net.nd rfl (by first | exact Or.inl rfl | exact Or.inr rfl)) pgs_nil))) pgs_nil)))
            (pss_cons (ps_setLc (i := 6) (own := [("_law_other", 7)]) (g := gName 7) (tt := tYes) rfl sc__law_net.nd rfl rfl (sw_true rfl rfl rfl (by decide +kernel)) (pi_range1 (by rfl) T.n_range (pa_cons (pe_callB (id := "len") (r := rLenS K) call_len_seq (by rfl) T.n_len PySem.boot_len (pa_cons (pv 0) pa_nil)) pa_nil)) (blkOk_by (N := ["_law_ends_here", "_law_arcs", "_law_far", "_law_k", "_law_begin", "_law_goal", "_law_step", "_law_other", "_law_a", "_law_b"]) (sc := (defScope s__law_net)) (by decide +kernel)) (fun _ _ _ _ _ => pg_name (i := 7) sc__law_net.nd rfl (Or.inl rfl)) (fun _ _ _ _ _ => pts_nil) (fun _ _ _ _ _ => (pe_callTy (T := "int") call_int1 (by rfl) T.n_int (by decide +kernel) (pa_cons (pe_cmpR op_eq (pv 3) (pv 7) (nomark _)) pa_nil))))
              (pss_one (ps_if (PW.pt (pw_and (pt_cmp (pc_din (hu_of hr) (pv 4) (pv 2))) (pw_and1 (pt_cmp (pc_dnotin (hu_of hr) (pv 5) (pv 2))))))
                (pss_one (ps_dput (hu_of hr) (pv 2) (pv 5) (pe_lc (own := [("_law_a", 8), ("_law_b", 9)]) (wi := iZip K _) (g := gTup K 2 (gCons (gName 8) (gCons (gName 9) gNil))) (tt := tYes) rfl sc__law_net.nd (pi_zip (by rfl) T.n_zip (pa_cons (pe_dget (hu_of hr) (pv 2) (pv 4) (fun _ _ => rfl)) (pa_cons (pv 6) pa_nil))) (blkOk_by (N := ["_law_ends_here", "_law_arcs", "_law_far", "_law_k", "_law_begin", "_law_goal", "_law_step", "_law_other", "_law_a", "_law_b"]) (sc := (defScope s__law_net)) (by decide +kernel)) (fun _ _ _ _ _ => (pg_tup rfl (pgs_cons (pg_name (i := 8) sc__law_net.nd rfl (Or.inl rfl)) (pgs_cons (pg_name (i := 9) sc__law_net.nd rfl (Or.inl rfl)) pgs_nil)))) (fun _ _ _ _ _ => pts_nil) (fun _ _ _ _ _ => (pe_op op_add (pv 8) (pv 9)))) rfl))
                (pss_one (ps_if (PW.pt (pw_and (pt_cmp (pc_din (hu_of hr) (pv 5) (pv 2))) (pw_and1 (pt_cmp (pc_dnotin (hu_of hr) (pv 4) (pv 2))))))
                    (pss_one (ps_dput (hu_of hr) (pv 2) (pv 4) (pe_lc (own := [("_law_a", 8), ("_law_b", 9)]) (wi := iZip K _) (g := gTup K 2 (gCons (gName 8) (gCons (gName 9) gNil))) (tt := tYes) rfl sc__law_net.nd (pi_zip (by rfl) T.n_zip (pa_cons (pe_dget (hu_of hr) (pv 2) (pv 5) (fun _ _ => rfl)) (pa_cons (pv 6) pa_nil))) (blkOk_by (N := ["_law_ends_here", "_law_arcs", "_law_far", "_law_k", "_law_begin", "_law_goal", "_law_step", "_law_other", "_law_a", "_law_b"]) (sc := (defScope s__law_net)) (by decide +kernel)) (fun _ _ _ _ _ => (pg_tup rfl (pgs_cons (pg_name (i := 8) sc__law_net.nd rfl (Or.inl rfl)) (pgs_cons (pg_name (i := 9) sc__law_net.nd rfl (Or.inl rfl)) pgs_nil)))) (fun _ _ _ _ _ => pts_nil) (fun _ _ _ _ _ => (pe_op op_sub (pv 8) (pv 9)))) rfl))
                    pss_nil))))))))
      (pss_one (ps_ret (pe_lc (own := [("_law_k", 3)]) (g := gName 3) (tt := tYes) rfl sc__law_net.nd (pi_range1 (by rfl) T.n_range (pa_cons (pe_callB (id := "len") (r := rLenS K) call_len_seq (by rfl) T.n_len PySem.boot_len (pa_cons (pv 0) pa_nil)) pa_nil)) (blkOk_by (N := ["_law_ends_here", "_law_arcs", "_law_far", "_law_k", "_law_begin", "_law_goal", "_law_step", "_law_other", "_law_a", "_law_b"]) (sc := (defScope s__law_net)) (by decide +kernel)) (fun _ _ _ _ _ => pg_name (i := 3) sc__law_net.nd rfl (Or.inr rfl)) (fun _ _ _ _ _ => pts_nil) (fun _ _ _ _ _ => (pe_lc (own := [("_law_begin", 4), ("_law_goal", 5)]) (wi := iList K _) (g := gTup K 2 (gCons (gName 4) (gCons (gName 5) gNil))) (tt := tYes) rfl sc__law_net.nd (pi_list (pv 1)) (blkOk_by (N := ["_law_ends_here", "_law_arcs", "_law_far", "_law_k", "_law_begin", "_law_goal", "_law_step", "_law_other", "_law_a", "_law_b"]) (sc := (relS ({ kind := .function, names := [(".0", .local), ("_law_k", .cell), ("_law_arcs", .free), ("_law_far", .free)], isGenerator := false, isCoroutine := false } : Scope) (defScope s__law_net))) (by decide +kernel)) (fun _ _ _ _ _ => (pg_tup rfl (pgs_cons (pg_name (i := 4) sc__law_net.nd rfl (Or.inl rfl)) (pgs_cons (pg_name (i := 5) sc__law_net.nd rfl (Or.inl rfl)) pgs_nil)))) (fun _ _ _ _ _ => pts_nil) (fun _ _ _ _ _ => (pe_op op_sub (pe_ix (r := rIxL K) ix_list (pe_dget (hu_of hr) (pv 2) (pv 5) (fun _ _ => rfl)) (pv 3) (fun _ _ => rfl)) (pe_ix (r := rIxL K) ix_list (pe_dget (hu_of hr) (pv 2) (pv 4) (fun _ _ => rfl)) (pv 3) (fun _ _ => rfl))))))))))), ?_⟩
    obtain ⟨pE, pA, as, bs, es, qs, m, rfl, hes, hm1, hm8, hE, hEE, hA, hAE, hq8, he0, hq0, hC, k⟩ := h
    have hal : as.length = m := by rw [Paired.length hEE, hes]
    -- far
    obtain ⟨a0, as', rfl⟩ : ∃ a0 as', as = a0 :: as' := by
      cases as with
      | nil => simp at hal; omega
      | cons a r => exact ⟨a, r, rfl⟩
    obtain ⟨e0, es', rfl, h00⟩ : ∃ e0 es', es = e0 :: es' ∧ H a0 = some (.tup [.int e0.1, .int e0.2]) := by
      cases hEE with
      | cons g t => exact ⟨_, _, rfl, g⟩
    have hE0 := he0 e0 (List.mem_cons_self ..)
    refine fun d nd => ?_
    have x0 : Ex H (upd H d (.dK [])) := Ex.new nd
    refine ⟨_, rfl, pE, _, 0, _, rfl, rfl, SqL.of (x0 _ _ hE), atI_nat (j := 0) rfl, a0, _, 0, _, rfl, rfl, SqT.of (x0 _ _ h00), rfl, ?_⟩
    refine ⟨Nat.le_of_ble_eq_true rfl, fun z1 nz1 => ?_⟩
    have x1 : Ex (upd H d (.dK [])) (upd (upd H d (.dK [])) z1 (.lst [.int 0])) := Ex.new nz1
    refine ⟨_, rfl, pE, _, rfl, .inl (SqL.of ((x0.trans x1) _ _ hE)), z1, _, _, rfl, rfl, upd_same, ?_, ?_, ?_, fun z2 nz2 => ?_⟩
    · rw [List.length_map, hal]; omega
    · rw [List.length_map, hal]; omega
    · rw [List.length_map, hal]
      exact sz_of (by simp; omega)
    have zz : (List.replicate (((a0 :: as').map V.ref).length : Int).toNat [V.int 0]).flatten = (List.replicate m 0).map V.int := by
      rw [List.length_map, hal, Int.toNat_natCast]
      exact rep_flat m
    rw [zz]
    have x2 : Ex (upd (upd H d (.dK [])) z1 (.lst [.int 0])) (upd (upd (upd H d (.dK [])) z1 (.lst [.int 0])) z2 (.lst ((List.replicate m 0).map V.int))) := Ex.new nz2
    have hd2 := (x1.trans x2) _ _ (upd_same (H := H) (a := d) (o := .dK []))
    refine ⟨hd2, [(Sum.inl e0.1, .ref z2)], rfl, Nat.le_of_ble_eq_true rfl, ?_⟩
    have xa := (x0.trans x1).trans x2
    have hz2 : upd (upd (upd H d (.dK [])) z1 (.lst [.int 0])) z2 (.lst ((List.replicate m 0).map V.int)) z2 = some (.lst ((List.replicate m 0).map V.int)) := upd_same
    generalize upd (upd (upd H d (.dK [])) z1 (.lst [.int 0])) z2 (.lst ((List.replicate m 0).map V.int)) = H2 at hd2 xa hz2 ⊢
    clear x0 x1 x2 nz1 nz2 zz
    have z2d : z2 ≠ d := ne_of hz2 hd2 (by intro z; cases z)
    have F0 : FarOk (upd H2 d (.dK (mergeK [] [(Sum.inl e0.1, .ref z2)]))) d m [(Sum.inl e0.1, .ref z2)] [e0.1] := by
      refine ⟨upd_same, rfl, by simp, fun x hx => ?_, fun x v hv => ?_⟩
      · have : x = e0.1 := by simpa using hx
        rw [this]
        exact ⟨hE0.1, hE0.2.1⟩
      · have hx : x = e0.1 ∧ v = .ref z2 := by
          by_cases h : (Sum.inl e0.1 : Key) = Sum.inl x
          · rw [valV_pos (p := (Sum.inl e0.1, V.ref z2)) h] at hv
            exact ⟨(Sum.inl.inj h).symm, (Option.some.inj hv).symm⟩
          · have : valV [((Sum.inl e0.1 : Key), V.ref z2)] (Sum.inl x : Key) = none := by simp [valV, List.find?_cons, h]
            rw [this] at hv
            cases hv
        obtain ⟨_, rfl⟩ := hx
        refine ⟨z2, List.replicate m 0, rfl, ?_, List.length_replicate, fun y hy => ?_⟩
        · rw [upd_ne z2d]
          exact hz2
        · rw [List.eq_of_mem_replicate hy]
          exact Nat.zero_le _
    have XB : ExB d H (upd H2 d (.dK (mergeK [] [(Sum.inl e0.1, .ref z2)]))) := Ex.updB xa
    have ndl : ∀ {b : Addr} {o : HO}, H b = some o → b ≠ d := fun g => ne_of_none g nd
    generalize upd H2 d (.dK (mergeK [] [(Sum.inl e0.1, .ref z2)])) = H3 at F0 XB
    clear hz2 hd2 xa
    -- the loop
    refine ⟨fun μ σ H' => ∃ (y3 y4 y5 y6 y7 y8 y9 : Option V) (kvs : List (Key × V)) (L : List Int), σ = [some (.ref pE), some (.ref pA), some (.ref d), y3, y4, y5, y6, y7, y8, y9] ∧ μ = m + 1 - L.length ∧ ExB d H H' ∧ FarOk H' d m kvs L ∧ 1 ≤ L.length,
      ⟨m, _, _, _, _, _, _, _, _, _, rfl, rfl, XB, F0, Nat.le_refl 1⟩, ?_⟩
    rintro μ σ H4 ⟨y3, y4, y5, y6, y7, y8, y9, kvs, L, rfl, rfl, e4, F4, hL1⟩
    refine ⟨_, rfl, d, kvs, rfl, F4.at_, _, rfl, pE, _, rfl, .inl (SqL.of (e4 _ _ (ndl hE) hE)), _, _, rfl, rfl, _, rfl, ?_⟩
    rw [F4.len, List.length_map, hal]
    refine ite2 (fun hc => ?_) (fun hc => ?_)
    · have hLm : L.length ≤ m := by have := of_decide_eq_true hc; omega
      refine ⟨fun σ' H' => ∃ (y3 y4 y5 y6 y7 y8 y9 : Option V) (kvs' : List (Key × V)) (L' : List Int), σ' = [some (.ref pE), some (.ref pA), some (.ref d), y3, y4, y5, y6, y7, y8, y9] ∧ L.length < L'.length ∧ ExB d H H' ∧ FarOk H' d m kvs' L',
        fun σ' H' ⟨z3, z4, z5, z6, z7, z8, z9, kvs', L', a1, a2, a3, a4⟩ => ⟨m + 1 - L'.length, by omega, z3, z4, z5, z6, z7, z8, z9, kvs', L', a1, rfl, a3, a4, by omega⟩, ?_⟩
      refine ⟨_, rfl, pE, _, rfl, SqL.of (e4 _ _ (ndl hE) hE), for_enum (xs := (a0 :: as').map V.ref) (fun i σ' H' => ∃ (y3 y4 y5 y6 y7 y8 y9 : Option V) (kvs' : List (Key × V)) (L' : List Int), σ' = [some (.ref pE), some (.ref pA), some (.ref d), y3, y4, y5, y6, y7, y8, y9] ∧ ExB d H H' ∧ FarOk H' d m kvs' L' ∧
        (L.length < L'.length ∨ (L' = L ∧ ∀ j, j < i → ∀ e, (e0 :: es')[j]? = some e → (e.1 ∈ L ↔ e.2 ∈ L)))) ?_ (fun i σ' H' ⟨_, _, _, _, _, _, _, _, _, _, x, _, _⟩ => SqL.of (x _ _ (ndl hE) hE)) ?_ ?_⟩
      · exact ⟨_, _, _, _, _, _, _, _, _, rfl, e4, F4, .inr ⟨rfl, fun j hj => absurd hj (Nat.not_lt_zero _)⟩⟩
      · rintro i x T σ' H5 hi ⟨z3, z4, z5, z6, z7, z8, z9, kvs', L', rfl, e5, F5, hor⟩ nT
        rw [List.getElem?_map] at hi
        obtain ⟨ai, hai, rfl⟩ := Option.map_eq_some_iff.mp hi
        obtain ⟨ei, hei, hti⟩ := paired_get hEE hai
        have xT : Ex H5 (upd H5 T (.tup [.int (i : Nat), .ref ai])) := Ex.new nT
        have mi := he0 ei (List.mem_of_getElem? hei)
        refine ⟨T, _, rfl, SqT.of upd_same, rfl, _, _, rfl, _, _, rfl, ⟨ai, _, rfl, SqT.of (xT _ _ (e5 _ _ (ndl hti) hti)), rfl, _, _, rfl, _, _, rfl, rfl, rfl, ?_⟩⟩
        have F6 := F5.ex xT
        have e6 : ExB d H (upd H5 T (.tup [.int (i : Nat), .ref ai])) := e5.trans (ExB.of xT)
        generalize upd H5 T (.tup [.int (i : Nat), .ref ai]) = H6 at F6 e6 ⊢
        -- step
        have Est : EvL (tLc (iRng1 (tCons (tCB (rLenS K) (tCons (tVar 0) tNil)) tNil)) (gName 7) tYes (tCB (fun xs H Q => (∃ i, xs = [V.int i] ∧ Q (V.int i) H) ∨ ∃ k, xs = [V.bl k] ∧ Q (V.int (if k = true then 1 else 0)) H) (tCons (tOp rEq (tVar 3) (tVar 7)) tNil)) [7])
            [some (.ref pE), some (.ref pA), some (.ref d), some (.int (i : Nat)), some (.int ei.1), some (.int ei.2), z6, z7, z8, z9] H6 (((List.range m).map fun o => if decide (V.int (i : Nat) = V.int (o : Nat)) = true then (1 : Int) else 0).map V.int) := by
          have g := el_lcR1 (t := tYes) (te := tCB (fun xs H Q => (∃ i, xs = [V.int i] ∧ Q (V.int i) H) ∨ ∃ k, xs = [V.bl k] ∧ Q (V.int (if k = true then 1 else 0)) H) (tCons (tOp rEq (tVar 3) (tVar 7)) tNil)) (j := 7) (vs := [7]) (σ := [some (.ref pE), some (.ref pA), some (.ref d), some (.int (i : Nat)), some (.int ei.1), some (.int ei.2), z6, z7, z8, z9]) (H := H6) (n := (m : Int)) (ta := tCons (tCB (rLenS K) (tCons (tVar 0) tNil)) tNil)
            (fun _ => true) (fun o => .int (if decide (V.int (i : Nat) = V.int (o : Nat)) = true then 1 else 0)) (ea_cons (ev_is (ev_len (ev_var rfl) (SqL.of (e6 _ _ (ndl hE) hE))) (by rw [List.length_map, hal])) ea_nil) (by omega) (fun x => rfl) (fun o H1 e ho Hx ex Qx qx => qx Hx (Ex.refl _)) (fun o H1 e ho hf H2 e2 Q2 q2 => ⟨_, rfl, _, rfl, rfl, .inr ⟨_, rfl, q2 H2 (Ex.refl _)⟩⟩)
          have eg : given (m : Int).toNat (fun _ => true) (fun o => V.int (if decide (V.int (i : Nat) = V.int (o : Nat)) = true then 1 else 0)) = ((List.range m).map fun o => if decide (V.int (i : Nat) = V.int (o : Nat)) = true then (1 : Int) else 0).map V.int := by
            unfold given
            rw [Int.toNat_natCast, List.filter_eq_self.mpr (fun _ _ => rfl), List.map_map]
            rfl
          rw [eg] at g
          exact g
        refine q_asgL Est fun st H7 _ e7 hst => ?_
        have F7 := F6.ex e7
        have e07 := e6.trans (ExB.of e7)
        have stb : ∀ y ∈ (List.range m).map fun o => if decide (V.int (i : Nat) = V.int (o : Nat)) = true then (1 : Int) else 0, y = 0 ∨ y = 1 := by
          intro y hy
          obtain ⟨o, _, rfl⟩ := List.mem_map.mp hy
          split
          · exact .inr rfl
          · exact .inl rfl
        have stl : ((List.range m).map fun o => if decide (V.int (i : Nat) = V.int (o : Nat)) = true then (1 : Int) else 0).length = m := by
          rw [List.length_map, List.length_range]
        generalize ((List.range m).map fun o => if decide (V.int (i : Nat) = V.int (o : Nat)) = true then (1 : Int) else 0) = sl at hst stb stl
        -- the ifs
        have nxt : ∀ H', ExB d H H' → FarOk H' d m kvs' L' → (ei.1 ∈ L' ↔ ei.2 ∈ L') → ∃ (y3 y4 y5 y6 y7 y8 y9 : Option V) (kvs' : List (Key × V)) (L' : List Int), [some (V.ref pE), some (.ref pA), some (.ref d), some (.int (i : Nat)), some (.int ei.1), some (.int ei.2), some (.ref st), z7, z8, z9] = [some (.ref pE), some (.ref pA), some (.ref d), y3, y4, y5, y6, y7, y8, y9] ∧ ExB d H H' ∧ FarOk H' d m kvs' L' ∧
            (L.length < L'.length ∨ (L' = L ∧ ∀ j, j < i + 1 → ∀ e, (e0 :: es')[j]? = some e → (e.1 ∈ L ↔ e.2 ∈ L))) := by
          intro H' x1 x2 x3
          refine ⟨_, _, _, _, _, _, _, kvs', L', rfl, x1, x2, ?_⟩
          rcases hor with h | ⟨rfl, h⟩
          · exact .inl h
          · refine .inr ⟨rfl, fun j hj e he => ?_⟩
            by_cases hji : j < i
            · exact h j hji e he
            · have : j = i := by omega
              subst this
              rw [hei] at he
              have := Option.some.inj he
              rw [← this]
              exact x3
        have grow : ∀ (x : Int) (a : Addr) (ns : List Int) (H' : Hp), ExB d H H' → FarOk H' d m kvs' L' → x ∉ L' → 0 ≤ x ∧ x ≤ m → H' a = some (.lst (ns.map V.int)) → ns.length = m → (∀ y ∈ ns, y.natAbs ≤ L'.length + 1) → ∃ (y3 y4 y5 y6 y7 y8 y9 : Option V) (kvs2 : List (Key × V)) (L2 : List Int), [some (V.ref pE), some (.ref pA), some (.ref d), some (.int (i : Nat)), some (.int ei.1), some (.int ei.2), some (.ref st), z7, z8, z9] = [some (.ref pE), some (.ref pA), some (.ref d), y3, y4, y5, y6, y7, y8, y9] ∧ ExB d H (upd H' d (.dK (putK kvs' (Sum.inl x) (.ref a)))) ∧ FarOk (upd H' d (.dK (putK kvs' (Sum.inl x) (.ref a)))) d m kvs2 L2 ∧
            (L.length < L2.length ∨ (L2 = L ∧ ∀ j, j < i + 1 → ∀ e, (e0 :: es')[j]? = some e → (e.1 ∈ L ↔ e.2 ∈ L))) := by
          intro x a ns H' x1 x2 x3 x4 x5 x6 x7
          refine ⟨_, _, _, _, _, _, _, _, L' ++ [x], rfl, x1.trans (ExB.upd _ _ _), x2.put x3 x4 x5 x6 x7, .inl ?_⟩
          rw [List.length_append]
          simp only [List.length_cons, List.length_nil]
          rcases hor with h | ⟨rfl, _⟩ <;> omega
        have hkv : kvs'.length < sizeLine := small1000 (by have := F7.len; have := F7.le; omega)
        show tIfS _ _ _ _ [some (V.ref pE), some (.ref pA), some (.ref d), some (.int (i : Nat)), some (.int ei.1), some (.int ei.2), some (.ref st), z7, z8, z9] H7
        refine ⟨_, rfl, _, rfl, d, _, rfl, DGet.k (k := Sum.inl ei.1) F7.at_, _, rfl, ?_⟩
        rw [F7.some_ ei.1]
        have snd : (∀ H', Ex H7 H' → ei.1 ∉ L' ∨ ei.2 ∈ L' → tIfS (tAnd (tB (tDIn (tVar 5) (tVar 2))) (tB (tDNotIn (tVar 4) (tVar 2)))) (sDPut (tVar 2) (tVar 4) (tLc (iZip K (tCons (tDGet (tVar 2) (tVar 5)) (tCons (tVar 6) tNil))) (g2 K 8 9) tYes (tOp (rI0 fun i j => V.int (i - j)) (tVar 8) (tVar 9)) [8, 9])) tNext
            { nx := fun σ' H' => ∃ (y3 y4 y5 y6 y7 y8 y9 : Option V) (kvs' : List (Key × V)) (L' : List Int), σ' = [some (.ref pE), some (.ref pA), some (.ref d), y3, y4, y5, y6, y7, y8, y9] ∧ ExB d H H' ∧ FarOk H' d m kvs' L' ∧ (L.length < L'.length ∨ (L' = L ∧ ∀ j, j < i + 1 → ∀ e, (e0 :: es')[j]? = some e → (e.1 ∈ L ↔ e.2 ∈ L))), rt := Q,
              bk := fun σ' H' => ∃ (y3 y4 y5 y6 y7 y8 y9 : Option V) (kvs' : List (Key × V)) (L' : List Int), σ' = [some (.ref pE), some (.ref pA), some (.ref d), y3, y4, y5, y6, y7, y8, y9] ∧ L.length < L'.length ∧ ExB d H H' ∧ FarOk H' d m kvs' L',
              ct := fun σ' H' => ∃ (y3 y4 y5 y6 y7 y8 y9 : Option V) (kvs' : List (Key × V)) (L' : List Int), σ' = [some (.ref pE), some (.ref pA), some (.ref d), y3, y4, y5, y6, y7, y8, y9] ∧ ExB d H H' ∧ FarOk H' d m kvs' L' ∧ (L.length < L'.length ∨ (L' = L ∧ ∀ j, j < i + 1 → ∀ e, (e0 :: es')[j]? = some e → (e.1 ∈ L ↔ e.2 ∈ L))) }
            [some (V.ref pE), some (.ref pA), some (.ref d), some (.int (i : Nat)), some (.int ei.1), some (.int ei.2), some (.ref st), z7, z8, z9] H') := by
          intro H' x1 hno
          have F8 := F7.ex x1
          have e8 := e07.trans (ExB.of x1)
          refine ⟨_, rfl, _, rfl, d, _, rfl, DGet.k (k := Sum.inl ei.2) F8.at_, _, rfl, ?_⟩
          rw [F8.some_ ei.2]
          by_cases h2 : ei.2 ∈ L'
          · rw [decide_eq_true h2]
            refine iteT ?_
            refine ⟨_, rfl, _, rfl, d, _, rfl, DGet.k (k := Sum.inl ei.1) F8.at_, _, rfl, ?_⟩
            rw [F8.some_ ei.1]
            by_cases h1 : ei.1 ∈ L'
            · rw [decide_eq_true h1]
              exact iteF (nxt _ e8 F8 ⟨fun _ => h2, fun _ => h1⟩)
            · rw [decide_eq_false h1]
              refine iteT ?_
              obtain ⟨ar, ns, hv, har, hnl, hnb⟩ := F8.get h2
              refine el_zip (K := K) (f := fun i j => i - j) (xs := ns) (ys := sl) (ea_cons (ev_dget rfl rfl F8.at_ hv) (ea_cons (ev_var rfl) ea_nil)) (SqL.of har) (SqL.of (x1 _ _ hst)) (by rw [hnl, stl]) (by omega) (fun u v => rfl) (fun x y H1 _ _ _ => ev_op (ev_var rfl) (ev_var rfl) rv_I0) H' (Ex.refl _) _ fun r H9 nr e9 hr => ?_
              have F9 := F8.ex e9
              refine ⟨_, rfl, _, rfl, d, _, rfl, DPut.k (k := Sum.inl ei.1) F9.at_ hkv, ?_⟩
              refine grow _ r _ H9 (e8.trans (ExB.of e9)) F9 h1 ⟨mi.1, mi.2.1⟩ hr (by rw [List.length_zipWith]; omega) fun y hy => ?_
              obtain ⟨u, v, hu, hv', rfl⟩ : ∃ u v, u ∈ ns ∧ v ∈ sl ∧ u - v = y := by
                obtain ⟨j, hj⟩ := List.getElem?_of_mem hy
                rw [List.getElem?_zipWith] at hj
                cases h3 : ns[j]? with
                | none => rw [h3] at hj; simp at hj
                | some u =>
                  cases h4 : sl[j]? with
                  | none => rw [h3, h4] at hj; simp at hj
                  | some v =>
                    rw [h3, h4] at hj
                    exact ⟨u, v, List.mem_of_getElem? h3, List.mem_of_getElem? h4, Option.some.inj hj⟩
              have b1 := hnb u hu
              rcases stb v hv' with rfl | rfl <;> omega
          · rw [decide_eq_false h2]
            refine iteF ?_
            have h1 : ei.1 ∉ L' := hno.resolve_right h2
            exact nxt _ e8 F8 ⟨fun z => absurd z h1, fun z => absurd z h2⟩
        by_cases h1 : ei.1 ∈ L'
        · rw [decide_eq_true h1]
          refine iteT ?_
          refine ⟨_, rfl, _, rfl, d, _, rfl, DGet.k (k := Sum.inl ei.2) F7.at_, _, rfl, ?_⟩
          rw [F7.some_ ei.2]
          by_cases h2 : ei.2 ∈ L'
          · rw [decide_eq_true h2]
            exact iteF (snd H7 (Ex.refl _) (.inr h2))
          · rw [decide_eq_false h2]
            refine iteT ?_
            obtain ⟨ar, ns, hv, har, hnl, hnb⟩ := F7.get h1
            refine el_zip (K := K) (f := fun i j => i + j) (xs := ns) (ys := sl) (ea_cons (ev_dget rfl rfl F7.at_ hv) (ea_cons (ev_var rfl) ea_nil)) (SqL.of har) (SqL.of hst) (by rw [hnl, stl]) (by omega) (fun u v => rfl) (fun x y H1 _ _ _ => ev_op (ev_var rfl) (ev_var rfl) rv_I0) H7 (Ex.refl _) _ fun r H9 nr e9 hr => ?_
            have F9 := F7.ex e9
            refine ⟨_, rfl, _, rfl, d, _, rfl, DPut.k (k := Sum.inl ei.2) F9.at_ hkv, ?_⟩
            refine grow _ r _ H9 (e07.trans (ExB.of e9)) F9 h2 ⟨mi.2.2.1, mi.2.2.2⟩ hr (by rw [List.length_zipWith]; omega) fun y hy => ?_
            obtain ⟨u, v, hu, hv', rfl⟩ : ∃ u v, u ∈ ns ∧ v ∈ sl ∧ u + v = y := by
              obtain ⟨j, hj⟩ := List.getElem?_of_mem hy
              rw [List.getElem?_zipWith] at hj
              cases h3 : ns[j]? with
              | none => rw [h3] at hj; simp at hj
              | some u =>
                cases h4 : sl[j]? with
                | none => rw [h3, h4] at hj; simp at hj
                | some v =>
                  rw [h3, h4] at hj
                  exact ⟨u, v, List.mem_of_getElem? h3, List.mem_of_getElem? h4, Option.some.inj hj⟩
            have b1 := hnb u hu
            rcases stb v hv' with rfl | rfl <;> omega
        · rw [decide_eq_false h1]
          exact iteF (snd H7 (Ex.refl _) (.inl h1))
      · rintro σ' H5 ⟨z3, z4, z5, z6, z7, z8, z9, kvs', L', rfl, e5, F5, hor⟩
        refine ⟨z3, z4, z5, z6, z7, z8, z9, kvs', L', rfl, ?_, e5, F5⟩
        rcases hor with h | ⟨rfl, h⟩
        · exact h
        · exfalso
          rw [List.length_map, hal] at h
          obtain ⟨x0, hx0⟩ : ∃ x0, x0 ∈ L' := by
            cases L' with
            | nil => simp at hL1
            | cons x r => exact ⟨x, List.mem_cons_self ..⟩
          have hS := hC (fun x => decide (x ∈ L')) (fun e he => by
            obtain ⟨j, hj⟩ := List.getElem?_of_mem he
            have := h j (by have := (List.getElem?_eq_some_iff.mp hj).1; omega) e hj
            by_cases q : e.1 ∈ L'
            · rw [decide_eq_true q, decide_eq_true (this.mp q)]
            · rw [decide_eq_false q, decide_eq_false (fun z => q (this.mpr z))])
          have hall : ∀ x ∈ numsTo (m + 1), x ∈ L' := by
            intro x hx
            have hx := mem_numsTo.mp hx
            have i0 := F5.inn x0 hx0
            have := hS x x0 (by omega) (by omega) i0.1 i0.2
            rw [decide_eq_true hx0] at this
            exact of_decide_eq_true this
          have := nodup_sub (nodup_nums (m + 1)) hall
          rw [numsTo_length] at this
          omega
    · have hLm : m < L.length := by
        have : ¬ ((L.length : Int) ≤ (m : Int)) := fun z => hc (decide_eq_true z)
        omega
      have hall := F4.all hLm
      have hEl := e4 _ _ (ndl hE) hE
      have hAl := e4 _ _ (ndl hA) hA
      have hAE4 : EdgesAt H4 bs qs := EdgesAt.mono (fun a xs g => e4 _ _ (ndl g) g) hAE
      -- the rows
      refine lc_rows (m := m) (F := fun kk => qs.map fun e => (valN H4 kvs e.2 kk) - (valN H4 kvs e.1 kk)) (ea_cons (ev_is (ev_len (ev_var rfl) (SqL.of hEl)) (by rw [List.length_map, hal])) ea_nil) (by omega) (fun u => rfl) ?_ ?_
      · intro kk H5 x5 hkk
        refine el_pairs (K := K) (f := fun e => (valN H4 kvs e.2 kk) - (valN H4 kvs e.1 kk)) rfl (x5 _ _ hAl) (EdgesAt.mono (tups_E x5) hAE4) (by omega) (fun u v => rfl) fun e H6 he x6 => ?_
        have mq := hq0 e he
        obtain ⟨a1, n1, v1, g1, l1, b1⟩ := F4.get (hall e.1 mq.1 mq.2.1)
        obtain ⟨a2, n2, v2, g2, l2, b2⟩ := F4.get (hall e.2 mq.2.2.1 mq.2.2.2)
        have x46 := x5.trans x6
        rw [valN_eq v1 g1, valN_eq v2 g2]
        refine ev_op (ev_op (ev_dget rfl rfl (x46 _ _ F4.at_) v2) (ev_var rfl) (rv_ixL (SqL.of (x46 _ _ g2)) (atI_row (by omega)))) (ev_op (ev_dget rfl rfl (x46 _ _ F4.at_) v1) (ev_var rfl) (rv_ixL (SqL.of (x46 _ _ g1)) (atI_row (by omega)))) rv_I0
      · intro p rs H5 np nrs ndr npr x5 ht
        have hH : ∀ {a : Addr}, H4 a = none → H a = none := fun {a} g => fresh_B e4 g ⟨_, F4.at_⟩
        refine k rs _ p H5 (hH np) (fun a ha => hH (nrs a ha)) ndr npr (fun b o g => (e4.trans (ExB.of x5)) b o (ndl g) g) ht (by rw [List.length_map, List.length_range]) fun r hr => ?_
        obtain ⟨kk, hkk, rfl⟩ := List.mem_map.mp hr
        refine ⟨by rw [List.length_map], fun y hy => ?_⟩
        obtain ⟨e, he, rfl⟩ := List.mem_map.mp hy
        have mq := hq0 e he
        have hkk := List.mem_range.mp hkk
        obtain ⟨a1, n1, v1, g1, l1, b1⟩ := F4.get (hall e.1 mq.1 mq.2.1)
        obtain ⟨a2, n2, v2, g2, l2, b2⟩ := F4.get (hall e.2 mq.2.2.1 mq.2.2.2)
        rw [valN_eq v1 g1, valN_eq v2 g2]
        have c1 : n1[kk]?.getD 0 ∈ n1 := by
          rw [List.getElem?_eq_getElem (by omega)]
          exact List.getElem_mem _
        have c2 : n2[kk]?.getD 0 ∈ n2 := by
          rw [List.getElem?_eq_getElem (by omega)]
          exact List.getElem_mem _
        have d1 := b1 _ c1
        have d2 := b2 _ c2
        have := F4.le
        omega
-- DEF _law_divisor

namespace Fq
open PySem PySem.Spec PyProof.Rows
def stepB (B d : Int) : Int := B * d / gcdI B d
def comF (qs : List Rat) (B : Int) : Int := qs.foldl (fun B q => stepB B (q.den : Int)) B
def comB (qs : List Rat) : Int := comF qs 1
theorem step_facts {B d : Int} (hB : 0 < B) (hd : 0 < d) : 0 < stepB B d ∧ B ∣ stepB B d ∧ d ∣ stepB B d ∧ stepB B d ≤ B * d := by
  have g0 : 0 < gcdI B d := gcdI_pos (by omega)
  have hg1 : gcdI B d ∣ B := Int.ofNat_dvd_left.mpr (Nat.gcd_dvd_left _ _)
  have hg2 : gcdI B d ∣ d := Int.ofNat_dvd_left.mpr (Nat.gcd_dvd_right _ _)
  unfold stepB
  generalize gcdI B d = g at *
  obtain ⟨y, rfl⟩ := hg2
  have y0 : 0 < y := Int.pos_of_mul_pos_right hd (by omega)
  have e1 : B * (g * y) / g = B * y := by
    rw [Int.mul_left_comm]
    exact Int.mul_ediv_cancel_left _ (by omega)
  rw [e1]
  obtain ⟨x, rfl⟩ := hg1
  refine ⟨Int.mul_pos hB y0, ⟨y, rfl⟩, ⟨x, by rw [Int.mul_assoc, Int.mul_assoc, Int.mul_comm x y]⟩, ?_⟩
  have : y ≤ g * y := by
    have := Int.mul_le_mul_of_nonneg_right (show (1 : Int) ≤ g by omega) (show 0 ≤ y by omega)
    rwa [Int.one_mul] at this
  exact Int.mul_le_mul_of_nonneg_left this (by omega)
theorem com_facts : ∀ (qs : List Rat) (B : Int), 0 < B → 0 < comF qs B ∧ B ∣ comF qs B ∧ ∀ q ∈ qs, (q.den : Int) ∣ comF qs B
  | [], B, h => ⟨h, Int.dvd_refl _, fun q hq => nomatch hq⟩
  | q :: qs, B, h => by
    obtain ⟨s1, s2, s3, _⟩ := step_facts h (dpos q)
    obtain ⟨r1, r2, r3⟩ := com_facts qs _ s1
    refine ⟨r1, Int.dvd_trans s2 r2, fun p hp => ?_⟩
    rcases List.mem_cons.mp hp with rfl | hp
    · exact Int.dvd_trans s3 r2
    · exact r3 p hp
theorem step_bd {n k : Nat} {B d : Int} (hB : 0 < B) (hd : 0 < d) (h1 : Bd n B) (h2 : Bd k d) : Bd (n + k) (stepB B d) := by
  obtain ⟨s1, _, _, s4⟩ := step_facts hB hd
  refine (h1.mul h2).abs ?_
  have := Int.mul_pos hB hd
  omega
theorem com_bd {k : Nat} : ∀ (qs : List Rat) (B : Int) (n : Nat), 0 < B → Bd n B → (∀ q ∈ qs, Bd k (q.den : Int)) → Bd (n + k * qs.length) (comF qs B)
  | [], B, n, _, h, _ => h
  | q :: qs, B, n, h0, h, hq => by
    have s := step_facts h0 (dpos q)
    have r := com_bd qs _ (n + k) s.1 (step_bd h0 (dpos q) h (hq q (.head _))) fun q h => hq q (.tail _ h)
    refine r.mono ?_
    rw [List.length_cons, Nat.mul_add]
    omega
theorem com_snoc (qs : List Rat) (q : Rat) : comB (qs ++ [q]) = stepB (comB qs) (q.den : Int) := by
  unfold comB comF
  rw [List.foldl_append]
  rfl
def top (B : Int) (q : Rat) : Int := q.num * (B / (q.den : Int))
def tops (qs : List Rat) : List Int := qs.map (top (comB qs))
theorem com_all (qs : List Rat) : 0 < comB qs ∧ ∀ q ∈ qs, (q.den : Int) ∣ comB qs := ⟨(com_facts qs 1 (by decide)).1, (com_facts qs 1 (by decide)).2.2⟩
theorem mk_top {B : Int} {q : Rat} (hB : 0 < B) (hd : (q.den : Int) ∣ B) : q = mkRat (top B q) B.toNat := by
  unfold top
  obtain ⟨k, hk⟩ := hd
  have d0 := dpos q
  have k0 : 0 < k := by
    rw [hk] at hB
    exact Int.pos_of_mul_pos_right hB (by omega)
  have e1 : B / (q.den : Int) = k := by
    rw [hk]
    exact Int.mul_ediv_cancel_left _ (by omega)
  have e2 : B.toNat = q.den * k.toNat := by
    rw [hk, Int.toNat_mul (by omega) (by omega), Int.toNat_natCast]
  have e3 : k = ((k.toNat : Nat) : Int) := by omega
  rw [e1, e2]
  conv => rhs; arg 1; rw [e3]
  rw [Rat.mkRat_mul_right (by omega)]
  exact (Rat.mkRat_self q).symm
theorem sum_mk {b : Nat} (hb : b ≠ 0) (f : Rat → Int) : ∀ (ns : List Int) (qs : List Rat) (t : Int), (∀ q ∈ qs, q = mkRat (f q) b) → (terms ns qs).foldl (· + ·) (mkRat t b) = mkRat (t + Ls.dot ns (qs.map f)) b
  | [], qs, t, _ => by
    unfold terms Ls.dot
    rw [List.zipWith_nil_left, List.zipWith_nil_left]
    show mkRat t b = mkRat (t + 0) b
    rw [Int.add_zero]
  | n :: ns, [], t, _ => by
    unfold terms Ls.dot
    show mkRat t b = mkRat (t + 0) b
    rw [Int.add_zero]
  | n :: ns, q :: qs, t, h => by
    have e : mkRat t b + mkRat n 1 * q = mkRat (t + n * f q) b := by
      have hq := h q (.head _)
      generalize f q = w at hq ⊢
      subst hq
      rw [Rat.mkRat_mul_mkRat, Nat.one_mul, Rat.mkRat_add_mkRat _ _ hb hb, ← Int.add_mul, Rat.mkRat_mul_right hb]
    have ih := sum_mk hb f ns qs (t + n * f q) fun q h' => h q (.tail _ h')
    unfold terms Ls.dot at ih ⊢
    rw [List.zipWith_cons_cons, List.foldl_cons, e, ih, List.map_cons, List.zipWith_cons_cons, List.sum_cons, Int.add_assoc]
theorem fsum_mk (ns : List Int) (qs : List Rat) : fsum ns qs = mkRat (Ls.dot ns (tops qs)) (comB qs).toNat := by
  obtain ⟨c0, cd⟩ := com_all qs
  have h := sum_mk (b := (comB qs).toNat) (by omega) (top (comB qs)) ns qs 0 fun q hq => mk_top c0 (cd q hq)
  rw [Rat.zero_mkRat, Int.zero_add] at h
  exact h
theorem parts_mk {t b : Int} (hb : 0 < b) : ∃ g x y : Int, 0 < g ∧ t = g * x ∧ b = g * y ∧ (mkRat t b.toNat).num = x ∧ ((mkRat t b.toNat).den : Int) = y := by
  have g0 : 0 < gcdI t b := gcdI_pos (by omega)
  have hg1 : gcdI t b ∣ t := Int.ofNat_dvd_left.mpr (Nat.gcd_dvd_left _ _)
  have hg2 : gcdI t b ∣ b := Int.ofNat_dvd_left.mpr (Nat.gcd_dvd_right _ _)
  have e := fr_low (t := t) hb
  unfold frV at e
  injection e with e1 e2
  injection e2 with e2 _
  have e1 := V.int.inj e1
  have e2 := V.int.inj e2
  refine ⟨gcdI t b, t / gcdI t b, b / gcdI t b, g0, (Int.mul_ediv_cancel' hg1).symm, (Int.mul_ediv_cancel' hg2).symm, e1.symm, e2.symm⟩
theorem fl_mk {t b : Int} (hb : 0 < b) : fl (mkRat t b.toNat) = t / b := by
  obtain ⟨g, x, y, g0, rfl, rfl, e1, e2⟩ := parts_mk (t := t) hb
  unfold fl
  rw [e1, e2, Int.mul_ediv_mul_of_pos _ _ g0]
theorem ce_mk {t b : Int} (hb : 0 < b) : ce (mkRat t b.toNat) = -((-t) / b) := by
  obtain ⟨g, x, y, g0, rfl, rfl, e1, e2⟩ := parts_mk (t := t) hb
  unfold ce
  rw [e1, e2, ← Int.mul_neg, Int.mul_ediv_mul_of_pos _ _ g0]
theorem law_betw (rows : List (List Int)) (qs : List Rat) (z : List Int) : ((List.zipWith (fun (t s : Int) => decide (t / comB qs ≤ s) && decide (s ≤ 0 - (0 - t) / comB qs)) (Ls.totals rows (tops qs)) (Ls.totals rows z)).all id) = betw rows qs z := by
  have c0 := (com_all qs).1
  unfold betw Ls.totals
  induction rows with
  | nil => rfl
  | cons r rows ih =>
    rw [List.map_cons, List.map_cons, List.zipWith_cons_cons, List.all_cons, List.all_cons, ih, fsum_mk r qs, fl_mk c0, ce_mk c0, Int.zero_sub, Int.zero_sub]
    rfl
end Fq

def sp__law_divisor (K : PySem.W.Frag) : Sp := fun vs H Q _ => ∃ (a b : Int), vs = [.int a, .int b] ∧ 0 ≤ a ∧ 0 ≤ b ∧ Q (.int (gcdI a b)) H

theorem ok__law_divisor (T : Txt K mg) : FnOk P w K mg base CX0 1 T.f__law_divisor T.fd__law_divisor ["_law_one_here", "_law_other"] (sp__law_divisor K) := by
  refine Fun.ok T.F__law_divisor sc__law_divisor (fun vs H Q E h => ?_) (fun cdv A outer s H vs Q E hr h => ?_)
  · obtain ⟨_, _, rfl, _⟩ := h; rfl
  · refine ⟨_, (pss_cons (ps_while PassesOwn.never (pt_cmpR op_ne (pv 1) pe_int (nomark _))
        (pss_one (ps_par (i := 0) (j := 1) (by rfl) sc__law_divisor.nd rfl rfl (by decide) rfl rfl (pa_cons (pv 1) (pa_cons (pe_op op_mod (pv 0) (pv 1)) pa_nil)) (by rfl))))
      (pss_one (ps_ret (pv 0)))), ?_⟩
    obtain ⟨a, b, rfl, ha, hb, k⟩ := h
    refine ⟨fun m σ H1 => ∃ x y : Int, σ = [some (.int x), some (.int y)] ∧ H1 = H ∧ 0 ≤ x ∧ 0 ≤ y ∧ m = y.toNat ∧ Nat.gcd x.toNat y.toNat = Nat.gcd a.natAbs b.natAbs, ⟨b.toNat, a, b, rfl, rfl, ha, hb, rfl, ?_⟩, ?_⟩
    · rw [show a.toNat = a.natAbs by omega, show b.toNat = b.natAbs by omega]
    · rintro m σ H1 ⟨x, y, rfl, rfl, hx, hy, rfl, hg⟩
      refine ⟨_, rfl, rfl, _, rfl, ?_⟩
      refine ite2 (fun hp => ?_) (fun hp => ?_)
      · have hy0 : 0 < y := by
          have : y ≠ 0 := fun z => by
            rw [z, decide_eq_true rfl] at hp
            cases hp
          omega
        refine ⟨fun σ' H' => ∃ x' y' : Int, σ' = [some (.int x'), some (.int y')] ∧ H' = H1 ∧ 0 ≤ x' ∧ 0 ≤ y' ∧ y'.toNat < y.toNat ∧ Nat.gcd x'.toNat y'.toNat = Nat.gcd a.natAbs b.natAbs, fun σ' H' ⟨x', y', e1, e2, a1, a2, a3, a4⟩ => ⟨y'.toNat, a3, x', y', e1, e2, a1, a2, rfl, a4⟩, ?_⟩
        refine ⟨_, rfl, _, rfl, _, rfl, _, _, rfl, rfl, hy0, _, _, rfl, ?_⟩
        have m0 := Int.emod_nonneg x (show y ≠ 0 by omega)
        have m1 := Int.emod_lt_of_pos x hy0
        refine ⟨y, x % y, rfl, rfl, hy, m0, by omega, ?_⟩
        have e3 : (x % y).toNat = x.toNat % y.toNat := Int.toNat_emod hx hy
        rw [e3, ← hg, Nat.gcd_comm, ← Nat.gcd_rec, Nat.gcd_comm]
      · have hy0 : y = 0 := by
          by_cases z : y = 0
          · exact z
          · exact absurd (by rw [decide_eq_false fun q => z (V.int.inj q)]; rfl) hp
        subst hy0
        have eg : x = gcdI a b := by
          have h1 : Nat.gcd x.toNat (0 : Int).toNat = x.toNat := Nat.gcd_zero_right _
          rw [h1] at hg
          unfold gcdI
          omega
        rw [← eg] at k
        exact ⟨_, rfl, k⟩
-- DEF is_fraction

def sp_is_fraction (K : PySem.W.Frag) : Sp := fun vs H Q _ => ∃ (x : V) (r : Bool), vs = [x] ∧ FracV K H x r ∧ Q (.bl r) H

theorem ok_is_fraction (T : Txt K mg) : FnOk P w K mg base CX0 2 T.f_is_fraction T.fd_is_fraction ["thing"] (sp_is_fraction K) := by
  refine Fun.ok T.F_is_fraction sc_is_fraction (fun vs H Q E h => ?_) (fun cdv A outer s H vs Q E hr h => ?_)
  · obtain ⟨_, _, rfl, _⟩ := h; rfl
  · refine ⟨_, (pss_cons (ps_if (PW.pt (pw_or (pt_not (pt_val (pe_callB (id := "isinstance") (r := rIsi K) call_isi (by rfl) T.n_isinstance (by decide +kernel) (pa_cons (pv 0) (pa_cons (pe_bltn (v := .ty "tuple") (by rfl) T.n_tuple (by decide +kernel) rfl) pa_nil))))) (pw_or1 (pt_cmpR op_ne (pe_callB (id := "len") (r := rLenS K) call_len_seq (by rfl) T.n_len PySem.boot_len (pa_cons (pv 0) pa_nil)) pe_int (nomark _)))))
        (pss_one (ps_ret pe_bl))
        pss_nil)
      (pss_cons (ps_asg (pv 0) (pg_tup rfl (pgs_cons (pg_name (i := 1) sc_is_fraction.nd rfl (by first | exact Or.inl rfl | exact Or.inr rfl)) (pgs_cons (pg_name (i := 2) sc_is_fraction.nd rfl (by first | exact Or.inl rfl | exact Or.inr rfl)) pgs_nil))))
      (pss_cons (ps_if (PW.pt (pw_or (pt_not (pt_val (pe_call (ok_is_whole T) hr (by rfl) T.g_is_whole T.k_is_whole T.b_is_whole .nil pass0 (pa_cons (pv 1) pa_nil)))) (pw_or1 (pt_not (pt_val (pe_call (ok_is_whole T) hr (by rfl) T.g_is_whole T.k_is_whole T.b_is_whole .nil pass0 (pa_cons (pv 2) pa_nil)))))))
        (pss_one (ps_ret pe_bl))
        pss_nil)
      (pss_one (ps_ret (pe_and (pe_cmpR op_ge (pv 2) pe_int (nomark _)) (pe_one (pe_cmpR op_eq (pe_callBfun cr_gcd (by rfl) T.g_gcd (pa_cons (pv 1) (pa_cons (pv 2) pa_nil))) pe_int (nomark _))))))))), ?_⟩
    obtain ⟨x, r, rfl, fv, q⟩ := h
    cases fv with
    | @no x t h k n =>
      refine ⟨x, rfl, x, _, _, _, _, rfl, ClsV.ty _, h, kit_ty (ty_tuple k), _, rfl, ?_⟩
      have e : (t == "tuple") = false := by simpa using n
      rw [e]
      exact iteT q
    | @len p xs e n =>
      refine ⟨.ref p, rfl, .ref p, _, _, _, _, rfl, ClsV.ty _, .base (.tup e), kit_ty (ty_tuple (.inr (.inr (.inr (.inr (.inl rfl)))))), _, rfl, ?_⟩
      refine ⟨.ref p, rfl, p, xs, rfl, .inr (SqT.of e), rfl, _, rfl, ?_⟩
      have e2 : (!decide (V.int (xs.length : Int) = V.int 2)) = true := by
        rw [decide_eq_false (fun z => n (by have := V.int.inj z; omega))]
        rfl
      rw [e2]
      exact iteT q
    | @two p t b e =>
      refine ⟨.ref p, rfl, .ref p, _, _, _, _, rfl, ClsV.ty _, .base (.tup e), kit_ty (ty_tuple (.inr (.inr (.inr (.inr (.inl rfl)))))), _, rfl, ?_⟩
      refine ⟨.ref p, rfl, p, _, rfl, .inr (SqT.of e), rfl, _, rfl, ?_⟩
      refine iteF ?_
      refine ⟨.ref p, rfl, p, _, rfl, SqT.of e, rfl, _, _, rfl, _, _, rfl, rfl, ?_⟩
      refine ⟨_, rfl, _, _, rfl, .base (.int _), .inl rfl, _, rfl, ?_⟩
      refine ⟨_, rfl, _, _, rfl, .base (.int _), .inl rfl, _, rfl, ?_⟩
      refine iteF ?_
      refine ⟨_, rfl, _, _, rfl, rfl, _, rfl, ?_⟩
      by_cases hb : 1 ≤ b
      · rw [decide_eq_true hb] at q ⊢
        refine iteT ?_
        refine ⟨_, rfl, _, rfl, _, _, rfl, rfl, ?_⟩
        have e3 : decide (V.int ((Nat.gcd t.natAbs b.natAbs : Nat) : Int) = V.int 1) = (true && decide (gcdI t b = 1)) := by
          rw [Bool.true_and]
          unfold gcdI
          by_cases g : ((Nat.gcd t.natAbs b.natAbs : Nat) : Int) = 1
          · rw [decide_eq_true g, g]
            exact decide_eq_true rfl
          · rw [decide_eq_false g]
            exact decide_eq_false fun z => g (V.int.inj z)
        rw [e3]
        exact q
      · rw [decide_eq_false hb] at q ⊢
        exact iteF q
    | @odd1 p x y t e h k n =>
      refine ⟨.ref p, rfl, .ref p, _, _, _, _, rfl, ClsV.ty _, .base (.tup e), kit_ty (ty_tuple (.inr (.inr (.inr (.inr (.inl rfl)))))), _, rfl, ?_⟩
      refine ⟨.ref p, rfl, p, _, rfl, .inr (SqT.of e), rfl, _, rfl, ?_⟩
      refine iteF ?_
      refine ⟨.ref p, rfl, p, _, rfl, SqT.of e, rfl, _, _, rfl, _, _, rfl, rfl, ?_⟩
      refine ⟨_, rfl, _, _, rfl, h, k, _, rfl, ?_⟩
      have e2 : (t == "int") = false := by simpa using n
      rw [e2]
      exact iteT q
    | @odd2 p t y u e h k n =>
      refine ⟨.ref p, rfl, .ref p, _, _, _, _, rfl, ClsV.ty _, .base (.tup e), kit_ty (ty_tuple (.inr (.inr (.inr (.inr (.inl rfl)))))), _, rfl, ?_⟩
      refine ⟨.ref p, rfl, p, _, rfl, .inr (SqT.of e), rfl, _, rfl, ?_⟩
      refine iteF ?_
      refine ⟨.ref p, rfl, p, _, rfl, SqT.of e, rfl, _, _, rfl, _, _, rfl, rfl, ?_⟩
      refine ⟨_, rfl, _, _, rfl, .base (.int _), .inl rfl, _, rfl, ?_⟩
      refine ⟨_, rfl, _, _, rfl, h, k, _, rfl, ?_⟩
      have e2 : (u == "int") = false := by simpa using n
      rw [e2]
      exact iteT q
-- DEF fraction

def sp_fraction (K : PySem.W.Frag) : Sp := fun vs H Q _ => ∃ (t b : Int), vs = [.int t, .int b] ∧ b ≠ 0 ∧ Bd 9000 b ∧
  ∀ (p : Addr) (H' : Hp), H p = none → Ex H H' → H' p = some (.tup [.int (t.fdiv (comI t b)), .int (b.fdiv (comI t b))]) → Q (.ref p) H'

theorem ok_fraction (T : Txt K mg) : FnOk P w K mg base CX0 2 T.f_fraction T.fd_fraction ["top", "bottom"] (sp_fraction K) := by
  refine FunD.ok T.F_fraction sc_fraction (fun vs H Q E h => ?_) (fun cdv A outer s H vs Q E hr h => ?_)
  · obtain ⟨_, _, rfl, _⟩ := h; rfl
  · refine ⟨_, (pss_cons (ps_if (PW.pt (pw_or (pt_not (pt_val (pe_call (ok_is_whole T) hr (by rfl) T.g_is_whole T.k_is_whole T.b_is_whole .nil pass0 (pa_cons (pv 0) pa_nil)))) (pw_or1 (pt_not (pt_val (pe_call (ok_is_whole T) hr (by rfl) T.g_is_whole T.k_is_whole T.b_is_whole .nil pass0 (pa_cons (pv 1) pa_nil)))))))
        (pss_one ps_never)
        pss_nil)
      (pss_cons (ps_if (pt_cmpR op_eq (pv 1) pe_int (nomark _))
        (pss_one ps_never)
        pss_nil)
      (pss_cons (ps_set (i := 2) sc_fraction.nd rfl (by first | exact Or.inl rfl | exact Or.inr rfl) (pe_callBfun cr_gcd (by rfl) T.g_gcd (pa_cons (pv 0) (pa_cons (pv 1) pa_nil))))
      (pss_cons (ps_if (pt_cmpR op_lt (pv 1) pe_int (nomark _))
        (pss_one (ps_set (i := 2) sc_fraction.nd rfl (by first | exact Or.inl rfl | exact Or.inr rfl) (pe_un un_neg (pv 2))))
        pss_nil)
      (pss_one (ps_ret (pe_tup (pa_cons (pe_op op_fdivNW (pv 0) (pv 2)) (pa_cons (pe_op op_fdivNW (pv 1) (pv 2)) pa_nil))))))))), ?_⟩
    obtain ⟨t, b, rfl, hb, hbd, q⟩ := h
    refine ⟨_, rfl, _, _, rfl, .base (.int _), .inl rfl, _, rfl, ?_⟩
    refine ⟨_, rfl, _, _, rfl, .base (.int _), .inl rfl, _, rfl, ?_⟩
    refine iteF ?_
    refine ⟨_, rfl, rfl, _, rfl, ?_⟩
    have e1 : decide (V.int b = V.int 0) = false := decide_eq_false fun z => hb (V.int.inj z)
    rw [e1]
    refine iteF ?_
    refine ⟨_, rfl, _, rfl, _, _, rfl, ?_⟩
    refine ⟨_, rfl, _, _, rfl, rfl, _, rfl, ?_⟩
    have fin : ∀ c : Int, c = comI t b → tRet (tTup (tCons (tOp (rI CDivNW fun i j => .int (i.fdiv j)) (tVar 0) (tVar 2)) (tCons (tOp (rI CDivNW fun i j => .int (i.fdiv j)) (tVar 1) (tVar 2)) tNil))) { nx := fun _ H' => Q .non H', rt := Q } [some (.int t), some (.int b), some (.int c)] H := by
      intro c hc
      subst hc
      refine ⟨_, rfl, _, rfl, _, _, rfl, rfl, Bd.divNOk (comI_ne hb) (comI_bd hb hbd), ?_⟩
      refine ⟨_, rfl, _, rfl, _, _, rfl, rfl, Bd.divNOk (comI_ne hb) (comI_bd hb hbd), (by show 2 ≤ sizeLine; decide), fun p hp => ?_⟩
      exact q p _ hp (Ex.new hp) upd_same
    by_cases hn : b < 0
    · rw [decide_eq_true hn]
      refine iteT ?_
      refine ⟨_, rfl, _, rfl, ?_⟩
      exact fin _ (by unfold comI; rw [if_pos hn]; rfl)
    · rw [decide_eq_false hn]
      refine iteF ?_
      exact fin _ (by unfold comI; rw [if_neg hn]; rfl)
-- DEF is_row

def sp_is_row (K : PySem.W.Frag) : Sp := fun vs H Q _ => ∃ (a : Addr) (ns : List Int), vs = [.ref a] ∧ H a = some (.lst (ns.map V.int)) ∧ 1 ≤ ns.length ∧ ns.length ≤ 8 ∧ ∀ H', Ex H H' → Q (.bl true) H'

theorem ok_is_row (T : Txt K mg) : FnOk P w K mg base CX0 2 T.f_is_row T.fd_is_row ["thing"] (sp_is_row K) := by
  refine Fun.ok T.F_is_row sc_is_row (fun vs H Q E h => ?_) (fun cdv A outer s H vs Q E hr h => ?_)
  · obtain ⟨_, _, rfl, _⟩ := h; rfl
  · refine ⟨_, (pss_cons (ps_if (PW.pt (pw_or (pt_not (pt_val (pe_callB (id := "isinstance") (r := rIsi K) call_isi (by rfl) T.n_isinstance (by decide +kernel) (pa_cons (pv 0) (pa_cons (pe_bltn (v := .ty "list") (by rfl) T.n_list (by decide +kernel) rfl) pa_nil))))) (pw_or1 (pt_not (pt_chain op_le op_le pe_int (pe_callB (id := "len") (r := rLenS K) call_len_seq (by rfl) T.n_len PySem.boot_len (pa_cons (pv 0) pa_nil)) (pe_glob (v := .int 8) (by rfl) T.g_MOST ⟨_, rfl⟩))))))
        (pss_one (ps_ret pe_bl))
        pss_nil)
      (pss_one (ps_ret (pe_callB (id := "all") (r := rAll K) (cr_all rfl) (by rfl) T.n_all (by decide +kernel) (pa_cons (pe_lc (own := [("entry", 1)]) (wi := iList K _) (g := gName 1) (tt := tYes) rfl sc_is_row.nd (pi_list (pv 0)) (blkOk_by (N := ["thing", "entry"]) (sc := (defScope s_is_row)) (by decide +kernel)) (fun _ _ _ _ _ => pg_name (i := 1) sc_is_row.nd rfl (Or.inl rfl)) (fun _ _ _ _ _ => pts_nil) (fun _ _ _ _ _ => (pe_call (ok_is_whole T) hr (by rfl) T.g_is_whole T.k_is_whole T.b_is_whole .nil pass0 (pa_cons (pv 1) pa_nil)))) pa_nil))))), ?_⟩
    obtain ⟨a, ns, rfl, ha, h1, h8, k⟩ := h
    refine q_when (b := false) (et_is (et_or (et_not (et_B (ev_isi (t := "list") (b := true) (ev_var rfl) ev_c (fun H1 e => .base (.lst (e _ _ ha))) (by decide +kernel)))) (fun _ => et_not (et_test (ev_chain ev_c (ev_is (ev_len (ev_var rfl) (SqL.of ha)) (by rw [List.length_map])) ev_c rv_le rv_le)))) ?_) (fun z => nomatch z) (fun _ H1 e1 => ?_)
    · rw [decide_eq_true (show (1 : Int) ≤ (ns.length : Int) by omega), decide_eq_true (show (ns.length : Int) ≤ 8 by omega)]
      rfl
    refine s_ret (ev_all (el_yes (a := a) rfl (e1 _ _ ha) (by rw [List.length_map]; omega) (fun x H' hx e => ?_) (fun x => rfl))) fun H2 e2 => k H2 (e1.trans e2)
    obtain ⟨i, _, rfl⟩ := List.mem_map.mp hx
    exact ev_fn (ea_cons (ev_var rfl) ea_nil) fun H3 e3 Q3 q3 => ⟨_, "int", rfl, .base (.int _), .inl rfl, q3 H3 (Ex.refl _)⟩
-- DEF is_place

def sp_is_place (K : PySem.W.Frag) : Sp := fun vs H Q _ => ∃ (x n : Int), vs = [.int x, .int n] ∧ ∀ H', Ex H H' → Q (.bl (decide (0 ≤ x) && decide (x < n))) H'

theorem ok_is_place (T : Txt K mg) : FnOk P w K mg base CX0 2 T.f_is_place T.fd_is_place ["thing", "many"] (sp_is_place K) := by
  refine Fun.ok T.F_is_place sc_is_place (fun vs H Q E h => ?_) (fun cdv A outer s H vs Q E hr h => ?_)
  · obtain ⟨_, _, rfl, _⟩ := h; rfl
  · refine ⟨_, (pss_one (ps_ret (pe_and (pe_call (ok_is_whole T) hr (by rfl) T.g_is_whole T.k_is_whole T.b_is_whole .nil pass0 (pa_cons (pv 0) pa_nil)) (pe_one (pe_chain op_le op_lt pe_int (pv 0) (pv 1)))))), ?_⟩
    obtain ⟨x, n, rfl, k⟩ := h
    exact s_ret (ev_andV (a := true) (ev_fn (ea_cons (ev_var rfl) ea_nil) fun H3 e3 Q3 q3 => ⟨_, "int", rfl, .base (.int _), .inl rfl, q3 H3 (Ex.refl _)⟩) (fun _ => ev_chain ev_c (ev_var rfl) (ev_var rfl) rv_le rv_I0)) fun H' e => k H' e
-- DEF cleared
structure TN (s : Addr) (H : Hp) (p : Addr) (as : List Addr) (rows : List (List Int)) : Prop where
  tab : Tab H p as rows
  ps : p ≠ s
  ass : ∀ a ∈ as, a ≠ s
theorem TN.ex {s : Addr} {H H' : Hp} {p : Addr} {as : List Addr} {rows : List (List Int)} (h : TN s H p as rows) (e : Ex H H') : TN s H' p as rows := ⟨h.tab.ex e, h.ps, h.ass⟩
theorem TN.exB {s : Addr} {H H' : Hp} {p : Addr} {as : List Addr} {rows : List (List Int)} (h : TN s H p as rows) (e : ExB s H H') : TN s H' p as rows := ⟨⟨e _ _ h.ps h.tab.1, rows_but h.tab.2 fun a ha o g => e a o (h.ass a ha) g⟩, h.ps, h.ass⟩
theorem TN.of {s : Addr} {n : Int} {H0 H : Hp} {p : Addr} {as : List Addr} {rows : List (List Int)} (hs : SrcAt H0 s n) (hp : H0 p = none) (ha : ∀ a ∈ as, H0 a = none) (h : Tab H p as rows) : TN s H p as rows := ⟨h, hs.ne hp, fun a q => hs.ne (ha a q)⟩
theorem dp_rows {K : PySem.W.Frag} {H : Hp} : ∀ {as : List Addr} {rows : List (List Int)}, RowsAt H as rows → DpAll K H (as.map V.ref) (rows.map fun r => PyData.list (r.map PyData.int))
  | _, _, .nil => .nil
  | _, _, .cons h t => .cons (.lst (SqL.of h) (dpAll_ints _)) (dp_rows t)
theorem canLay_rows : ∀ rows : List (List Int), PyData.canLayAll0 (rows.map fun r => PyData.list (r.map PyData.int)) = true
  | [] => rfl
  | r :: rs => by
    show (PyData.canLayAll0 (r.map PyData.int) && PyData.canLayAll0 (rs.map fun r => PyData.list (r.map PyData.int))) = true
    rw [canLay_ints, canLay_rows rs]
    rfl
theorem depth_rows : ∀ rows : List (List Int), PyData.depthAll (rows.map fun r => PyData.list (r.map PyData.int)) ≤ 1
  | [] => Nat.zero_le _
  | r :: rs => by
    show max (PyData.depthAll (r.map PyData.int) + 1) (PyData.depthAll (rs.map fun r => PyData.list (r.map PyData.int))) ≤ 1
    have := depth_rows rs
    rw [depth_ints]
    omega
theorem rv_neT {K : PySem.W.Frag} {H : Hp} {p q : Addr} {as bs : List Addr} {rows : List (List Int)} (hp : Tab H p as rows) (hq : Tab H q bs rows) : RV (rNeD K) (.ref p) (.ref q) H (.bl false) := fun H1 e Q k => by
  have sh : SeqAt.shaped (.list (rows.map fun r => PyData.list (r.map PyData.int))) = true := shaped_list (canLay_rows rows) (Nat.le_trans (depth_rows rows) (by decide))
  refine ⟨_, _, .lst (SqL.of (e _ _ hp.1)) (dp_rows (hp.2.ex e)), .lst (SqL.of (e _ _ hq.1)) (dp_rows (hq.2.ex e)), sh, sh, ?_⟩
  rw [SeqAt.eqv_refl _ (SeqAt.canLay_of_shaped sh)]
  exact k H1 (Ex.refl _)
theorem lc_rowsT {K : PySem.W.Frag} {nn : Nat} {te : TE} {vs : List Nat} {j : Nat} {σ : L2.St} {H : Hp} {Q : VK} {a : Addr} {as0 : List Addr} {rows : List (List Int)} (F : List Int → List Int) (hσ : σ[nn]? = some (some (.ref a))) (ht : Tab H a as0 rows) (hm : rows.length ≤ 1000) (hw : ∀ u, wipe ((wipe σ vs).set j (some u)) vs = wipe σ vs)
    (he : ∀ c r H1, r ∈ rows → H c = some (.lst (r.map V.int)) → Ex H H1 → EvL te ((wipe σ vs).set j (some (.ref c))) H1 ((F r).map V.int))
    (k : ∀ p as H2, H p = none → (∀ a ∈ as, H a = none) → as.Nodup → p ∉ as → Ex H H2 → Tab H2 p as (rows.map F) → Q (.ref p) H2) : tLc (iList K (tVar nn)) (gName j) tYes te vs σ H Q := by
  refine ⟨_, hσ, a, rfl, ⟨_, SqL.of ht.1⟩, fun D hD => ?_⟩
  refine lc_list (K := K) (a := a) (xs := as0.map V.ref) (fun i H' => ∃ as, Ex H H' ∧ H' D = some (.lst (as.map V.ref)) ∧ RowsAt H' as ((rows.take i).map F) ∧ (∀ a ∈ as, H a = none) ∧ as.Nodup ∧ D ∉ as) ⟨[], Ex.new hD, upd_same, .nil, fun a ha => by simp at ha, List.nodup_nil, by simp⟩ (fun i H' _ ⟨_, p1, _⟩ => SqL.of (p1 _ _ ht.1)) (fun i x H' gx p => ?_) (fun H' p => ?_)
  · obtain ⟨as, p1, p2, p3, p4, p5, p6⟩ := p
    rw [List.getElem?_map] at gx
    obtain ⟨c0, hc0, rfl⟩ := Option.map_eq_some_iff.mp gx
    obtain ⟨y, hy, hh⟩ := paired_get ht.2 hc0
    have hi := (List.getElem?_eq_some_iff.mp hy).1
    have el : as.length = i := by rw [Paired.length p3, List.length_map, List.length_take]; omega
    refine ⟨hw _, ?_⟩
    show te _ H' _
    refine he c0 y H' (List.mem_of_getElem? hy) hh p1 H' (Ex.refl _) _ fun r H4 nr e4 hr => ?_
    have nrD : r ≠ D := fun z => by
      rw [z, p2] at nr
      cases nr
    refine ⟨_, e4 _ _ p2, ?_, as ++ [r], Ex.mut (p1.trans e4) hD, ?_, ?_, ?_, ?_, ?_⟩
    · rw [List.length_map, el]
      exact small1000 (by omega)
    · rw [upd_same, List.map_append]
      rfl
    · rw [take_snoc hy, List.map_append]
      refine paired_snoc (rows_but p3 fun b hb o g => ?_) ?_
      · rw [upd_ne (fun z => p6 (by rw [← z]; exact hb))]
        exact e4 _ _ g
      · rw [upd_ne nrD]
        exact hr
    · intro b hb
      rcases List.mem_append.mp hb with h | h
      · exact p4 b h
      · rw [show b = r by simpa using h]
        exact fresh_back p1 nr
    · refine List.nodup_append.mpr ⟨p5, by simp, fun b hb c hc z => ?_⟩
      have : c = r := by simpa using hc
      have hb' : r ∈ as := by rw [← this, ← z]; exact hb
      obtain ⟨x, _, hx'⟩ := paired_mem p3 hb'
      rw [nr] at hx'
      cases hx'
    · intro hb
      rcases List.mem_append.mp hb with h | h
      · exact p6 h
      · exact nrD (by simpa using h : D = r).symm
  · obtain ⟨as, p1, p2, p3, p4, p5, p6⟩ := p
    rw [List.length_map, Paired.length ht.2, List.take_length] at p3
    exact k D as H' hD p4 p5 p6 p1 ⟨p2, p3⟩
theorem cutV_ints (ns : List Int) (lo hi : Option Int) : ∃ zs : List Int, cutV (ns.map V.int) lo hi = zs.map V.int := by
  refine ⟨(ns.drop (HT.sIx (ns.map V.int).length 0 lo)).take (HT.sIx (ns.map V.int).length (ns.map V.int).length hi - HT.sIx (ns.map V.int).length 0 lo), ?_⟩
  unfold cutV
  rw [List.map_take, List.map_drop]
theorem bd30 {y : Int} (h : y.natAbs ≤ 10 ^ 30) : Bd 1000 y := by
  unfold Bd
  exact Nat.lt_of_le_of_lt h (by decide +kernel)

theorem el_rng2F {ta : TA} {tt : TT} {te : TE} {vs : List Nat} {j lo hi : Nat} {σ : L2.St} {H : Hp} (f : Nat → Bool) (v : Nat → V) (h : EvA ta σ H [.int (lo : Int), .int (hi : Int)]) (hlo : lo ≤ 1000) (hhi : hi ≤ 1000) (hw : ∀ x, wipe ((wipe σ vs).set j (some x)) vs = wipe σ vs)
    (ht : ∀ (i : Nat) H1, Ex H H1 → i < hi - lo → EvT tt ((wipe σ vs).set j (some (.int ((lo : Int) + (i : Int))))) H1 (f i))
    (he : ∀ (i : Nat) H1, Ex H H1 → i < hi - lo → f i = true → Ev te ((wipe σ vs).set j (some (.int ((lo : Int) + (i : Int))))) H1 (v i)) : EvL (tLc (iRng2 ta) (gName j) tt te vs) σ H (((List.range (hi - lo)).filter f).map v) := fun H0 e0 Q q => by
  refine h H0 e0 _ fun H1 e1 => ⟨(lo : Int), (hi : Int), rfl, by omega, fun D hD => ?_⟩
  have en : ((hi : Int) - (lo : Int)).toNat = hi - lo := by omega
  rw [en]
  refine lc_range (lo := (lo : Int)) (n := hi - lo) (fun i H' => Ex H1 H' ∧ H' D = some (.lst (((List.range i).filter f).map v))) ⟨Ex.new hD, upd_same⟩ (fun i H' hi' p => ?_) (fun H' p => q D H' (fresh_back e1 hD) (e1.trans p.1) p.2)
  obtain ⟨p1, p2⟩ := p
  refine ⟨hw _, ?_⟩
  have e01 := e0.trans e1
  have lf : ((List.range i).filter f).length ≤ i := by
    have := List.length_filter_le f (List.range i)
    rw [List.length_range] at this
    exact this
  refine ht i H' (e01.trans p1) hi' H' (Ex.refl _) _ fun H3 e3 => ?_
  cases hf : f i with
  | true =>
    refine iteT (he i H3 ((e01.trans p1).trans e3) hi' hf H3 (Ex.refl _) _ fun H4 e4 => ?_)
    refine ⟨_, (e3.trans e4) _ _ p2, small1000 (by rw [List.length_map]; omega), Ex.mut ((p1.trans e3).trans e4) hD, ?_⟩
    rw [upd_same, List.range_succ, List.filter_append, List.map_append]
    simp [hf]
  | false =>
    refine iteF ⟨p1.trans e3, ?_⟩
    rw [e3 _ _ p2, List.range_succ, List.filter_append]
    simp [hf]
theorem paired_range {α β : Type} {R : α → β → Prop} {f : Nat → α} {g : Nat → β} : ∀ {n : Nat}, (∀ j, j < n → R (f j) (g j)) → Paired R ((List.range n).map f) ((List.range n).map g)
  | 0, _ => .nil
  | n + 1, h => by
    rw [List.range_succ, List.map_append, List.map_append]
    exact paired_snoc (paired_range fun j hj => h j (by omega)) (h n (by omega))
theorem row_at {H : Hp} {p : Addr} {as : List Addr} {rows : List (List Int)} {m w : Nat} (h : TabOk H p as rows m w) {x : Nat} (hx : x < m) : atI (as.map V.ref) (x : Int) = some (.ref (as[x]?.getD 0)) ∧ H (as[x]?.getD 0) = some (.lst ((rows[x]?.getD []).map V.int)) := by
  obtain ⟨a, r, ha, hr, hh, _⟩ := h.row (i := (x : Int)) (by omega) (by omega)
  rw [Int.toNat_natCast] at hr
  have ha2 : as[x]? = some (as[x]?.getD 0) := by
    have := h.al
    rw [List.getElem?_eq_getElem (by omega)]
    rfl
  have ea : a = as[x]?.getD 0 := by
    have h1 : atI (as.map V.ref) (x : Int) = some (.ref (as[x]?.getD 0)) := atI_nat (j := x) (by rw [List.getElem?_map, ha2]; rfl)
    rw [ha] at h1
    cases h1
    rfl
  rw [hr, ← ea]
  exact ⟨ha, hh⟩
theorem cut_head {l : List Addr} {n : Nat} (h : n ≤ l.length) (h8 : l.length ≤ 8) : cutV (l.map V.ref) none (some (n : Int)) = (l.take n).map V.ref := by
  unfold cutV
  have e0 : HT.sIx (l.map V.ref).length 0 none = 0 := rfl
  have e1 : HT.sIx (l.map V.ref).length (l.map V.ref).length (some (n : Int)) = n := by
    rw [List.length_map]
    generalize l.length = m at h h8
    have hm : m = 0 ∨ m = 1 ∨ m = 2 ∨ m = 3 ∨ m = 4 ∨ m = 5 ∨ m = 6 ∨ m = 7 ∨ m = 8 := by omega
    have hn : n = 0 ∨ n = 1 ∨ n = 2 ∨ n = 3 ∨ n = 4 ∨ n = 5 ∨ n = 6 ∨ n = 7 ∨ n = 8 := by omega
    rcases hm with rfl | rfl | rfl | rfl | rfl | rfl | rfl | rfl | rfl <;> rcases hn with rfl | rfl | rfl | rfl | rfl | rfl | rfl | rfl | rfl <;> first | rfl | omega
  rw [e0, e1, List.drop_zero, Nat.sub_zero, List.map_take]
theorem paired_app {α β : Type} {R : α → β → Prop} : ∀ {xs : List α} {ys : List β} {xs2 : List α} {ys2 : List β}, Paired R xs ys → Paired R xs2 ys2 → Paired R (xs ++ xs2) (ys ++ ys2)
  | _, _, _, _, .nil, h => h
  | _, _, _, _, .cons a t, h => .cons a (paired_app t h)
theorem paired_take {α β : Type} {R : α → β → Prop} : ∀ {xs : List α} {ys : List β} (n : Nat), Paired R xs ys → Paired R (xs.take n) (ys.take n)
  | _, _, 0, _ => by rw [List.take_zero, List.take_zero]; exact .nil
  | _, _, n + 1, .nil => by rw [List.take_nil, List.take_nil]; exact .nil
  | _, _, n + 1, .cons a t => .cons a (paired_take n t)
theorem ec_cat {ta tb : TE} {σ : L2.St} {H : Hp} {xs ys : List V} (ha : EvL ta σ H xs) (hb : EvL tb σ H ys) (hz : xs.length + ys.length ≤ 100000) : EvL (tOp rCat ta tb) σ H (xs ++ ys) := fun H1 e Q q =>
  ha H1 e _ fun p H2 np e2 hp => hb H2 (e.trans e2) _ fun r H3 nr e3 hr => ⟨p, r, xs, ys, rfl, rfl, e3 _ _ hp, hr, sz_of hz, fun l nl => q l _ (fresh_back (e2.trans e3) nl) ((e2.trans e3).trans (Ex.new nl)) upd_same⟩
theorem ev_yes {σ : L2.St} {H : Hp} : EvT tYes σ H true := fun H1 e Q q => q H1 (Ex.refl _)
def sp_cleared (K : PySem.W.Frag) : Sp := fun vs H Q _ => ∃ (p : Addr) (as : List Addr) (rows : List (List Int)) (m w b : Nat), vs = [.ref p] ∧ TabOk H p as rows m w ∧ 0 < b ∧ (∀ r ∈ rows, ∀ y ∈ r, Bd b y) ∧ (b + 1) * 2 ^ (m - 2) ≤ 9000 ∧
  ∀ t H', H t = none → Ex H H' → H' t = some (.tup [.int ((Dt.clears rows w).steps : Nat), .int ((Dt.clears rows w).sign * (Dt.clears rows w).corner)]) → Q (.ref t) H'

theorem ok_cleared (T : Txt K mg) : FnOk P w K mg base CX0 2 T.f_cleared T.fd_cleared ["table"] (sp_cleared K) := by
  refine Fun.ok T.F_cleared sc_cleared (fun vs H Q E h => ?_) (fun cdv A outer s H vs Q E hr h => ?_)
  · obtain ⟨_, _, _, _, _, _, rfl, _⟩ := h; rfl
  · refine ⟨_, (pss_cons (ps_set (i := 1) sc_cleared.nd rfl (by first | exact Or.inl rfl | exact Or.inr rfl) (pv 0))
      (pss_cons (ps_asg2 pe_int (pg_name (i := 2) sc_cleared.nd rfl (by first | exact Or.inl rfl | exact Or.inr rfl)) (pg_name (i := 3) sc_cleared.nd rfl (by first | exact Or.inl rfl | exact Or.inr rfl)))
      (pss_cons (ps_set (i := 4) sc_cleared.nd rfl (by first | exact Or.inl rfl | exact Or.inr rfl) pe_int)
      (pss_cons (ps_for PassesOwn.never rfl (pi_range1 (by rfl) T.n_range (pa_cons (pe_callB (id := "len") (r := rLenS K) call_len_seq (by rfl) T.n_len PySem.boot_len (pa_cons (pe_ix (r := rIxL K) ix_list (pv 0) pe_int (fun _ _ => rfl)) pa_nil)) pa_nil)) (pg_name (i := 5) sc_cleared.nd rfl (by first | exact Or.inl rfl | exact Or.inr rfl))
        (pss_cut (ps_set (i := 6) sc_cleared.nd rfl (by first | exact Or.inl rfl | exact Or.inr rfl) (pe_lc (own := [("at", 9)]) (g := gName 9) (tt := _) rfl sc_cleared.nd (pi_range2 (by rfl) T.n_range (pa_cons (pv 4) (pa_cons (pe_callB (id := "len") (r := rLenS K) call_len_seq (by rfl) T.n_len PySem.boot_len (pa_cons (pv 1) pa_nil)) pa_nil))) (blkOk_by (N := ["table", "rows", "sign", "corner", "steps", "column", "found", "lead", "others", "at", "row"]) (sc := (defScope s_cleared)) (by decide +kernel)) (fun _ _ _ _ _ => pg_name (i := 9) sc_cleared.nd rfl (Or.inl rfl)) (fun _ _ _ _ _ => pts_one (pt_cmpR op_ne (pe_ix (r := rIxL K) ix_list (pe_ix (r := rIxL K) ix_list (pv 1) (pv 9) (fun _ _ => rfl)) (pv 5) (fun _ _ => rfl)) pe_int (nomark _))) (fun _ _ _ _ _ => (pv 9))))
          (pss_one (ps_if (pt_truth (pv 6) (by intro _; rfl))
            (pss_cut (ps_if (pt_cmpR op_ne (pe_ix (r := rIxL K) ix_list (pv 6) pe_int (fun _ _ => rfl)) (pv 4) (nomark _))
                (pss_one (ps_set (i := 2) sc_cleared.nd rfl (by first | exact Or.inl rfl | exact Or.inr rfl) (pe_un un_neg (pv 2))))
                pss_nil)
              (pss_cut (ps_set (i := 7) sc_cleared.nd rfl (by first | exact Or.inl rfl | exact Or.inr rfl) (pe_ix (r := rIxL K) ix_list (pv 1) (pe_ix (r := rIxL K) ix_list (pv 6) pe_int (fun _ _ => rfl)) (fun _ _ => rfl)))
              (pss_cut (ps_setLc (i := 8) (own := [("at", 9)]) (g := gName 9) (tt := tYes) rfl sc_cleared.nd rfl rfl (sw_true rfl rfl rfl (by decide +kernel)) (pi_range2 (by rfl) T.n_range (pa_cons (pe_op op_add (pv 4) pe_int) (pa_cons (pe_callB (id := "len") (r := rLenS K) call_len_seq (by rfl) T.n_len PySem.boot_len (pa_cons (pv 1) pa_nil)) pa_nil))) (blkOk_by (N := ["table", "rows", "sign", "corner", "steps", "column", "found", "lead", "others", "at", "row"]) (sc := (defScope s_cleared)) (by decide +kernel)) (fun _ _ _ _ _ => pg_name (i := 9) sc_cleared.nd rfl (Or.inl rfl)) (fun _ _ _ _ _ => pts_nil) (fun _ _ _ _ _ => (pe_ifExp (pt_cmpR op_eq (pv 9) (pe_ix (r := rIxL K) ix_list (pv 6) pe_int (fun _ _ => rfl)) (nomark _)) (pe_ix (r := rIxL K) ix_list (pv 1) (pv 4) (fun _ _ => rfl)) (pe_ix (r := rIxL K) ix_list (pv 1) (pv 9) (fun _ _ => rfl)))))
              (pss_cut (ps_set (i := 1) sc_cleared.nd rfl (by first | exact Or.inl rfl | exact Or.inr rfl) (pe_op op_cat (pe_op op_cat (pe_slice (r := rSlL K) sl_list (pv 1) po_none (po_some (pv 4))) (pe_lst (pa_cons (pv 7) pa_nil))) (pe_lc (own := [("row", 10)]) (wi := iList K _) (g := gName 10) (tt := tYes) rfl sc_cleared.nd (pi_list (pv 8)) (blkOk_by (N := ["table", "rows", "sign", "corner", "steps", "column", "found", "lead", "others", "at", "row"]) (sc := (defScope s_cleared)) (by decide +kernel)) (fun _ _ _ _ _ => pg_name (i := 10) sc_cleared.nd rfl (Or.inl rfl)) (fun _ _ _ _ _ => pts_nil) (fun _ _ _ _ _ => (pe_call (ok_cleared_row T) hr (by rfl) T.g_cleared_row T.k_cleared_row T.b_cleared_row .nil pass0 (pa_cons (pv 10) (pa_cons (pv 7) (pa_cons (pv 5) (pa_cons (pv 3) pa_nil)))))))))
              (pss_cut (ps_set (i := 3) sc_cleared.nd rfl (by first | exact Or.inl rfl | exact Or.inr rfl) (pe_ix (r := rIxL K) ix_list (pv 7) (pv 5) (fun _ _ => rfl)))
              (pss_one (ps_aug (i := 4) sc_cleared.nd rfl (by first | exact Or.inl rfl | exact Or.inr rfl) pe_int ip_add)))))))
            pss_nil))))
      (pss_one (ps_ret (pe_tup (pa_cons (pv 4) (pa_cons (pe_op op_mulW (pv 2) (pv 3)) pa_nil))))))))), ?_⟩
    obtain ⟨p, as, rows, m, w, b, rfl, hT, hb0, hb, hbits, k⟩ := h
    have hd := hT.b
    obtain ⟨a0, r0, _, _, hh0, hl0, at0⟩ := hT.row0
    have pc : ∀ kk, kk ≤ w → Dt.PC m w b kk (Dt.clears rows kk) := fun kk hk => Dt.pc_all hT.m_ hT.w_ hb hb0 kk hk
    refine ⟨_, rfl, ?_⟩
    refine q_forR1 (σ := [some (.ref p), some (.ref p), some (.int 1), some (.int 1), some (.int 0), none, none, none, none, none, none]) (H := H) (n := (w : Int)) (ea_cons (ev_is (ev_len (ev_op (ev_var (i := 0) rfl) ev_c (rv_ixL (SqL.of hT.tab.1) at0)) (SqL.of hh0)) (by rw [List.length_map, hl0])) ea_nil) (by omega) (fun kk σ H' => ∃ (rp : Addr) (as' : List Addr) (y5 y6 y7 y8 y9 y10 : Option V), σ = [some (.ref p), some (.ref rp), some (.int (Dt.clears rows kk).sign), some (.int (Dt.clears rows kk).corner), some (.int ((Dt.clears rows kk).steps : Nat)), y5, y6, y7, y8, y9, y10] ∧ Ex H H' ∧ Tab H' rp as' (Dt.clears rows kk).R) (fun H1 e1 => ⟨p, as, _, _, _, _, _, _, rfl, e1, hT.tab.ex e1⟩) (fun kk σ H2 hk hP => ?_) (fun σ H2 hP => ?_)
    · obtain ⟨rp, as', y5, y6, y7, y8, y9, y10, rfl, e2, hR⟩ := hP
      have hkw : kk < w := by omega
      have P := pc kk (by omega)
      have cl1 : Dt.clears rows (kk + 1) = Dt.cstep (Dt.clears rows kk) kk := rfl
      have okR : TabOk H2 rp as' (Dt.clears rows kk).R m w := ⟨hR, P.len, P.wid, hd⟩
      rw [cl1]
      generalize Dt.clears rows kk = c at P okR hR ⊢
      have hst := P.sm_
      have hlen := P.len
      refine ⟨fun σ' H' => ∃ fp, σ' = [some (.ref p), some (.ref rp), some (.int c.sign), some (.int c.corner), some (.int (c.steps : Nat)), some (.int (kk : Int)), some (.ref fp), y7, y8, y9, y10] ∧ Ex H2 H' ∧ H' fp = some (.lst ((Dt.found c kk).map fun i => V.int ((c.steps + i : Nat) : Int))), ?_, ?_⟩
      · refine s_asgL (el_rng2F (lo := c.steps) (hi := c.R.length) (fun i => Dt.at_ c.R (c.steps + i) kk != 0) (fun i => V.int ((c.steps + i : Nat) : Int)) (ea_cons (ev_var rfl) (ea_cons (ev_is (ev_len (ev_var rfl) (SqL.of hR.1)) (by rw [List.length_map, Paired.length hR.2])) ea_nil)) (by omega) (by omega) (fun x => rfl) (fun i H3 e3 hi => ?_) (fun i H3 e3 hi hf => ev_is (ev_var rfl) (by rw [Int.natCast_add]))) (fun fp H3 nf e3 hf => ⟨fp, rfl, e3, hf⟩)
        obtain ⟨ra, r, hra, hr, hh, hlr⟩ := (okR.ex e3).row (i := (c.steps : Int) + (i : Int)) (by omega) (by omega)
        refine et_is (et_test (ev_op (ev_op (ev_op (ev_var rfl) (ev_var rfl) (rv_ixL (SqL.of (okR.ex e3).tab.1) hra)) (ev_var rfl) (rv_ixL (SqL.of hh) (atI_row (by omega)))) ev_c (rv_ne rfl))) ?_
        have ei : ((c.steps : Int) + (i : Int)).toNat = c.steps + i := by omega
        rw [ei] at hr
        have ea : Dt.at_ c.R (c.steps + i) kk = r[kk]?.getD 0 := by
          unfold Dt.at_
          rw [hr]
          rfl
        rw [ea]
        by_cases z : r[kk]?.getD 0 = 0
        · rw [z]
          rfl
        · rw [decide_eq_false (fun g => z (V.int.inj g))]
          exact (bne_iff_ne.mpr z).symm
      rintro σ' H3 ⟨fp, rfl, e3, hf⟩
      have hR3 := hR.ex e3
      refine ⟨_, rfl, !((Dt.found c kk).map fun i => V.int ((c.steps + i : Nat) : Int)).isEmpty, .inl ⟨_, SqL.of hf, rfl⟩, ?_⟩
      cases hfd : Dt.found c kk with
      | nil =>
        have ec : Dt.cstep c kk = c := by unfold Dt.cstep; rw [hfd]
        rw [ec]
        exact iteF ⟨rp, as', _, _, _, _, _, _, rfl, e2.trans e3, hR3⟩
      | cons i r =>
        obtain ⟨hi, hne⟩ := Dt.found_mem hfd
        have ec : Dt.cstep c kk = ⟨Dt.stepR c.R c.steps (c.steps + i) kk c.corner, if i = 0 then c.sign else -c.sign, Dt.at_ c.R (c.steps + i) kk, c.steps + 1⟩ := by unfold Dt.cstep; rw [hfd]
        rw [ec]
        rw [hfd] at hf
        refine iteT ?_
        have f0 : atI ((i :: r).map fun i => V.int ((c.steps + i : Nat) : Int)) 0 = some (.int ((c.steps + i : Nat) : Int)) := atI_nat (j := 0) rfl
        have cond : EvT (tTest (tOp rNe (tOp (rIxL K) (tVar 6) (tC (.int 0))) (tVar 4))) [some (.ref p), some (.ref rp), some (.int c.sign), some (.int c.corner), some (.int (c.steps : Nat)), some (.int (kk : Int)), some (.ref fp), y7, y8, y9, y10] H3 (!decide (V.int ((c.steps + i : Nat) : Int) = V.int ((c.steps : Nat) : Int))) := et_test (ev_op (ev_op (ev_var rfl) ev_c (rv_ixL (SqL.of hf) f0)) (ev_var rfl) (rv_ne rfl))
        refine ⟨fun σ' H' => σ' = [some (.ref p), some (.ref rp), some (.int (if i = 0 then c.sign else -c.sign)), some (.int c.corner), some (.int (c.steps : Nat)), some (.int (kk : Int)), some (.ref fp), y7, y8, y9, y10] ∧ Ex H3 H', ?_, ?_⟩
        · by_cases z : i = 0
          · refine s_when (b := false) (et_is cond (by rw [decide_eq_true (by rw [z]; rfl)]; rfl)) (fun z => nomatch z) (fun _ H4 e4 => ⟨by rw [if_pos z], e4⟩)
          · refine s_when (b := true) (et_is cond (by rw [decide_eq_false (fun g => z (by have := V.int.inj g; omega))]; rfl)) (fun _ H4 e4 => s_asg (v := .int (-c.sign)) (ev_un (ev_var rfl) ru_neg) fun H5 e5 => ⟨by rw [if_neg z]; rfl, e4.trans e5⟩) (fun z => nomatch z)
        rintro σ' H4 ⟨rfl, e4⟩
        have e24 := e3.trans e4
        have ok4 := okR.ex e24
        obtain ⟨hla, hlh⟩ := row_at ok4 (x := c.steps + i) (by omega)
        have lw := P.row (i := c.steps + i) (by omega)
        generalize as'[c.steps + i]?.getD 0 = la at hla hlh
        refine ⟨fun σ' H' => σ' = [some (.ref p), some (.ref rp), some (.int (if i = 0 then c.sign else -c.sign)), some (.int c.corner), some (.int (c.steps : Nat)), some (.int (kk : Int)), some (.ref fp), some (.ref la), y8, y9, y10] ∧ Ex H4 H', s_asg (v := .ref la) (ev_op (ev_var rfl) (ev_op (ev_var rfl) ev_c (rv_ixL (SqL.of (e4 _ _ hf)) f0)) (rv_ixL (SqL.of ok4.tab.1) hla)) (fun H5 e5 => ⟨rfl, e5⟩), ?_⟩
        rintro σ' H5 ⟨rfl, e5⟩
        have ok5 := ok4.ex e5
        have hf5 := (e4.trans e5) _ _ hf
        have hl5 := e5 _ _ hlh
        have al := ok5.al
        refine ⟨fun σ' H' => ∃ (op : Addr) (os : List Addr), σ' = [some (.ref p), some (.ref rp), some (.int (if i = 0 then c.sign else -c.sign)), some (.int c.corner), some (.int (c.steps : Nat)), some (.int (kk : Int)), some (.ref fp), some (.ref la), some (.ref op), y9, y10] ∧ Ex H5 H' ∧ H' op = some (.lst (os.map V.ref)) ∧ RowsAt H' os (Dt.others c.R c.steps (c.steps + i)), ?_, ?_⟩
        · refine s_asgL (el_rng2F (lo := c.steps + 1) (hi := c.R.length) (fun _ => true) (fun j => V.ref (if c.steps + 1 + j = c.steps + i then as'[c.steps]?.getD 0 else as'[c.steps + 1 + j]?.getD 0)) (ea_cons (ev_is (ev_op (ev_var rfl) ev_c rv_I0) rfl) (ea_cons (ev_is (ev_len (ev_var rfl) (SqL.of ok5.tab.1)) (by rw [List.length_map, al, hlen])) ea_nil)) (by omega) (by omega) (fun x => rfl) (fun j H6 e6 hj => ev_yes) (fun j H6 e6 hj _ => ?_)) (fun op H6 nop e6 hop => ?_)
          · have ok6 := ok5.ex e6
            have r1 := row_at ok6 (x := c.steps) (by omega)
            have r2 := row_at ok6 (x := c.steps + 1 + j) (by omega)
            have ej : (((c.steps + 1 : Nat) : Int) + (j : Int)) = ((c.steps + 1 + j : Nat) : Int) := by omega
            rw [ej]
            refine ev_if (b := decide (V.int ((c.steps + 1 + j : Nat) : Int) = V.int ((c.steps + i : Nat) : Int))) (et_test (ev_op (ev_var rfl) (ev_op (ev_var rfl) ev_c (rv_ixL (SqL.of (e6 _ _ hf5)) f0)) (rv_eq rfl))) (fun g => ?_) (fun g => ?_)
            · have := V.int.inj (of_decide_eq_true g)
              rw [show (if c.steps + 1 + j = c.steps + i then as'[c.steps]?.getD 0 else as'[c.steps + 1 + j]?.getD 0) = as'[c.steps]?.getD 0 from if_pos (by omega)]
              exact ev_op (ev_var rfl) (ev_var rfl) (rv_ixL (SqL.of ok6.tab.1) r1.1)
            · have hz : ¬ (c.steps + 1 + j = c.steps + i) := fun z => of_decide_eq_false g (by rw [z])
              rw [show (if c.steps + 1 + j = c.steps + i then as'[c.steps]?.getD 0 else as'[c.steps + 1 + j]?.getD 0) = as'[c.steps + 1 + j]?.getD 0 from if_neg hz]
              exact ev_op (ev_var rfl) (ev_var rfl) (rv_ixL (SqL.of ok6.tab.1) r2.1)
          · refine ⟨op, (List.range (c.R.length - (c.steps + 1))).map (fun j => if c.steps + 1 + j = c.steps + i then as'[c.steps]?.getD 0 else as'[c.steps + 1 + j]?.getD 0), rfl, e6, ?_, paired_range fun j hj => ?_⟩
            · rw [hop, List.filter_eq_self.mpr (fun _ _ => rfl), List.map_map]
              rfl
            · have ok6 := ok5.ex e6
              by_cases g : c.steps + 1 + j = c.steps + i
              · rw [if_pos g, if_pos g]
                exact (row_at ok6 (x := c.steps) (by omega)).2
              · rw [if_neg g, if_neg g]
                exact (row_at ok6 (x := c.steps + 1 + j) (by omega)).2
        rintro σ' H6 ⟨op, os, rfl, e6, hop, hos⟩
        have ok6 := ok5.ex e6
        have hl6 := e6 _ _ hl5
        have ol : os.length = m - (c.steps + 1) := by
          rw [Paired.length hos]
          unfold Dt.others
          rw [List.length_map, List.length_range, hlen]
        refine ⟨fun σ' H' => ∃ (np : Addr) (ns : List Addr), σ' = [some (.ref p), some (.ref np), some (.int (if i = 0 then c.sign else -c.sign)), some (.int c.corner), some (.int (c.steps : Nat)), some (.int (kk : Int)), some (.ref fp), some (.ref la), some (.ref op), y9, y10] ∧ Ex H6 H' ∧ Tab H' np ns (Dt.stepR c.R c.steps (c.steps + i) kk c.corner), ?_, ?_⟩
        · refine ec_cat (σ := [some (.ref p), some (.ref rp), some (.int (if i = 0 then c.sign else -c.sign)), some (.int c.corner), some (.int (c.steps : Nat)), some (.int (kk : Int)), some (.ref fp), some (.ref la), some (.ref op), y9, y10]) (el_sl (K := K) (lo := none) (hi := some (c.steps : Int)) (ev_var (i := 1) rfl) eo_none (eo_some (ev_var (i := 4) rfl)) (SqL.of ok6.tab.1)) (el_lst (vs := [.ref la]) (ea_cons (ev_var (i := 7) rfl) ea_nil) (Nat.le_of_ble_eq_true rfl)) (by have := cutV_length (as'.map V.ref) none (some (c.steps : Int)); rw [List.length_map] at this; show _ + 1 ≤ 100000; omega) H6 (Ex.refl _) _ fun l1 H7 n1 e7 g1 => ?_
          rw [cut_head (by omega) (by omega)] at g1
          refine lc_rowsT (K := K) (rows := Dt.others c.R c.steps (c.steps + i)) (F := fun row => Dt.crow row (c.R[c.steps + i]?.getD []) kk c.corner) rfl ⟨e7 _ _ hop, hos.ex e7⟩ (by rw [← Paired.length hos]; omega) (fun x => rfl) (fun ca r' H8 hr' hca e8 => ?_) (fun q cs H8 nq ncs nd nqcs e8 ht => ?_)
          · have rm := Dt.others_mem (by omega) hr'
            have lr := P.wid r' rm
            have bits : (b + 1) * 2 ^ c.steps - 1 ≤ 9000 := by
              have hs2 : c.steps ≤ m - 2 := by
                have : 0 < (Dt.others c.R c.steps (c.steps + i)).length := List.length_pos_of_mem hr'
                rw [← Paired.length hos, ol] at this
                omega
              have := Nat.mul_le_mul_left (b + 1) (Nat.pow_le_pow_right (show 0 < 2 by decide) hs2)
              omega
            have b0 : 0 < (b + 1) * 2 ^ c.steps - 1 := by
              have := Nat.mul_le_mul_left (b + 1) (Nat.one_le_two_pow (n := c.steps))
              omega
            refine el_call (xs := (Dt.crow r' (c.R[c.steps + i]?.getD []) kk c.corner).map V.int) (ea_cons (ev_var rfl) (ea_cons (ev_var rfl) (ea_cons (ev_var rfl) (ea_cons (ev_var rfl) ea_nil)))) ?_
            intro H9 e9 Q9 q9 E9
            have b36 : (b + 1) * 2 ^ c.steps - 1 ≤ 400000 := by omega
            exact ⟨ca, la, r', c.R[c.steps + i]?.getD [], (kk : Int), c.corner, (b + 1) * 2 ^ c.steps - 1, rfl, e9 _ _ (e8 _ _ hca), (e7.trans (e8.trans e9)) _ _ hl6, by rw [lr, lw.2], by omega, by omega, by omega, P.cn, Dt.bdz_mono P.cb bits, b0, b36, P.eb r' rm, P.eb _ lw.1, fun q H10 nq e10 hq => q9 q H10 nq e10 hq⟩
          · refine ⟨l1, q, (as'.take c.steps).map V.ref ++ [.ref la], cs.map V.ref, rfl, rfl, e8 _ _ g1, ht.1, sz_of ?_, fun l nl => ?_⟩
            · have h1 := Paired.length ht.2
              rw [List.length_map, ← Paired.length hos] at h1
              rw [List.length_append, List.length_map, List.length_take, List.length_map, List.length_singleton]
              omega
            · refine ⟨l, as'.take c.steps ++ [la] ++ cs, rfl, (e7.trans e8).trans (Ex.new nl), ?_, ?_⟩
              · rw [upd_same, List.map_append, List.map_append]
                rfl
              · unfold Dt.stepR
                have xl := Ex.new (o := .lst ((as'.take c.steps).map V.ref ++ [.ref la] ++ cs.map V.ref)) nl
                refine paired_app (paired_app (paired_take c.steps (ok6.tab.2.ex ((e7.trans e8).trans xl))) (.cons (((e7.trans e8).trans xl) _ _ hl6) .nil)) (ht.2.ex xl)
        rintro σ' H7 ⟨np, ns, rfl, e7, hN⟩
        have hl7 := e7 _ _ hl6
        refine ⟨fun σ' H' => σ' = [some (.ref p), some (.ref np), some (.int (if i = 0 then c.sign else -c.sign)), some (.int (Dt.at_ c.R (c.steps + i) kk)), some (.int (c.steps : Nat)), some (.int (kk : Int)), some (.ref fp), some (.ref la), some (.ref op), y9, y10] ∧ Ex H7 H', s_asg (v := .int (Dt.at_ c.R (c.steps + i) kk)) (ev_op (ev_var rfl) (ev_var rfl) (rv_ixL (SqL.of hl7) (atI_row (by rw [lw.2]; exact hkw)))) (fun H8 e8 => ⟨rfl, e8⟩), ?_⟩
        rintro σ' H8 ⟨rfl, e8⟩
        exact s_aug (a := (c.steps : Int)) (b := 1) rfl ev_c fun H9 e9 => ⟨np, ns, _, _, _, _, _, _, rfl, ((((((e2.trans e3).trans e4).trans e5).trans e6).trans e7).trans e8).trans e9, hN.ex (e8.trans e9)⟩
    · obtain ⟨rp, as', y5, y6, y7, y8, y9, y10, rfl, e2, hR⟩ := hP
      rw [Int.toNat_natCast]
      have P := pc w (Nat.le_refl _)
      refine s_retU (eu_tup (ea_cons (ev_var rfl) (ea_cons (ev_op (ev_var rfl) (ev_var rfl) (rv_I ?_)) ea_nil)) (Nat.le_of_ble_eq_true rfl)) fun t H3 nt e3 ht => k t H3 (fresh_back e2 nt) (e2.trans e3) ht
      have bits : (b + 1) * 2 ^ (Dt.clears rows w).steps - 1 ≤ 40000 := by
        have h1 := Nat.mul_le_mul_left (b + 1) (Nat.pow_le_pow_right (show 0 < 2 by decide) (show (Dt.clears rows w).steps ≤ (m - 2) + 2 by have := P.sm_; omega))
        rw [Nat.pow_add, ← Nat.mul_assoc] at h1
        omega
      have bs : Bd 2 (Dt.clears rows w).sign := by
        rcases P.sn with z | z <;> rw [z] <;> unfold Bd <;> decide
      exact bs.mulOk (Dt.bdz_mono P.cb bits : Bd 40000 _)
-- DEF _law_one

def sp__law_one (K : PySem.W.Frag) : Sp := fun vs H Q _ => ∃ (s l : Addr) (n : Int) (xs : List V), vs = [.ref s, .ref l] ∧ SrcAt H s n ∧ n ≤ 500000000 ∧ l ≠ s ∧ SqL K H l xs ∧ 0 < xs.length ∧ xs.length ≤ 1000 ∧
  ∀ v ∈ xs, ∀ H', ExB s H H' → SrcAt H' s (n + 1) → Q v H'

theorem ok__law_one (T : Txt K mg) : FnOk P w K mg base CX0 2 T.f__law_one T.fd__law_one ["_law_source", "_law_some"] (sp__law_one K) := by
  refine Fun.ok T.F__law_one sc__law_one (fun vs H Q E h => ?_) (fun cdv A outer s H vs Q E hr h => ?_)
  · obtain ⟨_, _, _, _, rfl, _⟩ := h; rfl
  · refine ⟨_, (pss_one (ps_ret (pe_ix (r := rIxL K) ix_list (pv 1) (pe_call (ok__law_next T) hr (by rfl) T.g__law_next T.k__law_next T.b__law_next .nil pass0 (pa_cons (pv 0) (pa_cons (pe_callB (id := "len") (r := rLenS K) call_len_seq (by rfl) T.n_len PySem.boot_len (pa_cons (pv 1) pa_nil)) pa_nil))) (fun _ _ => rfl)))), ?_⟩
    obtain ⟨s, l, n, xs, rfl, hs, hn, nls, hl, h0, h1, k⟩ := h
    refine ⟨_, rfl, _, rfl, _, rfl, l, xs, rfl, .inl hl, s, _, n, rfl, hs, by omega, by omega, (by show xs.length < 2 ^ 8000; exact Nat.lt_of_le_of_lt h1 (by decide +kernel)), fun f H' f0 f1 e s' => ?_⟩
    have hk : f.toNat < xs.length := by omega
    refine ⟨l, xs, f, xs[f.toNat], rfl, rfl, e.l nls hl, at_of (j := f.toNat) (by omega) (List.getElem?_eq_getElem hk), ?_⟩
    exact k _ (List.getElem_mem hk) H' e s'
-- DEF _law_mixed

def sp__law_mixed (K : PySem.W.Frag) : Sp := fun vs H Q _ => ∃ (s l : Addr) (n : Int) (xs : List V), vs = [.ref s, .ref l] ∧ SrcAt H s n ∧ n ≤ 500000000 ∧ l ≠ s ∧ SqL K H l xs ∧ xs.length ≤ 100 ∧ (∀ v ∈ xs, DatV K H s v) ∧
  ∀ (ys : List V) (p : Addr) (H' : Hp), ys.Perm xs → H p = none → ExB s H H' → SrcAt H' s (n + 100) → H' p = some (.lst ys) → Q (.ref p) H'

theorem ok__law_mixed (T : Txt K mg) : FnOk P w K mg base CX0 2 T.f__law_mixed T.fd__law_mixed ["_law_source", "_law_some"] (sp__law_mixed K) := by
  refine Fun.ok T.F__law_mixed sc__law_mixed (fun vs H Q E h => ?_) (fun cdv A outer s H vs Q E hr h => ?_)
  · obtain ⟨_, _, _, _, rfl, _⟩ := h; rfl
  · refine ⟨_, (pss_cons (ps_set (i := 2) sc__law_mixed.nd rfl (by first | exact Or.inl rfl | exact Or.inr rfl) (pe_callTy (T := "list") (r := rListS K) call_list_of (by rfl) T.n_list (by decide +kernel) (pa_cons (pv 1) pa_nil)))
      (pss_cons (ps_set (i := 3) sc__law_mixed.nd rfl (by first | exact Or.inl rfl | exact Or.inr rfl) (pe_lst pa_nil))
      (pss_cons (ps_while PassesOwn.never (pt_cmpR (r := rNeD K) (op_neD hr.units) (pv 2) (pe_lst pa_nil) (nomark _))
        (pss_one (ps_expr (pe_bm PySem.F.plainAttrs_list PySem.F.slot_list_append PySem.F.type_list_append mt_append (pv 3) (pa_cons (pe_bm PySem.F.plainAttrs_list PySem.F.slot_list_pop PySem.F.type_list_pop mt_popAt (pv 2) (pa_cons (pe_call (ok__law_next T) hr (by rfl) T.g__law_next T.k__law_next T.b__law_next .nil pass0 (pa_cons (pv 0) (pa_cons (pe_callB (id := "len") (r := rLenS K) call_len_seq (by rfl) T.n_len PySem.boot_len (pa_cons (pv 2) pa_nil)) pa_nil))) pa_nil)) pa_nil)))))
      (pss_one (ps_ret (pv 3)))))), ?_⟩
    obtain ⟨s, l, n, xs, rfl, hs, hn, nls, hl, h1, hd, k⟩ := h
    -- left, found
    refine ⟨_, rfl, l, xs, rfl, .inl hl, fun q nq => ?_⟩
    refine ⟨Nat.zero_le _, fun p np => ?_⟩
    have nqs : q ≠ s := hs.ne nq
    have nps : p ≠ s := (hs.ex (Ex.new nq)).ne np
    have npq : p ≠ q := (ne_of_none upd_same np).symm
    have npH : H p = none := fresh_back (Ex.new nq) np
    refine ⟨fun m σ H' => ∃ ls fs : List V, σ = [some (.ref s), some (.ref l), some (.ref q), some (.ref p)] ∧ m = ls.length ∧ (fs ++ ls).Perm xs ∧ H' q = some (.lst ls) ∧ H' p = some (.lst fs) ∧ ExB s H H' ∧ SrcAt H' s (n + fs.length),
      ⟨xs.length, xs, [], rfl, rfl, .refl _, ?_, upd_same, ?_, ?_⟩, ?_⟩
    · rw [upd_ne npq.symm]
      exact upd_same
    · exact ExB.of ((Ex.new nq).trans (Ex.new np))
    · exact (hs.ex ((Ex.new nq).trans (Ex.new np))).le (by simp)
    rintro m σ H1 ⟨ls, fs, rfl, rfl, hp, hq, hpf, e1, s1⟩
    have hlen : fs.length + ls.length = xs.length := by
      rw [← List.length_append]
      exact hp.length_eq
    obtain ⟨ds, d1, d2, d3⟩ := dat_all (K := K) (H := H1) (s := s) (xs := ls) fun v hv => (hd v (hp.mem_iff.mp (List.mem_append_right _ hv))).exB e1
    refine ⟨_, rfl, Nat.zero_le _, fun z nz => ?_⟩
    have x1 : Ex H1 (upd H1 z (.lst [])) := Ex.new nz
    refine ⟨_, _, .lst (SqL.of (x1 _ _ hq)) (dpAll_ex x1 d1), .lst (SqL.of upd_same) .nil, shaped_list d2 (by omega), rfl, _, rfl, ?_⟩
    rw [eqv_nil]
    cases ls with
    | nil =>
      cases d1
      refine iteF ?_
      refine ⟨_, rfl, ?_⟩
      rw [List.append_nil] at hp
      exact k fs p _ hp npH (e1.trans (ExB.of x1)) ((s1.ex x1).le (by have := hp.length_eq; omega)) (x1 _ _ hpf)
    | cons y0 ls0 =>
      cases d1 with
      | cons _ _ =>
        refine iteT ?_
        refine ⟨fun σ' H' => ∃ ls' fs' : List V, σ' = [some (.ref s), some (.ref l), some (.ref q), some (.ref p)] ∧ ls'.length < (y0 :: ls0).length ∧ (fs' ++ ls').Perm xs ∧ H' q = some (.lst ls') ∧ H' p = some (.lst fs') ∧ ExB s H H' ∧ SrcAt H' s (n + fs'.length),
          fun σ' H' ⟨ls', fs', a1, a2, a3, a4, a5, a6, a7⟩ => ⟨ls'.length, a2, ls', fs', a1, rfl, a3, a4, a5, a6, a7⟩, ?_⟩
        refine ⟨_, rfl, .inl ⟨rfl, _, SqL.of (x1 _ _ hpf)⟩, _, rfl, .inl ⟨rfl, _, SqL.of (x1 _ _ hq)⟩, _, rfl, _, rfl, q, _, rfl, .inl (SqL.of (x1 _ _ hq)), s, _, n + fs.length, rfl, s1.ex x1, by omega, (by simp only [List.length_cons]; omega), ?_, fun f H2 f0 f1 e2 s2 => ?_⟩
        · show (((y0 :: ls0).length : Nat) : Int).natAbs < 2 ^ 8000
          rw [Int.natAbs_natCast]
          exact Nat.lt_of_le_of_lt (show (y0 :: ls0).length ≤ 100 by omega) (by decide +kernel)
        · have hk : f.toNat < (y0 :: ls0).length := by omega
          have hy := List.getElem?_eq_getElem hk
          refine ⟨q, _, f, f.toNat, _, rfl, rfl, e2 _ _ nqs (x1 _ _ hq), by omega, by omega, seqIx (n := 0) f0 f1, hy, ?_⟩
          refine ⟨p, fs, _, rfl, rfl, ?_, small1000 (by omega), ?_⟩
          · rw [upd_ne npq]
            exact e2 _ _ nps (x1 _ _ hpf)
          · refine ⟨_, _, rfl, ?_, (perm_pop hy).trans hp, ?_, upd_same, ?_, ?_⟩
            · rw [List.length_eraseIdx_of_lt hk]
              omega
            · rw [upd_ne npq.symm]
              exact upd_same
            · refine fun b o nb h => ?_
              have nbp := ne_of_none h npH
              have nbq := ne_of_none h nq
              rw [upd_ne nbp, upd_ne nbq]
              exact e2 _ _ nb (x1 _ _ (e1 _ _ nb h))
            · have s3 : SrcAt H2 s (n + ((fs ++ [(y0 :: ls0)[f.toNat]]).length : Nat)) := s2.le (by rw [List.length_append]; simp; omega)
              obtain ⟨a1, a2, a3, a4, a5⟩ := s3
              exact ⟨a1, a2, a3, by rw [upd_ne nps.symm, upd_ne nqs.symm]; exact a4, a5⟩
-- DEF plus

def sp_plus (K : PySem.W.Frag) : Sp := fun vs H Q _ => ∃ (p q : Addr) (x y : Rat), vs = [.ref p, .ref q] ∧ H p = some (.tup (frV x)) ∧ H q = some (.tup (frV y)) ∧ Bd 100000 x.num ∧ Bd 100000 (x.den : Int) ∧ Bd 100000 y.num ∧ Bd 100000 (y.den : Int) ∧ Bd 9000 ((x.den : Int) * (y.den : Int)) ∧
  ∀ (r : Addr) (H' : Hp), H r = none → Ex H H' → H' r = some (.tup (frV (x + y))) → Q (.ref r) H'

theorem ok_plus (T : Txt K mg) : FnOk P w K mg base CX0 3 T.f_plus T.fd_plus ["one", "other"] (sp_plus K) := by
  refine Fun.ok T.F_plus sc_plus (fun vs H Q E h => ?_) (fun cdv A outer s H vs Q E hr h => ?_)
  · obtain ⟨_, _, _, _, rfl, _⟩ := h; rfl
  · refine ⟨_, (pss_one (ps_ret (pe_call (ok_fraction T) hr (by rfl) T.g_fraction T.k_fraction T.b_fraction .nil pass0 (pa_cons (pe_op op_add (pe_op op_mulW (pe_ix (r := rIxT K) ix_tup (pv 0) pe_int (fun _ _ => rfl)) (pe_ix (r := rIxT K) ix_tup (pv 1) pe_int (fun _ _ => rfl))) (pe_op op_mulW (pe_ix (r := rIxT K) ix_tup (pv 1) pe_int (fun _ _ => rfl)) (pe_ix (r := rIxT K) ix_tup (pv 0) pe_int (fun _ _ => rfl)))) (pa_cons (pe_op op_mulW (pe_ix (r := rIxT K) ix_tup (pv 0) pe_int (fun _ _ => rfl)) (pe_ix (r := rIxT K) ix_tup (pv 1) pe_int (fun _ _ => rfl))) pa_nil))))), ?_⟩
    obtain ⟨p, q, x, y, rfl, hp, hq, ba, bb, bc, bd, bz, k⟩ := h
    unfold frV at hp hq
    refine ⟨_, rfl, p, _, _, _, rfl, rfl, SqT.of hp, rfl, _, rfl, q, _, _, _, rfl, rfl, SqT.of hq, rfl, _, _, rfl, rfl, ba.mulOk bd, ?_⟩
    
    refine ⟨_, rfl, q, _, _, _, rfl, rfl, SqT.of hq, rfl, _, rfl, p, _, _, _, rfl, rfl, SqT.of hp, rfl, _, _, rfl, rfl, bc.mulOk bb, _, _, rfl, rfl, ?_⟩
    refine ⟨_, rfl, p, _, _, _, rfl, rfl, SqT.of hp, rfl, _, rfl, q, _, _, _, rfl, rfl, SqT.of hq, rfl, _, _, rfl, rfl, bb.mulOk bd, ?_⟩
    refine ⟨_, _, rfl, den_ne x y, bz, fun r H' nr e hr => k r H' nr e ?_⟩
    rw [hr, fr_com (den_pos x y), fr_plus]
-- DEF times

def sp_times (K : PySem.W.Frag) : Sp := fun vs H Q _ => ∃ (p q : Addr) (x y : Rat), vs = [.ref p, .ref q] ∧ H p = some (.tup (frV x)) ∧ H q = some (.tup (frV y)) ∧ Bd 100000 x.num ∧ Bd 100000 (x.den : Int) ∧ Bd 100000 y.num ∧ Bd 100000 (y.den : Int) ∧ Bd 9000 ((x.den : Int) * (y.den : Int)) ∧
  ∀ (r : Addr) (H' : Hp), H r = none → Ex H H' → H' r = some (.tup (frV (x * y))) → Q (.ref r) H'

theorem ok_times (T : Txt K mg) : FnOk P w K mg base CX0 3 T.f_times T.fd_times ["one", "other"] (sp_times K) := by
  refine Fun.ok T.F_times sc_times (fun vs H Q E h => ?_) (fun cdv A outer s H vs Q E hr h => ?_)
  · obtain ⟨_, _, _, _, rfl, _⟩ := h; rfl
  · refine ⟨_, (pss_one (ps_ret (pe_call (ok_fraction T) hr (by rfl) T.g_fraction T.k_fraction T.b_fraction .nil pass0 (pa_cons (pe_op op_mulW (pe_ix (r := rIxT K) ix_tup (pv 0) pe_int (fun _ _ => rfl)) (pe_ix (r := rIxT K) ix_tup (pv 1) pe_int (fun _ _ => rfl))) (pa_cons (pe_op op_mulW (pe_ix (r := rIxT K) ix_tup (pv 0) pe_int (fun _ _ => rfl)) (pe_ix (r := rIxT K) ix_tup (pv 1) pe_int (fun _ _ => rfl))) pa_nil))))), ?_⟩
    obtain ⟨p, q, x, y, rfl, hp, hq, ba, bb, bc, bd, bz, k⟩ := h
    unfold frV at hp hq
    refine ⟨_, rfl, p, _, _, _, rfl, rfl, SqT.of hp, rfl, _, rfl, q, _, _, _, rfl, rfl, SqT.of hq, rfl, _, _, rfl, rfl, ba.mulOk bc, ?_⟩
    refine ⟨_, rfl, p, _, _, _, rfl, rfl, SqT.of hp, rfl, _, rfl, q, _, _, _, rfl, rfl, SqT.of hq, rfl, _, _, rfl, rfl, bb.mulOk bd, ?_⟩
    refine ⟨_, _, rfl, den_ne x y, bz, fun r H' nr e hr => k r H' nr e ?_⟩
    rw [hr, fr_com (den_pos x y), fr_mul]
-- DEF is_fractions

def sp_is_fractions (K : PySem.W.Frag) : Sp := fun vs H Q _ => ∃ (a : Addr) (bs : List Addr) (qs : List Rat) (n : Int), vs = [.ref a, .int n] ∧ FrL H a bs qs ∧ (qs.length : Int) = n ∧ qs.length ≤ 100 ∧ ∀ H', Ex H H' → Q (.bl true) H'

theorem ok_is_fractions (T : Txt K mg) : FnOk P w K mg base CX0 3 T.f_is_fractions T.fd_is_fractions ["thing", "many"] (sp_is_fractions K) := by
  refine Fun.ok T.F_is_fractions sc_is_fractions (fun vs H Q E h => ?_) (fun cdv A outer s H vs Q E hr h => ?_)
  · obtain ⟨_, _, _, _, rfl, _⟩ := h; rfl
  · refine ⟨_, (pss_one (ps_ret (pe_and (pe_call (ok_is_long T) (hr.mono (by decide)) (by rfl) T.g_is_long T.k_is_long T.b_is_long .nil pass0 (pa_cons (pv 0) (pa_cons (pv 1) pa_nil))) (pe_one (pe_callB (id := "all") (r := rAll K) (cr_all rfl) (by rfl) T.n_all (by decide +kernel) (pa_cons (pe_lc (own := [("value", 2)]) (wi := iList K _) (g := gName 2) (tt := tYes) rfl sc_is_fractions.nd (pi_list (pv 0)) (blkOk_by (N := ["thing", "many", "value"]) (sc := (defScope s_is_fractions)) (by decide +kernel)) (fun _ _ _ _ _ => pg_name (i := 2) sc_is_fractions.nd rfl (Or.inl rfl)) (fun _ _ _ _ _ => pts_nil) (fun _ _ _ _ _ => (pe_call (ok_is_fraction T) hr (by rfl) T.g_is_fraction T.k_is_fraction T.b_is_fraction .nil pass0 (pa_cons (pv 2) pa_nil)))) pa_nil)))))), ?_⟩
    obtain ⟨a, bs, qs, n, rfl, ha, hl, h8, k⟩ := h
    have el : bs.length = qs.length := Paired.length ha.2
    refine s_ret (ev_andV (a := true) (b := true) (ev_fn (sp := sp_is_long K) (ea_cons (ev_var rfl) (ea_cons (ev_var rfl) ea_nil)) fun H3 e3 Q3 q3 => ⟨a, _, n, rfl, e3 _ _ ha.1, by rw [List.length_map, el]; exact hl, q3⟩) (fun _ => ev_all (el_yes (a := a) rfl ha.1 (by rw [List.length_map]; omega) (fun x H' hx e => ?_) (fun x => rfl)))) fun H' e => k H' e
    obtain ⟨y, hy, rfl⟩ := List.mem_map.mp hx
    obtain ⟨i, hi⟩ := List.mem_iff_getElem?.mp hy
    obtain ⟨q, hq, hh⟩ := paired_get ha.2 hi
    refine ev_fn (ea_cons (ev_var rfl) ea_nil) fun H3 e3 Q3 q3 => ⟨_, true, rfl, ?_, q3 H3 (Ex.refl _)⟩
    have h2 := FracV.two (K := K) ((e.trans e3) _ _ hh)
    rw [fr_true] at h2
    exact h2
-- DEF is_table

def sp_is_table (K : PySem.W.Frag) : Sp := fun vs H Q _ => ∃ (p : Addr) (as : List Addr) (rows : List (List Int)) (m w : Nat), vs = [.ref p] ∧ TabOk H p as rows m w ∧ ∀ H', Ex H H' → Q (.bl true) H'

theorem ok_is_table (T : Txt K mg) : FnOk P w K mg base CX0 3 T.f_is_table T.fd_is_table ["thing"] (sp_is_table K) := by
  refine Fun.ok T.F_is_table sc_is_table (fun vs H Q E h => ?_) (fun cdv A outer s H vs Q E hr h => ?_)
  · obtain ⟨_, _, _, _, _, rfl, _⟩ := h; rfl
  · refine ⟨_, (pss_cons (ps_if (PW.pt (pw_or (pt_not (pt_val (pe_callB (id := "isinstance") (r := rIsi K) call_isi (by rfl) T.n_isinstance (by decide +kernel) (pa_cons (pv 0) (pa_cons (pe_bltn (v := .ty "list") (by rfl) T.n_list (by decide +kernel) rfl) pa_nil))))) (pw_or1 (pt_not (pt_chain op_le op_le pe_int (pe_callB (id := "len") (r := rLenS K) call_len_seq (by rfl) T.n_len PySem.boot_len (pa_cons (pv 0) pa_nil)) (pe_glob (v := .int 8) (by rfl) T.g_MOST ⟨_, rfl⟩))))))
        (pss_one (ps_ret pe_bl))
        pss_nil)
      (pss_cons (ps_if (pt_not (pt_val (pe_callB (id := "all") (r := rAll K) (cr_all rfl) (by rfl) T.n_all (by decide +kernel) (pa_cons (pe_lc (own := [("row", 1)]) (wi := iList K _) (g := gName 1) (tt := tYes) rfl sc_is_table.nd (pi_list (pv 0)) (blkOk_by (N := ["thing", "row"]) (sc := (defScope s_is_table)) (by decide +kernel)) (fun _ _ _ _ _ => pg_name (i := 1) sc_is_table.nd rfl (Or.inl rfl)) (fun _ _ _ _ _ => pts_nil) (fun _ _ _ _ _ => (pe_call (ok_is_row T) hr (by rfl) T.g_is_row T.k_is_row T.b_is_row .nil pass0 (pa_cons (pv 1) pa_nil)))) pa_nil))))
        (pss_one (ps_ret pe_bl))
        pss_nil)
      (pss_one (ps_ret (pe_callB (id := "all") (r := rAll K) (cr_all rfl) (by rfl) T.n_all (by decide +kernel) (pa_cons (pe_lc (own := [("row", 1)]) (wi := iList K _) (g := gName 1) (tt := tYes) rfl sc_is_table.nd (pi_list (pv 0)) (blkOk_by (N := ["thing", "row"]) (sc := (defScope s_is_table)) (by decide +kernel)) (fun _ _ _ _ _ => pg_name (i := 1) sc_is_table.nd rfl (Or.inl rfl)) (fun _ _ _ _ _ => pts_nil) (fun _ _ _ _ _ => (pe_cmpR op_eq (pe_callB (id := "len") (r := rLenS K) call_len_seq (by rfl) T.n_len PySem.boot_len (pa_cons (pv 1) pa_nil)) (pe_callB (id := "len") (r := rLenS K) call_len_seq (by rfl) T.n_len PySem.boot_len (pa_cons (pe_ix (r := rIxL K) ix_list (pv 0) pe_int (fun _ _ => rfl)) pa_nil)) (nomark _)))) pa_nil)))))), ?_⟩
    obtain ⟨p, as, rows, m, w, rfl, hT, k⟩ := h
    have hb := hT.b
    refine q_when (b := false) (et_is (et_or (et_not (et_B (ev_isi (t := "list") (b := true) (ev_var rfl) ev_c (fun H1 e => .base (.lst (e _ _ hT.tab.1))) (by decide +kernel)))) (fun _ => et_not (et_test (ev_chain ev_c (ev_is (ev_len (ev_var rfl) (SqL.of hT.tab.1)) (by rw [List.length_map, hT.al])) ev_c rv_le rv_le)))) ?_) (fun z => nomatch z) (fun _ H1 e1 => ?_)
    · rw [decide_eq_true (show (1 : Int) ≤ (m : Int) by omega), decide_eq_true (show (m : Int) ≤ 8 by omega)]
      rfl
    have hT1 := hT.ex e1
    refine q_when (b := false) (et_not (et_B (ev_all (el_yes (a := p) rfl hT1.tab.1 (by rw [List.length_map, hT.al]; omega) (fun x H' hx e => ?_) (fun x => rfl))))) (fun z => nomatch z) (fun _ H2 e2 => ?_)
    · obtain ⟨a, ha, rfl⟩ := List.mem_map.mp hx
      obtain ⟨r, hr, hh⟩ := paired_mem hT1.tab.2 ha
      have := hT1.w_ r hr
      exact ev_fn (ea_cons (ev_var rfl) ea_nil) fun H3 e3 Q3 q3 => ⟨a, r, rfl, (e.trans e3) _ _ hh, by omega, by omega, q3⟩
    have hT2 := hT1.ex e2
    refine s_ret (ev_all (el_yes (a := p) rfl hT2.tab.1 (by rw [List.length_map, hT.al]; omega) (fun x H' hx e => ?_) (fun x => rfl))) fun H3 e3 => k H3 ((e1.trans e2).trans e3)
    obtain ⟨a, ha, rfl⟩ := List.mem_map.mp hx
    obtain ⟨r, hr, hh⟩ := paired_mem hT2.tab.2 ha
    obtain ⟨a0, r0, _, _, hh0, hl0, at0⟩ := hT2.row0
    have := hT2.w_ r hr
    refine ev_is (ev_op (ev_len (ev_var rfl) (SqL.of (e _ _ hh))) (ev_len (ev_op (ev_var rfl) ev_c (rv_ixL (SqL.of (e _ _ hT2.tab.1)) at0)) (SqL.of (e _ _ hh0))) (rv_eq rfl)) ?_
    rw [List.length_map, List.length_map, hl0, this]
    exact congrArg V.bl (decide_eq_true rfl)
-- DEF check_places

def sp_check_places (K : PySem.W.Frag) : Sp := fun vs H Q _ => ∃ (a : Addr) (n : Int) (ns : List Int), vs = [.ref a, .int n] ∧ H a = some (.lst (ns.map V.int)) ∧ Rising n ns ∧ ∀ H', Ex H H' → Q .non H'

theorem ok_check_places (T : Txt K mg) : FnOk P w K mg base CX0 3 T.f_check_places T.fd_check_places ["thing", "many"] (sp_check_places K) := by
  refine Fun.ok T.F_check_places sc_check_places (fun vs H Q E h => ?_) (fun cdv A outer s H vs Q E hr h => ?_)
  · obtain ⟨_, _, _, rfl, _⟩ := h; rfl
  · refine ⟨_, (pss_cons (ps_if (pt_not (pt_val (pe_callB (id := "isinstance") (r := rIsi K) call_isi (by rfl) T.n_isinstance (by decide +kernel) (pa_cons (pv 0) (pa_cons (pe_bltn (v := .ty "list") (by rfl) T.n_list (by decide +kernel) rfl) pa_nil)))))
        (pss_one ps_never)
        pss_nil)
      (pss_cons (ps_set (i := 2) sc_check_places.nd rfl (by first | exact Or.inl rfl | exact Or.inr rfl) (pe_un un_neg pe_int))
      (pss_one (ps_for PassesOwn.never rfl (pi_enum (by rfl) T.n_enumerate (pa_cons (pv 0) pa_nil)) (pg_tup rfl (pgs_cons (pg_name (i := 3) sc_check_places.nd rfl (by first | exact Or.inl rfl | exact Or.inr rfl)) (pgs_cons (pg_name (i := 4) sc_check_places.nd rfl (by first | exact Or.inl rfl | exact Or.inr rfl)) pgs_nil)))
        (pss_cons (ps_if (PW.pt (pw_or (pt_not (pt_val (pe_call (ok_is_place T) hr (by rfl) T.g_is_place T.k_is_place T.b_is_place .nil pass0 (pa_cons (pv 4) (pa_cons (pv 1) pa_nil))))) (pw_or1 (pt_cmpR op_le (pv 4) (pv 2) (nomark _)))))
            (pss_one ps_never)
            pss_nil)
          (pss_one (ps_set (i := 2) sc_check_places.nd rfl (by first | exact Or.inl rfl | exact Or.inr rfl) (pv 4)))))))), ?_⟩
    obtain ⟨a, n, ns, rfl, ha, hR, k⟩ := h
    refine q_when (b := false) (et_not (et_B (ev_isi (t := "list") (b := true) (ev_var rfl) ev_c (fun H1 e => .base (.lst (e _ _ ha))) (by decide +kernel)))) (fun z => nomatch z) (fun _ H1 e1 => ?_)
    refine ⟨_, rfl, ?_⟩
    have ha1 := e1 _ _ ha
    refine ⟨_, rfl, a, _, rfl, SqL.of ha1, for_enum (xs := ns.map V.int) (fun i σ H' => ∃ (y3 y4 : Option V) (ah : Int), σ = [some (.ref a), some (.int n), some (.int ah), y3, y4] ∧ Ex H1 H' ∧ ∀ (j : Nat) x, i ≤ j → ns[j]? = some x → ah < x) ?_ (fun i σ H' ⟨_, _, _, _, x, _⟩ => SqL.of (x _ _ ha1)) ?_ ?_⟩
    · exact ⟨_, _, -1, rfl, Ex.refl _, fun j x _ hx => by have := (hR.1 x (List.mem_of_getElem? hx)).1; omega⟩
    · rintro i x T σ H2 hi ⟨y3, y4, ah, rfl, e2, hah⟩ nT
      rw [List.getElem?_map] at hi
      obtain ⟨y, hy, rfl⟩ := Option.map_eq_some_iff.mp hi
      have xT : Ex H2 (upd H2 T (.tup [.int (i : Nat), .int y])) := Ex.new nT
      refine ⟨T, _, rfl, SqT.of upd_same, rfl, _, _, rfl, _, _, rfl, rfl, ?_⟩
      have hb := hR.1 y (List.mem_of_getElem? hy)
      have h1 := hah i y (Nat.le_refl _) hy
      refine q_when (b := false) (et_is (et_or (et_not (et_B (ev_fn (sp := sp_is_place K) (ea_cons (ev_var rfl) (ea_cons (ev_var rfl) ea_nil)) fun H3 e3 Q3 q3 => ⟨y, n, rfl, q3⟩))) (fun _ => et_test (ev_op (ev_var rfl) (ev_var rfl) rv_le))) ?_) (fun z => nomatch z) (fun _ H3 e3 => ?_)
      · rw [decide_eq_true hb.1, decide_eq_true hb.2, decide_eq_false (show ¬ y ≤ ah by omega)]
        rfl
      · refine ⟨_, rfl, ?_⟩
        refine ⟨_, _, y, rfl, (e2.trans xT).trans e3, fun j x hj hx => ?_⟩
        obtain ⟨hi1, hi2⟩ := List.getElem?_eq_some_iff.mp hy
        obtain ⟨hj1, hj2⟩ := List.getElem?_eq_some_iff.mp hx
        have := List.pairwise_iff_getElem.mp hR.2 i j hi1 hj1 (by omega)
        rw [hi2, hj2] at this
        exact this
    · rintro σ H2 ⟨y3, y4, ah, rfl, e2, _⟩
      exact k H2 (e1.trans e2)
-- DEF square_value
def sp_square_value (K : PySem.W.Frag) : Sp := fun vs H Q _ => ∃ (p : Addr) (as : List Addr) (rows : List (List Int)) (n b : Nat), vs = [.ref p] ∧ TabOk H p as rows n n ∧ 0 < b ∧ (∀ r ∈ rows, ∀ y ∈ r, Bd b y) ∧ (b + 1) * 2 ^ (n - 2) ≤ 9000 ∧
  ∀ (d : Int) H', ((d : Int) : Rat) = Dt.det n (Dt.mx rows) → Bd 40002 d → Ex H H' → Q (.int d) H'

theorem ok_square_value (T : Txt K mg) : FnOk P w K mg base CX0 3 T.f_square_value T.fd_square_value ["square"] (sp_square_value K) := by
  refine Fun.ok T.F_square_value sc_square_value (fun vs H Q E h => ?_) (fun cdv A outer s H vs Q E hr h => ?_)
  · obtain ⟨_, _, _, _, _, rfl, _⟩ := h; rfl
  · refine ⟨_, (pss_cons (ps_asg (pe_call (ok_cleared T) hr (by rfl) T.g_cleared T.k_cleared T.b_cleared .nil pass0 (pa_cons (pv 0) pa_nil)) (pg_tup rfl (pgs_cons (pg_name (i := 1) sc_square_value.nd rfl (by first | exact Or.inl rfl | exact Or.inr rfl)) (pgs_cons (pg_name (i := 2) sc_square_value.nd rfl (by first | exact Or.inl rfl | exact Or.inr rfl)) pgs_nil))))
      (pss_one (ps_ret (pe_ifExp (pt_cmpR op_eq (pv 1) (pe_callB (id := "len") (r := rLenS K) call_len_seq (by rfl) T.n_len PySem.boot_len (pa_cons (pv 0) pa_nil)) (nomark _)) (pv 2) pe_int)))), ?_⟩
    obtain ⟨p, as, rows, n, b, rfl, hT, hb0, hb, hbits, k⟩ := h
    have PP := Dt.pc_all hT.m_ hT.w_ hb hb0 n (Nat.le_refl _)
    have hbn := hT.b
    have bD : Bd 40002 (if (Dt.clears rows n).steps = n then (Dt.clears rows n).sign * (Dt.clears rows n).corner else 0) := by
      have bits : (b + 1) * 2 ^ (Dt.clears rows n).steps - 1 ≤ 40000 := by
        have h1 := Nat.mul_le_mul_left (b + 1) (Nat.pow_le_pow_right (show 0 < 2 by decide) (show (Dt.clears rows n).steps ≤ (n - 2) + 2 by have := PP.sm_; omega))
        rw [Nat.pow_add, ← Nat.mul_assoc] at h1
        omega
      have bs : Bd 2 (Dt.clears rows n).sign := by
        rcases PP.sn with z | z <;> rw [z] <;> unfold Bd <;> decide
      split
      · exact (bs.mul (Dt.bdz_mono PP.cb bits : Bd 40000 _)).mono (by decide)
      · exact bd_zero
    refine ⟨_, rfl, p, as, rows, n, n, b, rfl, hT, hb0, hb, hbits, fun t H1 nt e1 ht => ?_⟩
    refine ⟨t, _, rfl, SqT.of ht, rfl, _, _, rfl, _, _, rfl, rfl, ?_⟩
    have hd := Dt.clears_det (n := n) (R := rows) ⟨hT.m_, hT.w_⟩
    refine s_ret (v := .int (if (Dt.clears rows n).steps = n then (Dt.clears rows n).sign * (Dt.clears rows n).corner else 0)) (ev_if (b := decide (V.int (((Dt.clears rows n).steps : Nat) : Int) = V.int (n : Int))) (et_test (ev_op (ev_var rfl) (ev_is (ev_len (ev_var rfl) (SqL.of (hT.ex e1).tab.1)) (by rw [List.length_map, (hT.ex e1).al])) (rv_eq rfl))) (fun g => ?_) (fun g => ?_)) fun H2 e2 => k _ H2 hd bD (e1.trans e2)
    · have := V.int.inj (of_decide_eq_true g)
      exact ev_is (ev_var rfl) (by rw [if_pos (by omega)])
    · exact ev_is ev_c (by rw [if_neg (fun z => of_decide_eq_false g (by rw [z]))])
-- DEF _law_ends

def sp__law_ends (K : PySem.W.Frag) : Sp := fun vs H Q _ => ∃ (s : Addr) (n m : Int), vs = [.ref s, .int m] ∧ SrcAt H s n ∧ n ≤ 400000000 ∧ 1 ≤ m ∧ m ≤ 8 ∧
  ∀ (as : List Addr) (es : List (Int × Int)) (p : Addr) (H' : Hp), (es.length : Int) = m → (∀ e ∈ es, 0 ≤ e.1 ∧ e.1 ≤ m ∧ 0 ≤ e.2 ∧ e.2 ≤ m) → Conn es m → EdgesAt H' as es → H' p = some (.lst (as.map V.ref)) → H p = none → ExB s H H' → SrcAt H' s (n + 300) → Q (.ref p) H'

theorem ok__law_ends (T : Txt K mg) : FnOk P w K mg base CX0 3 T.f__law_ends T.fd__law_ends ["_law_source", "_law_many"] (sp__law_ends K) := by
  refine Fun.ok T.F__law_ends sc__law_ends (fun vs H Q E h => ?_) (fun cdv A outer s H vs Q E hr h => ?_)
  · obtain ⟨_, _, _, rfl, _⟩ := h; rfl
  · refine ⟨_, (pss_cons (ps_set (i := 2) sc__law_ends.nd rfl (by first | exact Or.inl rfl | exact Or.inr rfl) (pe_call (ok__law_mixed T) hr (by rfl) T.g__law_mixed T.k__law_mixed T.b__law_mixed .nil pass0 (pa_cons (pv 0) (pa_cons (pe_listRg rfl (by rfl) T.n_list (prg_1 (by rfl) T.n_range (pe_op op_add (pv 1) pe_int))) pa_nil))))
      (pss_cons (ps_set (i := 3) sc__law_ends.nd rfl (by first | exact Or.inl rfl | exact Or.inr rfl) (pe_lst pa_nil))
      (pss_cons (ps_for PassesOwn.never rfl (pi_range1 (by rfl) T.n_range (pa_cons (pv 1) pa_nil)) (pg_name (i := 4) sc__law_ends.nd rfl (by first | exact Or.inl rfl | exact Or.inr rfl))
        (pss_cut (ps_set (i := 5) sc__law_ends.nd rfl (by first | exact Or.inl rfl | exact Or.inr rfl) (pe_tup (pa_cons (pe_ix (r := rIxL K) ix_list (pv 2) (pe_call (ok__law_next T) (hr.mono (by decide)) (by rfl) T.g__law_next T.k__law_next T.b__law_next .nil pass0 (pa_cons (pv 0) (pa_cons (pe_op op_add (pv 4) pe_int) pa_nil))) (fun _ _ => rfl)) (pa_cons (pe_ix (r := rIxL K) ix_list (pv 2) (pe_op op_add (pv 4) pe_int) (fun _ _ => rfl)) pa_nil))))
          (pss_one (ps_expr (pe_bm PySem.F.plainAttrs_list PySem.F.slot_list_append PySem.F.type_list_append mt_append (pv 3) (pa_cons (pe_ix (r := rIxL K) ix_list (pe_lst (pa_cons (pv 5) (pa_cons (pe_revT (pv 5)) pa_nil))) (pe_call (ok__law_next T) (hr.mono (by decide)) (by rfl) T.g__law_next T.k__law_next T.b__law_next .nil pass0 (pa_cons (pv 0) (pa_cons pe_int pa_nil))) (fun _ _ => rfl)) pa_nil))))))
      (pss_one (ps_ret (pe_call (ok__law_mixed T) hr (by rfl) T.g__law_mixed T.k__law_mixed T.b__law_mixed .nil pass0 (pa_cons (pv 0) (pa_cons (pv 3) pa_nil)))))))), ?_⟩
    obtain ⟨s, n, m, rfl, hs, hn, hm1, hm8, k⟩ := h
    refine ⟨_, rfl, _, rfl, _, _, rfl, rfl, _, rfl, RgOk.of_le (by omega) (by omega) (by omega) (by omega), fun q nq => ?_⟩
    have x1 := Ex.new (o := .lst (rgV 0 (m + 1))) nq
    refine ⟨s, q, n, _, rfl, hs.ex x1, by omega, hs.ne nq, SqL.of upd_same, ?_, ?_, fun ys p1 H1 hp np1 e1 s1 h1 => ?_⟩
    · rw [rgV_length]
      omega
    · intro v hv
      rw [rgV_nums] at hv
      obtain ⟨i, _, rfl⟩ := List.mem_map.mp hv
      exact datv_int i
    rw [rgV_nums] at hp
    obtain ⟨pl, rfl, hpl⟩ := perm_ints hp
    have np1H : H p1 = none := fresh_back x1 np1
    have e01 : ExB s H H1 := (ExB.of x1).trans e1
    have hpll : pl.length = m.toNat + 1 := by
      rw [hpl.length_eq, numsTo_length]
      omega
    have hplm : ∀ a, a ∈ pl ↔ 0 ≤ a ∧ a ≤ m := fun a => by
      rw [hpl.mem_iff, mem_numsTo]
      omega
    have np1s : p1 ≠ s := (hs.ex x1).ne np1
    clear hp x1 e1 np1 nq
    -- found
    refine ⟨Nat.zero_le _, fun p2 np2 => ?_⟩
    have x2 : Ex H1 (upd H1 p2 (.lst [])) := Ex.new np2
    have np2s : p2 ≠ s := s1.ne np2
    have np12 : p1 ≠ p2 := ne_of_none h1 np2
    have np2H : H p2 = none := fresh_B e01 np2 s1.obj
    refine ⟨_, rfl, _, rfl, by omega, by omega, for_range (lo := 0) (n := m.toNat) (fun i σ H' => ∃ (y4 y5 : Option V) (as : List Addr) (es : List (Int × Int)), σ = [some (.ref s), some (.int m), some (.ref p1), some (.ref p2), y4, y5] ∧ es.length = i ∧ EdgesAt H' as es ∧ H' p2 = some (.lst (as.map V.ref)) ∧
      ExB s H H' ∧ SrcAt H' s (n + 100 + 2 * i) ∧ H' p1 = some (.lst (pl.map V.int)) ∧ EdgeTree pl es ∧ (∀ e ∈ es, 0 ≤ e.1 ∧ e.1 ≤ m ∧ 0 ≤ e.2 ∧ e.2 ≤ m)) ?_ ?_ ?_⟩
    · exact ⟨_, _, [], [], rfl, rfl, .nil, upd_same, e01.trans (ExB.of x2), (s1.ex x2).le (by omega), x2 _ _ h1, fun j hj => absurd hj (Nat.not_lt_zero _), fun e he => by simp at he⟩
    · rintro i σ H2 hi ⟨y4, y5, as, es, rfl, hes, hE, h2, e2, s2, g1, hT, hb⟩
      have hsz := hes
      have sat : ∀ {j : Nat}, j < pl.length → ∃ z, (pl.map V.int)[j]? = some (.int z) ∧ pl[j]? = some z := fun {j} hj => ⟨pl[j], by rw [List.getElem?_map, List.getElem?_eq_getElem hj]; rfl, List.getElem?_eq_getElem hj⟩
      -- two
      refine ⟨fun σ' H' => ∃ (t : Addr) (f : Nat) (a b : Int), σ' = [some (.ref s), some (.int m), some (.ref p1), some (.ref p2), some (.int (0 + (i : Int))), some (.ref t)] ∧ H' t = some (.tup [.int a, .int b]) ∧ f ≤ i ∧ pl[f]? = some a ∧ pl[i + 1]? = some b ∧ ExB s H2 H' ∧ SrcAt H' s (n + 100 + 2 * i + 1), ?_, ?_⟩
      · refine ⟨_, rfl, _, rfl, _, rfl, _, _, rfl, rfl, s, _, _, rfl, s2, by omega, by omega, ?_, fun f H3 f0 f1 e3 s3 => ?_⟩
        · unfold Bd
          exact Nat.lt_of_lt_of_le (show (0 + (i : Int) + 1).natAbs < 1024 by omega) (by decide +kernel)
        · obtain ⟨a, ha, ha'⟩ := sat (j := f.toNat) (by omega)
          obtain ⟨b, hb, hb'⟩ := sat (j := i + 1) (by omega)
          refine ⟨p1, _, _, _, rfl, rfl, SqL.of (e3 _ _ np1s g1), at_of (j := f.toNat) (by omega) ha, ?_⟩
          refine ⟨_, rfl, _, rfl, _, _, rfl, rfl, p1, _, _, _, rfl, rfl, SqL.of (e3 _ _ np1s g1), at_of (j := i + 1) (by omega) hb, (by show 2 ≤ sizeLine; decide), fun t nt => ?_⟩
          exact ⟨t, f.toNat, a, b, rfl, upd_same, by omega, ha', hb', e3.trans (ExB.of (Ex.new nt)), s3.ex (Ex.new nt)⟩
      · rintro σ' H3 ⟨t, f, a, b, rfl, ht, hf, ha, hb', e3, s3⟩
        have h2' := e3 _ _ np2s h2
        refine ⟨_, rfl, .inl ⟨rfl, _, SqL.of h2'⟩, _, rfl, _, rfl, t, _, _, rfl, SqT.of ht, fun u nu => ?_⟩
        have xu : Ex H3 (upd H3 u (.tup [.int b, .int a])) := Ex.new nu
        refine ⟨(by show 2 ≤ sizeLine; decide), fun l nl => ?_⟩
        have xl : Ex (upd H3 u (.tup [.int b, .int a])) (upd (upd H3 u (.tup [.int b, .int a])) l (.lst [.ref t, .ref u])) := Ex.new nl
        have xx := xu.trans xl
        refine ⟨_, rfl, s, 2, _, rfl, s3.ex xx, by omega, by decide, (by unfold Bd; decide +kernel), fun g H4 g0 gl e4 s4 => ?_⟩
        have nls : l ≠ s := (s3.ex xu).ne nl
        have hl4 := e4 _ _ nls (upd_same (H := upd H3 u (.tup [.int b, .int a])) (a := l) (o := .lst [.ref t, .ref u]))
        have st : ∀ c xs, H2 c = some (.tup xs) → H4 c = some (.tup xs) := fun c xs h => tups_B (s3.ex xx) e4 _ _ (tups_E xx _ _ (tups_B s2 e3 _ _ h))
        have st3 : ∀ c xs, H3 c = some (.tup xs) → H4 c = some (.tup xs) := fun c xs h => tups_B (s3.ex xx) e4 _ _ (tups_E xx _ _ h)
        have stu : H4 u = some (.tup [.int b, .int a]) := tups_B (s3.ex xx) e4 _ _ (xl _ _ upd_same)
        have p2' := e4 _ _ np2s (xx _ _ h2')
        have al : as.length = i := by rw [Paired.length hE, hes]
        have fin : ∀ (v : Addr) (e : Int × Int), H4 v = some (.tup [.int e.1, .int e.2]) → (e = (a, b) ∨ e = (b, a)) → rAppend (.ref p2) [.ref v] H4 fun _ H' => ∃ (y4 y5 : Option V) (as : List Addr) (es : List (Int × Int)), [some (V.ref s), some (.int m), some (.ref p1), some (.ref p2), some (.int (0 + (i : Int))), some (.ref t)] = [some (.ref s), some (.int m), some (.ref p1), some (.ref p2), y4, y5] ∧ es.length = i + 1 ∧ EdgesAt H' as es ∧ H' p2 = some (.lst (as.map V.ref)) ∧
            ExB s H H' ∧ SrcAt H' s (n + 100 + 2 * ((i + 1 : Nat) : Int)) ∧ H' p1 = some (.lst (pl.map V.int)) ∧ EdgeTree pl es ∧ (∀ e ∈ es, 0 ≤ e.1 ∧ e.1 ≤ m ∧ 0 ≤ e.2 ∧ e.2 ≤ m) := by
          intro v e hv he
          refine ⟨p2, _, _, rfl, rfl, p2', small1000 (by rw [List.length_map]; omega), _, _, as ++ [v], es ++ [e], rfl, ?_, ?_, ?_, ?_, ?_, ?_, ?_, ?_⟩
          · rw [List.length_append, hes]
            rfl
          · exact paired_imp (fun c d h => tups_U p2' _ _ h) (paired_snoc (EdgesAt.mono st hE) hv)
          · rw [upd_same, List.map_append]
            rfl
          · refine fun c o nc h => ?_
            rw [upd_ne (ne_of_none h np2H)]
            exact e4 _ _ nc (xx _ _ (e3 _ _ nc (e2 _ _ nc h)))
          · obtain ⟨a1, a2, a3, a4, a5, a6, a7, a8⟩ := s4
            exact ⟨a1, a2, a3, by rw [upd_ne np2s.symm]; exact a4, a5, a6, a7, by omega⟩
          · rw [upd_ne np12]
            exact e4 _ _ np1s (xx _ _ (e3 _ _ np1s g1))
          · exact hT.more (by omega) ha (by rw [hes]; exact hb') he
          · intro e' he'
            rcases List.mem_append.mp he' with h | h
            · exact hb e' h
            · have e1 : e' = e := by simpa using h
              subst e1
              have ma := (hplm a).mp (List.mem_of_getElem? ha)
              have mb := (hplm b).mp (List.mem_of_getElem? hb')
              rcases he with rfl | rfl
              · exact ⟨ma.1, ma.2, mb.1, mb.2⟩
              · exact ⟨mb.1, mb.2, ma.1, ma.2⟩
        have hg : g = 0 ∨ g = 1 := by omega
        rcases hg with rfl | rfl
        · exact ⟨l, _, _, .ref t, rfl, rfl, SqL.of hl4, rfl, fin t (a, b) (st3 _ _ ht) (.inl rfl)⟩
        · exact ⟨l, _, _, .ref u, rfl, rfl, SqL.of hl4, rfl, fin u (b, a) stu (.inr rfl)⟩
    · rintro σ H2 ⟨y4, y5, as, es, rfl, hes, hE, h2, e2, s2, g1, hT, hb⟩
      have al : as.length = m.toNat := by rw [Paired.length hE, hes]
      refine ⟨_, rfl, _, rfl, s, p2, _, _, rfl, s2, by omega, np2s, SqL.of h2, (by rw [List.length_map]; omega), fun v hv => ?_, fun ys p H3 hp np e3 s3 h3 => ?_⟩
      · obtain ⟨c, hc, rfl⟩ := List.mem_map.mp hv
        obtain ⟨d, _, hd⟩ := paired_mem hE hc
        exact datv_pair hd (s2.neT hd)
      · obtain ⟨as', es', rfl, pe, hE', _⟩ := perm_refs hp hE
        refine k as' es' p H3 ?_ (fun e he => hb e (pe.mem_iff.mp he)) ?_ (EdgesAt.mono (tups_B s2 e3) hE') h3 (fresh_B e2 np s2.obj) (e2.trans e3) (s3.le (by omega))
        · rw [pe.length_eq, hes]
          omega
        · have c := EdgeTree.conn (m := m.toNat) hT hes hpll fun a h0 h1 => (hplm a).mpr ⟨h0, by omega⟩
          have c2 := c.perm pe
          have em : ((m.toNat : Nat) : Int) = m := by omega
          rw [em] at c2
          exact c2
-- DEF _law_stretches

def sp__law_stretches (K : PySem.W.Frag) : Sp := fun vs H Q _ => ∃ (s : Addr) (n : Int) (m w : Nat), vs = [.ref s, .int m, .int w] ∧ SrcAt H s n ∧ n ≤ 300000000 ∧ 1 ≤ m ∧ m ≤ 8 ∧ 1 ≤ w ∧ w ≤ 8 ∧
  ∀ (rs : List Addr) (rows : List (List Int)) (p : Addr) (H' : Hp), NewTab H H' p rs rows w 100 → rows.length = m → ExB s H H' → SrcAt H' s (n + 400) → Q (.ref p) H'

theorem ok__law_stretches (T : Txt K mg) : FnOk P w K mg base CX0 3 T.f__law_stretches T.fd__law_stretches ["_law_source", "_law_many", "_law_wide"] (sp__law_stretches K) := by
  refine Fun.ok T.F__law_stretches sc__law_stretches (fun vs H Q E h => ?_) (fun cdv A outer s H vs Q E hr h => ?_)
  · obtain ⟨_, _, _, _, rfl, _⟩ := h; rfl
  · refine ⟨_, (pss_cons (ps_set (i := 3) sc__law_stretches.nd rfl (by first | exact Or.inl rfl | exact Or.inr rfl) (pe_call (ok__law_mixed T) hr (by rfl) T.g__law_mixed T.k__law_mixed T.b__law_mixed .nil pass0 (pa_cons (pv 0) (pa_cons (pe_listRg rfl (by rfl) T.n_list (prg_1 (by rfl) T.n_range (pv 2))) pa_nil))))
      (pss_cons (ps_set (i := 4) sc__law_stretches.nd rfl (by first | exact Or.inl rfl | exact Or.inr rfl) (pe_lst pa_nil))
      (pss_cons (ps_for PassesOwn.never rfl (pi_range1 (by rfl) T.n_range (pa_cons (pv 1) pa_nil)) (pg_name (i := 5) sc__law_stretches.nd rfl (by first | exact Or.inl rfl | exact Or.inr rfl))
        (pss_cut (ps_set (i := 6) sc__law_stretches.nd rfl (by first | exact Or.inl rfl | exact Or.inr rfl) (pe_call (ok__law_next T) (hr.mono (by decide)) (by rfl) T.g__law_next T.k__law_next T.b__law_next .nil pass0 (pa_cons (pv 0) (pa_cons (pv 2) pa_nil))))
          (pss_cut (ps_set (i := 7) sc__law_stretches.nd rfl (by first | exact Or.inl rfl | exact Or.inr rfl) (pe_call (ok__law_next T) (hr.mono (by decide)) (by rfl) T.g__law_next T.k__law_next T.b__law_next .nil pass0 (pa_cons (pv 0) (pa_cons (pe_op op_add (pe_op op_sub (pv 2) (pv 6)) pe_int) pa_nil))))
          (pss_one (ps_expr (pe_bm PySem.F.plainAttrs_list PySem.F.slot_list_append PySem.F.type_list_append mt_append (pv 4) (pa_cons (pe_lc (own := [("_law_column", 8)]) (g := gName 8) (tt := tYes) rfl sc__law_stretches.nd (pi_range1 (by rfl) T.n_range (pa_cons (pv 2) pa_nil)) (blkOk_by (N := ["_law_source", "_law_many", "_law_wide", "_law_order", "_law_found", "_law_k", "_law_start", "_law_length", "_law_column"]) (sc := (defScope s__law_stretches)) (by decide +kernel)) (fun _ _ _ _ _ => pg_name (i := 8) sc__law_stretches.nd rfl (Or.inl rfl)) (fun _ _ _ _ _ => pts_nil) (fun _ _ _ _ _ => (pe_callTy (T := "int") call_int1 (by rfl) T.n_int (by decide +kernel) (pa_cons (pe_chain op_le op_lt (pv 6) (pe_ix (r := rIxL K) ix_list (pv 3) (pv 8) (fun _ _ => rfl)) (pe_op op_add (pv 6) (pv 7))) pa_nil)))) pa_nil)))))))
      (pss_one (ps_ret (pv 4)))))), ?_⟩
    obtain ⟨s, n, m, w, rfl, hs, hn, hm1, hm8, hw1, hw8, k⟩ := h
    -- order
    refine ⟨_, rfl, _, rfl, _, rfl, RgOk.of_le (by omega) (by omega) (by omega) (by omega), fun q nq => ?_⟩
    have x1 := Ex.new (o := .lst (rgV 0 (w : Int))) nq
    refine ⟨s, q, n, _, rfl, hs.ex x1, by omega, hs.ne nq, SqL.of upd_same, ?_, ?_, fun ys p1 H1 hp np1 e1 s1 h1 => ?_⟩
    · rw [rgV_length]
      omega
    · intro v hv
      rw [rgV_nums] at hv
      obtain ⟨i, _, rfl⟩ := List.mem_map.mp hv
      exact datv_int i
    rw [rgV_nums] at hp
    obtain ⟨pl, rfl, hpl⟩ := perm_ints hp
    have hpll : pl.length = w := by
      rw [hpl.length_eq, numsTo_length]
      omega
    have e01 : ExB s H H1 := (ExB.of x1).trans e1
    have np1s : p1 ≠ s := (hs.ex x1).ne np1
    -- found
    refine ⟨Nat.zero_le _, fun p2 np2 => ?_⟩
    have x2 : Ex H1 (upd H1 p2 (.lst [])) := Ex.new np2
    have np2s : p2 ≠ s := s1.ne np2
    have np12 : p1 ≠ p2 := ne_of_none h1 np2
    have np2H : H p2 = none := fresh_B e01 np2 s1.obj
    refine ⟨_, rfl, _, rfl, by omega, by omega, for_range (lo := 0) (n := (m : Int).toNat) (fun i σ H' => ∃ (y5 y6 y7 y8 : Option V) (as : List Addr) (rows : List (List Int)), σ = [some (.ref s), some (.int m), some (.int w), some (.ref p1), some (.ref p2), y5, y6, y7, y8] ∧ rows.length = i ∧ NewTab H H' p2 as rows w 100 ∧
      ExB s H H' ∧ SrcAt H' s (n + 100 + 2 * i) ∧ H' p1 = some (.lst (pl.map V.int))) ?_ ?_ ?_⟩
    · exact ⟨_, _, _, _, [], [], rfl, rfl, NewTab.new np2H upd_same, e01.trans (ExB.of x2), (s1.ex x2).le (by omega), x2 _ _ h1⟩
    · rintro i σ H2 hi ⟨y5, y6, y7, y8, as, rows, rfl, hl, hN, e2, s2, g1⟩
      refine ⟨fun σ' H' => ∃ f : Int, σ' = [some (.ref s), some (.int m), some (.int w), some (.ref p1), some (.ref p2), some (.int (0 + (i : Int))), some (.int f), y7, y8] ∧ 0 ≤ f ∧ f < w ∧ ExB s H2 H' ∧ SrcAt H' s (n + 100 + 2 * i + 1), ?_, ?_⟩
      · refine ⟨_, rfl, _, rfl, s, _, _, rfl, s2, by omega, by omega, ?_, fun f H3 f0 f1 e3 s3 => ⟨f, rfl, f0, f1, e3, s3⟩⟩
        unfold Bd
        exact Nat.lt_of_lt_of_le (show ((w : Int)).natAbs < 1024 by omega) (by decide +kernel)
      rintro σ' H3 ⟨f, rfl, f0, f1, e3, s3⟩
      refine ⟨fun σ' H' => ∃ g : Int, σ' = [some (.ref s), some (.int m), some (.int w), some (.ref p1), some (.ref p2), some (.int (0 + (i : Int))), some (.int f), some (.int g), y8] ∧ ExB s H2 H' ∧ SrcAt H' s (n + 100 + 2 * i + 1 + 1), ?_, ?_⟩
      · refine ⟨_, rfl, _, rfl, _, rfl, _, _, rfl, rfl, _, _, rfl, rfl, s, _, _, rfl, s3, by omega, by omega, ?_, fun g H4 g0 gl e4 s4 => ⟨g, rfl, e3.trans e4, s4⟩⟩
        unfold Bd
        exact Nat.lt_of_lt_of_le (show ((w : Int) - f + 1).natAbs < 1024 by omega) (by decide +kernel)
      rintro σ' H4 ⟨g, rfl, e4, s4⟩
      have N4 := hN.exB e4 hs.obj
      have al : as.length = i := by rw [Paired.length N4.tab.2, hl]
      have hp1 := e4 _ _ np1s g1
      refine ⟨_, rfl, .inl ⟨rfl, _, SqL.of N4.tab.1⟩, ?_⟩
      refine el_rng (m := w) (fun o => if (decide (f ≤ pl[o]?.getD 0) && decide (pl[o]?.getD 0 < f + g)) = true then 1 else 0) (ea_cons (ev_var rfl) ea_nil) (by omega) (fun x => rfl) (fun o H5 x5 ho => ev_int1 (ev_chain (ev_var rfl) (ev_op (ev_var rfl) (ev_var rfl) (rv_ixL (SqL.of (x5 _ _ hp1)) (atI_row (by omega)))) (ev_op (ev_var rfl) (ev_var rfl) rv_I0) rv_I0 rv_I0)) H4 (Ex.refl _) _ fun r H5 nr e5 hr => ?_
      refine ⟨p2, _, _, rfl, rfl, e5 _ _ N4.tab.1, small1000 (by rw [List.length_map]; omega), ?_⟩
      refine ⟨_, _, _, _, as ++ [r], rows ++ [_], rfl, by rw [List.length_append, hl]; rfl, N4.app (noneB (e2.trans e4) s4.obj) e5 nr hr (by rw [List.length_map, List.length_range]) (fun y hy => ?_), ?_, ?_, ?_⟩
      · obtain ⟨o, _, rfl⟩ := List.mem_map.mp hy
        split <;> decide
      · refine fun b o nb h => ?_
        rw [upd_ne (ne_of_none h np2H)]
        exact e5 _ _ (e4 _ _ nb (e2 _ _ nb h))
      · obtain ⟨a1, a2, a3, a4, a5, a6, a7, a8⟩ := s4.ex e5
        exact ⟨a1, a2, a3, by rw [upd_ne np2s.symm]; exact a4, a5, a6, a7, by omega⟩
      · rw [upd_ne np12]
        exact e5 _ _ hp1
    · rintro σ H2 ⟨y5, y6, y7, y8, as, rows, rfl, hl, hN, e2, s2, g1⟩
      refine ⟨_, rfl, ?_⟩
      exact k as rows p2 H2 hN (by rw [hl]; omega) e2 (s2.le (by omega))
-- DEF _law_swung

/-- rows mixed, perhaps turned, with signs -/
def Swung (rows rows' : List (List Int)) (m w m' w' : Nat) : Prop := ∃ rows1 rows2 : List (List Int), rows1.Perm rows ∧ ((m' = m ∧ w' = w ∧ rows2 = rows1) ∨ (m' = w ∧ w' = m ∧ rows2 = (List.range w).map fun kk => rows1.map fun r => r[kk]?.getD 0)) ∧
  ∃ fs sg : List Int, fs.length = m' ∧ sg.length = w' ∧ (∀ x ∈ fs, x = 1 ∨ x = -1) ∧ (∀ x ∈ sg, x = 1 ∨ x = -1) ∧ rows' = List.zipWith (fun f r => List.zipWith (fun x y => f * x * y) r sg) fs rows2
theorem zw_snoc {α β γ : Type} (f : α → β → γ) {xs : List α} {ys : List β} {i : Nat} {x : α} {y : β} (hx : xs.length = i) (hy : ys[i]? = some y) : List.zipWith f (xs ++ [x]) (ys.take (i + 1)) = List.zipWith f xs (ys.take i) ++ [f x y] := by
  have hi := (List.getElem?_eq_some_iff.mp hy).1
  rw [take_snoc hy, List.zipWith_append (by rw [List.length_take]; omega)]
  rfl

def sp__law_swung (K : PySem.W.Frag) : Sp := fun vs H Q _ => ∃ (s g : Addr) (n : Int) (as : List Addr) (rows : List (List Int)) (m w c : Nat), vs = [.ref s, .ref g] ∧ SrcAt H s n ∧ n ≤ 200000000 ∧ g ≠ s ∧ (∀ a ∈ as, a ≠ s) ∧ Tab H g as rows ∧ rows.length = m ∧ (∀ r ∈ rows, r.length = w ∧ ∀ y ∈ r, y.natAbs ≤ c) ∧ c ≤ 10 ^ 30 ∧ 1 ≤ m ∧ m ≤ 8 ∧ 1 ≤ w ∧ w ≤ 8 ∧
  ∀ (rs : List Addr) (rows' : List (List Int)) (p : Addr) (H' : Hp) (m' w' : Nat), (m' = m ∧ w' = w ∨ m' = w ∧ w' = m) → Swung rows rows' m w m' w' → NewTab H H' p rs rows' w' c → rows'.length = m' → ExB s H H' → SrcAt H' s (n + 200) → Q (.ref p) H'

theorem ok__law_swung (T : Txt K mg) : FnOk P w K mg base CX0 3 T.f__law_swung T.fd__law_swung ["_law_source", "_law_table_here"] (sp__law_swung K) := by
  refine Fun.ok T.F__law_swung sc__law_swung (fun vs H Q E h => ?_) (fun cdv A outer s H vs Q E hr h => ?_)
  · obtain ⟨_, _, _, _, _, _, _, _, rfl, _⟩ := h; rfl
  · refine ⟨_, (pss_cut (ps_set (i := 2) sc__law_swung.nd rfl (by first | exact Or.inl rfl | exact Or.inr rfl) (pe_call (ok__law_mixed T) hr (by rfl) T.g__law_mixed T.k__law_mixed T.b__law_mixed .nil pass0 (pa_cons (pv 0) (pa_cons (pv 1) pa_nil))))
      (pss_cut (ps_if (pt_cmpR op_eq (pe_call (ok__law_next T) (hr.mono (by decide)) (by rfl) T.g__law_next T.k__law_next T.b__law_next .nil pass0 (pa_cons (pv 0) (pa_cons pe_int pa_nil))) pe_int (nomark _))
        (pss_one (ps_set (i := 2) sc__law_swung.nd rfl (by first | exact Or.inl rfl | exact Or.inr rfl) (pe_lc (own := [("_law_k", 7)]) (g := gName 7) (tt := tYes) rfl sc__law_swung.nd (pi_range1 (by rfl) T.n_range (pa_cons (pe_callB (id := "len") (r := rLenS K) call_len_seq (by rfl) T.n_len PySem.boot_len (pa_cons (pe_ix (r := rIxL K) ix_list (pv 2) pe_int (fun _ _ => rfl)) pa_nil)) pa_nil)) (blkOk_by (N := ["_law_source", "_law_table_here", "_law_rows", "_law_signs", "_law_found", "_law_row", "_law_sign", "_law_k", "_law_column", "_law_a", "_law_b"]) (sc := (defScope s__law_swung)) (by decide +kernel)) (fun _ _ _ _ _ => pg_name (i := 7) sc__law_swung.nd rfl (Or.inr rfl)) (fun _ _ _ _ _ => pts_nil) (fun _ _ _ _ _ => (pe_lc (own := [("_law_row", 5)]) (wi := iList K _) (g := gName 5) (tt := tYes) rfl sc__law_swung.nd (pi_list (pv 2)) (blkOk_by (N := ["_law_source", "_law_table_here", "_law_rows", "_law_signs", "_law_found", "_law_row", "_law_sign", "_law_k", "_law_column", "_law_a", "_law_b"]) (sc := (relS ({ kind := .function, names := [(".0", .local), ("_law_k", .cell), ("_law_rows", .free)], isGenerator := false, isCoroutine := false } : Scope) (defScope s__law_swung))) (by decide +kernel)) (fun _ _ _ _ _ => pg_name (i := 5) sc__law_swung.nd rfl (Or.inl rfl)) (fun _ _ _ _ _ => pts_nil) (fun _ _ _ _ _ => (pe_ix (r := rIxL K) ix_list (pv 5) (pv 7) (fun _ _ => rfl))))))))
        pss_nil)
      (pss_cut (ps_setLc (i := 3) (own := [("_law_column", 8)]) (wi := iList K _) (g := gName 8) (tt := tYes) rfl sc__law_swung.nd rfl rfl (sw_true rfl rfl rfl (by decide +kernel)) (pi_list (pe_ix (r := rIxL K) ix_list (pv 2) pe_int (fun _ _ => rfl))) (blkOk_by (N := ["_law_source", "_law_table_here", "_law_rows", "_law_signs", "_law_found", "_law_row", "_law_sign", "_law_k", "_law_column", "_law_a", "_law_b"]) (sc := (defScope s__law_swung)) (by decide +kernel)) (fun _ _ _ _ _ => pg_name (i := 8) sc__law_swung.nd rfl (Or.inl rfl)) (fun _ _ _ _ _ => pts_nil) (fun _ _ _ _ _ => (pe_ix (r := rIxL K) ix_list (pe_lst (pa_cons pe_int (pa_cons (pe_un un_neg pe_int) pa_nil))) (pe_call (ok__law_next T) (hr.mono (by decide)) (by rfl) T.g__law_next T.k__law_next T.b__law_next .nil pass0 (pa_cons (pv 0) (pa_cons pe_int pa_nil))) (fun _ _ => rfl))))
      (pss_cons (ps_set (i := 4) sc__law_swung.nd rfl (by first | exact Or.inl rfl | exact Or.inr rfl) (pe_lst pa_nil))
      (pss_cons (ps_for PassesOwn.never rfl (pi_list (pv 2)) (pg_name (i := 5) sc__law_swung.nd rfl (by first | exact Or.inl rfl | exact Or.inr rfl))
        (pss_cut (ps_set (i := 6) sc__law_swung.nd rfl (by first | exact Or.inl rfl | exact Or.inr rfl) (pe_ix (r := rIxL K) ix_list (pe_lst (pa_cons pe_int (pa_cons pe_int (pa_cons (pe_un un_neg pe_int) pa_nil)))) (pe_call (ok__law_next T) (hr.mono (by decide)) (by rfl) T.g__law_next T.k__law_next T.b__law_next .nil pass0 (pa_cons (pv 0) (pa_cons pe_int pa_nil))) (fun _ _ => rfl)))
          (pss_one (ps_expr (pe_bm PySem.F.plainAttrs_list PySem.F.slot_list_append PySem.F.type_list_append mt_append (pv 4) (pa_cons (pe_lc (own := [("_law_a", 9), ("_law_b", 10)]) (wi := iZip K _) (g := gTup K 2 (gCons (gName 9) (gCons (gName 10) gNil))) (tt := tYes) rfl sc__law_swung.nd (pi_zip (by rfl) T.n_zip (pa_cons (pv 5) (pa_cons (pv 3) pa_nil))) (blkOk_by (N := ["_law_source", "_law_table_here", "_law_rows", "_law_signs", "_law_found", "_law_row", "_law_sign", "_law_k", "_law_column", "_law_a", "_law_b"]) (sc := (defScope s__law_swung)) (by decide +kernel)) (fun _ _ _ _ _ => (pg_tup rfl (pgs_cons (pg_name (i := 9) sc__law_swung.nd rfl (Or.inl rfl)) (pgs_cons (pg_name (i := 10) sc__law_swung.nd rfl (Or.inl rfl)) pgs_nil)))) (fun _ _ _ _ _ => pts_nil) (fun _ _ _ _ _ => (pe_op op_mulW (pe_op op_mulW (pv 6) (pv 9)) (pv 10)))) pa_nil))))))
      (pss_one (ps_ret (pv 4)))))))), ?_⟩
    obtain ⟨s, g, n, as, rows, m, w, c, rfl, hs, hn, hgs, has, hT, hm, hok, hc30, hm1, hm8, hw1, hw8, k⟩ := h
    have hal : as.length = m := by rw [Paired.length hT.2, hm]
    -- row_list
    refine ⟨fun σ' H1 => ∃ (p : Addr) (as1 : List Addr) (rows1 : List (List Int)), σ' = [some (.ref s), some (.ref g), some (.ref p), none, none, none, none, none, none, none, none] ∧ Tab H1 p as1 rows1 ∧ rows1.length = m ∧ rows1.Perm rows ∧ (∀ r ∈ rows1, r.length = w ∧ ∀ y ∈ r, y.natAbs ≤ c) ∧ p ≠ s ∧ (∀ a ∈ as1, a ≠ s) ∧ ExB s H H1 ∧ SrcAt H1 s (n + 100), ?_, ?_⟩
    · refine ⟨_, rfl, _, rfl, s, g, n, _, rfl, hs, by omega, hgs, SqL.of hT.1, (by rw [List.length_map]; omega), fun v hv => ?_, fun ys p H1 hp np e1 s1 h1 => ?_⟩
      · obtain ⟨a, ha, rfl⟩ := List.mem_map.mp hv
        obtain ⟨r, _, hr⟩ := paired_mem hT.2 ha
        exact datv_row hr (has a ha)
      · obtain ⟨as1, rows1, rfl, pr, hR, pa⟩ := perm_refs hp hT.2
        refine ⟨p, as1, rows1, rfl, ⟨h1, rows_but hR fun a ha o q => e1 a o (has a (pa.mem_iff.mp ha)) q⟩, by rw [pr.length_eq, hm], pr, fun r hr => hok r (pr.mem_iff.mp hr), hs.ne np, fun a ha => has a (pa.mem_iff.mp ha), e1, s1⟩
    rintro σ' H1 ⟨p, as1, rows1, rfl, hT1, hm', hpr, hok1, nps, nas, e1, s1⟩
    -- perhaps turned
    refine ⟨fun σ' H2 => ∃ (y5 y7 : Option V) (p2 : Addr) (as2 : List Addr) (rows2 : List (List Int)) (m2 w2 : Nat), (m2 = m ∧ w2 = w ∨ m2 = w ∧ w2 = m) ∧ ((m2 = m ∧ w2 = w ∧ rows2 = rows1) ∨ (m2 = w ∧ w2 = m ∧ rows2 = (List.range w).map fun kk => rows1.map fun r => r[kk]?.getD 0)) ∧ σ' = [some (.ref s), some (.ref g), some (.ref p2), none, none, y5, none, y7, none, none, none] ∧ Tab H2 p2 as2 rows2 ∧ rows2.length = m2 ∧ (∀ r ∈ rows2, r.length = w2 ∧ ∀ y ∈ r, y.natAbs ≤ c) ∧ p2 ≠ s ∧ (∀ a ∈ as2, a ≠ s) ∧ ExB s H H2 ∧ SrcAt H2 s (n + 101), ?_, ?_⟩
    · refine ⟨_, rfl, s, 2, _, rfl, s1, by omega, by decide, (by unfold Bd; decide +kernel), fun f H2 f0 f1 e2 s2 => ⟨rfl, _, rfl, ?_⟩⟩
      have hT2 : Tab H2 p as1 rows1 := ⟨e2 _ _ nps hT1.1, rows_but hT1.2 fun a ha o q => e2 a o (nas a ha) q⟩
      refine ite2 (fun _ => ?_) (fun _ => ?_)
      · have h0 : ∃ a0 r0, as1[0]? = some a0 ∧ rows1[0]? = some r0 ∧ H2 a0 = some (.lst (r0.map V.int)) ∧ r0.length = w := by
          have hl1 : as1.length = m := by rw [Paired.length hT2.2, hm']
          obtain ⟨a0, ha0⟩ : ∃ a0, as1[0]? = some a0 := ⟨_, List.getElem?_eq_getElem (by omega)⟩
          obtain ⟨r0, hr0, hh⟩ := paired_get hT2.2 ha0
          exact ⟨a0, r0, ha0, hr0, hh, (hok1 r0 (List.mem_of_getElem? hr0)).1⟩
        obtain ⟨a0, r0, ha0, hr0, hh0, hl0⟩ := h0
        have at0 : atI (as1.map V.ref) 0 = some (.ref a0) := atI_nat (j := 0) (by rw [List.getElem?_map, ha0]; rfl)
        refine lc_rows (m := w) (F := fun kk => rows1.map fun r => r[kk]?.getD 0) (ea_cons (ev_is (ev_len (ev_op (ev_var rfl) ev_c (rv_ixL (SqL.of hT2.1) at0)) (SqL.of hh0)) (by rw [List.length_map, hl0])) ea_nil) (by omega) (fun u => rfl) (fun kk H3 x3 hkk => ?_) (fun p2 rs H3 np2 nrs ndr npr x3 ht => ?_)
        · refine el_col (K := K) (f := fun r => r[kk]?.getD 0) rfl (x3 _ _ hT2.1) (hT2.2.ex x3) (by omega) (fun u => rfl) fun b r H4 hr hb x4 => ?_
          have lr := (hok1 r hr).1
          exact ev_op (ev_var rfl) (ev_var rfl) (rv_ixL (SqL.of (x4 _ _ hb)) (atI_row (by omega)))
        · refine ⟨_, _, p2, rs, _, w, m, .inr ⟨rfl, rfl⟩, .inr ⟨rfl, rfl, rfl⟩, rfl, ht, by rw [List.length_map, List.length_range], fun r hr => ?_, s2.ne np2, fun a ha => s2.ne (nrs a ha), (e1.trans e2).trans (ExB.of x3), (s2.ex x3).le (by omega)⟩
          obtain ⟨kk, hkk, rfl⟩ := List.mem_map.mp hr
          have hkk := List.mem_range.mp hkk
          refine ⟨by rw [List.length_map, hm'], fun y hy => ?_⟩
          obtain ⟨r, hr, rfl⟩ := List.mem_map.mp hy
          have o := hok1 r hr
          rw [List.getElem?_eq_getElem (by omega)]
          exact o.2 _ (List.getElem_mem _)
      · exact ⟨_, _, p, as1, rows1, m, w, .inl ⟨rfl, rfl⟩, .inl ⟨rfl, rfl, rfl⟩, rfl, hT2, hm', hok1, nps, nas, e1.trans e2, s2.le (by omega)⟩
    rintro σ' H2 ⟨y5, y7, p2, as2, rows2, m2, w2, hmw, htw, rfl, hT2, hm2, hok2, np2s, nas2, e2, s2⟩
    clear hT1 hm' hok1 nps nas e1 s1
    have hm2b : 1 ≤ m2 ∧ m2 ≤ 8 ∧ 1 ≤ w2 ∧ w2 ≤ 8 := by
      rcases hmw with ⟨rfl, rfl⟩ | ⟨rfl, rfl⟩ <;> exact ⟨by omega, by omega, by omega, by omega⟩
    -- signs
    refine ⟨fun σ' H3 => ∃ (y8 : Option V) (q : Addr) (sg : List Int), σ' = [some (.ref s), some (.ref g), some (.ref p2), some (.ref q), none, y5, none, y7, y8, none, none] ∧ H3 q = some (.lst (sg.map V.int)) ∧ sg.length = w2 ∧ (∀ x ∈ sg, x = 1 ∨ x = -1) ∧ q ≠ s ∧ H q = none ∧ ExB s H2 H3 ∧ SrcAt H3 s (n + 109), ?_, ?_⟩
    · have h0 : ∃ a0 r0, as2[0]? = some a0 ∧ rows2[0]? = some r0 ∧ H2 a0 = some (.lst (r0.map V.int)) ∧ r0.length = w2 := by
        have hl1 : as2.length = m2 := by rw [Paired.length hT2.2, hm2]
        obtain ⟨a0, ha0⟩ : ∃ a0, as2[0]? = some a0 := ⟨_, List.getElem?_eq_getElem (by omega)⟩
        obtain ⟨r0, hr0, hh⟩ := paired_get hT2.2 ha0
        exact ⟨a0, r0, ha0, hr0, hh, (hok2 r0 (List.mem_of_getElem? hr0)).1⟩
      obtain ⟨a0, r0, ha0, hr0, hh0, hl0⟩ := h0
      have at0 : atI (as2.map V.ref) 0 = some (.ref a0) := atI_nat (j := 0) (by rw [List.getElem?_map, ha0]; rfl)
      refine lc_drawL (K := K) (s := s) (n := n + 101) (xs := r0) (fun x => x = 1 ∨ x = -1) (ev_op (ev_var rfl) ev_c (rv_ixL (SqL.of hT2.1) at0)) hh0 (nas2 a0 (List.mem_of_getElem? ha0)) (by omega) s2 (fun u => rfl) (fun i y H3 e3 hi s3 Q1 kq => ?_) (fun D ns H3 hD e3 s3 hD3 hl3 hP => ?_)
      · refine ⟨_, rfl, (by show 2 ≤ sizeLine; decide), fun l nl => ?_⟩
        have xl : Ex H3 (upd H3 l (.lst [.int 1, .int (-1)])) := Ex.new nl
        have nls : l ≠ s := s3.ne nl
        refine ⟨_, rfl, s, 2, _, rfl, s3.ex xl, by omega, by decide, (by unfold Bd; decide +kernel), fun f H4 f0 f1 e4 s4 => ?_⟩
        have hl4 := e4 _ _ nls (upd_same (H := H3) (a := l) (o := .lst [.int 1, .int (-1)]))
        have hf : f = 0 ∨ f = 1 := by omega
        rcases hf with rfl | rfl
        · exact ⟨l, _, _, .int 1, rfl, rfl, SqL.of hl4, rfl, kq 1 H4 (.inl rfl) ((ExB.of xl).trans e4) s4⟩
        · exact ⟨l, _, _, .int (-1), rfl, rfl, SqL.of hl4, rfl, kq (-1) H4 (.inr rfl) ((ExB.of xl).trans e4) s4⟩
      · exact ⟨_, D, ns, rfl, hD3, by omega, hP, s2.ne hD, fresh_B e2 hD s2.obj, e3, s3.le (by omega)⟩
    rintro σ' H3 ⟨y8, q, sg, rfl, hq, hql, hqs, nqs, nqH, e3, s3⟩
    have hT3 : Tab H3 p2 as2 rows2 := ⟨e3 _ _ np2s hT2.1, rows_but hT2.2 fun a ha o z => e3 a o (nas2 a ha) z⟩
    have e03 := e2.trans e3
    -- found
    refine ⟨Nat.zero_le _, fun p3 np3 => ?_⟩
    have x3 : Ex H3 (upd H3 p3 (.lst [])) := Ex.new np3
    have np3s : p3 ≠ s := s3.ne np3
    have np3H : H p3 = none := fresh_B e03 np3 s3.obj
    have ne3 : ∀ {b : Addr} {o : HO}, H3 b = some o → b ≠ p3 := fun h => ne_of_none h np3
    have qp3 := ne3 hq
    refine ⟨_, rfl, p2, rfl, ⟨_, SqL.of (x3 _ _ hT3.1)⟩, for_list (K := K) (a := p2) (xs := as2.map V.ref) (fun i σ H' => ∃ (y5 y6 y9 y10 : Option V) (as : List Addr) (rws : List (List Int)) (fs : List Int), σ = [some (.ref s), some (.ref g), some (.ref p2), some (.ref q), some (.ref p3), y5, y6, y7, y8, y9, y10] ∧ rws.length = i ∧ fs.length = i ∧ (∀ x ∈ fs, x = 1 ∨ x = -1) ∧ rws = List.zipWith (fun f r => List.zipWith (fun x y => f * x * y) r sg) fs (rows2.take i) ∧ NewTab H H' p3 as rws w2 c ∧ ExB s H H' ∧ SrcAt H' s (n + 109 + i) ∧
      Tab H' p2 as2 rows2 ∧ H' q = some (.lst (sg.map V.int))) ?_ (fun i σ H' _ ⟨_, _, _, _, _, _, _, _, _, _, _, _, _, _, _, t, _⟩ => SqL.of t.1) ?_ ?_⟩
    · exact ⟨_, _, _, _, [], [], [], rfl, rfl, rfl, fun x hx => (nomatch hx), rfl, NewTab.new np3H upd_same, e03.trans (ExB.of x3), (s3.ex x3).le (by omega), hT3.ex x3, x3 _ _ hq⟩
    · rintro i x σ H4 hi ⟨z5, z6, z9, z10, as, rws, fs, rfl, hl, hfl, hfs, hrw, hN, e4, s4, hT4, hq4⟩
      rw [List.getElem?_map] at hi
      obtain ⟨ai, hai, rfl⟩ := Option.map_eq_some_iff.mp hi
      obtain ⟨ri, hri, hti⟩ := paired_get hT4.2 hai
      have lri := hok2 ri (List.mem_of_getElem? hri)
      have i8 : i < m2 := by rw [← hm2]; exact (List.getElem?_eq_some_iff.mp hri).1
      have nai := nas2 ai (List.mem_of_getElem? hai)
      refine ⟨fun σ' H' => ∃ f : Int, (f = 1 ∨ f = -1) ∧ σ' = [some (.ref s), some (.ref g), some (.ref p2), some (.ref q), some (.ref p3), some (.ref ai), some (.int f), y7, y8, z9, z10] ∧ ExB s H4 H' ∧ SrcAt H' s (n + 109 + i + 1), ?_, ?_⟩
      · refine ⟨_, rfl, (by show 3 ≤ sizeLine; decide), fun l nl => ?_⟩
        have xl : Ex H4 (upd H4 l (.lst [.int 1, .int 1, .int (-1)])) := Ex.new nl
        have nls : l ≠ s := s4.ne nl
        refine ⟨_, rfl, s, 3, _, rfl, s4.ex xl, by omega, by decide, (by unfold Bd; decide +kernel), fun f H5 f0 f1 e5 s5 => ?_⟩
        have hl5 := e5 _ _ nls (upd_same (H := H4) (a := l) (o := .lst [.int 1, .int 1, .int (-1)]))
        have hf : f = 0 ∨ f = 1 ∨ f = 2 := by omega
        rcases hf with rfl | rfl | rfl
        · exact ⟨l, _, _, .int 1, rfl, rfl, SqL.of hl5, rfl, 1, .inl rfl, rfl, (ExB.of xl).trans e5, s5⟩
        · exact ⟨l, _, _, .int 1, rfl, rfl, SqL.of hl5, rfl, 1, .inl rfl, rfl, (ExB.of xl).trans e5, s5⟩
        · exact ⟨l, _, _, .int (-1), rfl, rfl, SqL.of hl5, rfl, -1, .inr rfl, rfl, (ExB.of xl).trans e5, s5⟩
      rintro σ' H5 ⟨f, hf, rfl, e5, s5⟩
      have N5 := hN.exB e5 hs.obj
      have hT5 : Tab H5 p2 as2 rows2 := ⟨e5 _ _ np2s hT4.1, rows_but hT4.2 fun a ha o z => e5 a o (nas2 a ha) z⟩
      have hq5 := e5 _ _ nqs hq4
      have hti5 := e5 _ _ nai hti
      have al : as.length = i := by rw [Paired.length N5.tab.2, hl]
      have bf : Bd 2 f := by
        rcases hf with rfl | rfl <;> (unfold Bd; decide)
      have small : ∀ {x : Int}, x.natAbs ≤ c → Bd 100 x := fun {x} h => Nat.lt_of_le_of_lt h (Nat.lt_of_le_of_lt hc30 (by decide +kernel))
      refine ⟨_, rfl, .inl ⟨rfl, _, SqL.of N5.tab.1⟩, ?_⟩
      refine el_zip (K := K) (f := fun x y => f * x * y) (xs := ri) (ys := sg) (ea_cons (ev_var rfl) (ea_cons (ev_var rfl) ea_nil)) (SqL.of hti5) (SqL.of hq5) (by omega) (by omega) (fun u v => rfl) (fun x y H1 hx hy _ => ev_op (ev_op (ev_var rfl) (ev_var rfl) (rv_I (bf.mulOk (small (lri.2 x hx))))) (ev_var rfl) (rv_I ((bf.mul (small (lri.2 x hx))).mulOk (show Bd 2 y by rcases hqs y hy with rfl | rfl <;> (unfold Bd; decide))))) H5 (Ex.refl _) _ fun r H6 nr e6 hr => ?_
      refine ⟨p3, _, _, rfl, rfl, e6 _ _ N5.tab.1, small1000 (by rw [List.length_map]; omega), ?_⟩
      refine ⟨_, _, _, _, as ++ [r], rws ++ [_], fs ++ [f], rfl, by rw [List.length_append, hl]; rfl, by rw [List.length_append, hfl]; rfl, (fun x hx => (List.mem_append.mp hx).elim (hfs x) fun z => by rw [List.mem_singleton.mp z]; exact hf), by rw [zw_snoc _ hfl hri, ← hrw], N5.app (noneB (e4.trans e5) s5.obj) e6 nr hr (by rw [List.length_zipWith]; omega) (fun y hy => ?_), ?_, ?_, ?_, ?_⟩
      · obtain ⟨u, v, hu, hv, rfl⟩ : ∃ u v, u ∈ ri ∧ v ∈ sg ∧ f * u * v = y := by
          obtain ⟨j, hj⟩ := List.getElem?_of_mem hy
          rw [List.getElem?_zipWith] at hj
          cases h3 : ri[j]? with
          | none => rw [h3] at hj; simp at hj
          | some u =>
            cases h4 : sg[j]? with
            | none => rw [h3, h4] at hj; simp at hj
            | some v =>
              rw [h3, h4] at hj
              exact ⟨u, v, List.mem_of_getElem? h3, List.mem_of_getElem? h4, Option.some.inj hj⟩
        have b1 := lri.2 u hu
        rcases hf with rfl | rfl <;> rcases hqs v hv with rfl | rfl <;> omega
      · refine fun b o nb h => ?_
        rw [upd_ne (ne_of_none h np3H)]
        exact e6 _ _ (e5 _ _ nb (e4 _ _ nb h))
      · obtain ⟨a1, a2, a3, a4, a5, a6, a7, a8⟩ := s5.ex e6
        exact ⟨a1, a2, a3, by rw [upd_ne np3s.symm]; exact a4, a5, a6, a7, by omega⟩
      · refine ⟨?_, rows_but hT5.2 fun a ha o z => ?_⟩
        · rw [upd_ne (ne3 hT3.1)]
          exact e6 _ _ hT5.1
        · obtain ⟨_, _, h3⟩ := paired_mem hT3.2 ha
          rw [upd_ne (ne3 h3)]
          exact e6 _ _ z
      · rw [upd_ne qp3]
        exact e6 _ _ hq5
    · rintro σ H4 ⟨z5, z6, z9, z10, as, rws, fs, rfl, hl, hfl, hfs, hrw, hN, e4, s4, _, _⟩
      refine ⟨_, rfl, ?_⟩
      rw [List.length_map] at hl hfl hrw s4
      have := Paired.length hT3.2
      rw [this, List.take_length] at hrw
      exact k as rws p3 H4 m2 w2 hmw ⟨rows1, rows2, hpr, htw, fs, sg, by omega, hql, hfs, hqs, hrw⟩ hN (by omega) e4 (s4.le (by omega))
-- DEF check_table

def sp_check_table (K : PySem.W.Frag) : Sp := fun vs H Q _ => ∃ (p : Addr) (as : List Addr) (rows : List (List Int)) (m w : Nat), vs = [.ref p] ∧ TabOk H p as rows m w ∧ ∀ H', Ex H H' → Q .non H'

theorem ok_check_table (T : Txt K mg) : FnOk P w K mg base CX0 4 T.f_check_table T.fd_check_table ["thing"] (sp_check_table K) := by
  refine Fun.ok T.F_check_table sc_check_table (fun vs H Q E h => ?_) (fun cdv A outer s H vs Q E hr h => ?_)
  · obtain ⟨_, _, _, _, _, rfl, _⟩ := h; rfl
  · refine ⟨_, (pss_one (ps_if (pt_not (pt_val (pe_call (ok_is_table T) hr (by rfl) T.g_is_table T.k_is_table T.b_is_table .nil pass0 (pa_cons (pv 0) pa_nil))))
        (pss_one ps_never)
        pss_nil)), ?_⟩
    obtain ⟨p, as, rows, m, w, rfl, hT, k⟩ := h
    exact ⟨_, rfl, p, as, rows, m, w, rfl, hT, fun H' e => ⟨true, rfl, iteF (k H' e)⟩⟩
-- DEF check_pick

def sp_check_pick (K : PySem.W.Frag) : Sp := fun vs H Q _ => ∃ (a : Addr) (n : Int) (ns : List Int), vs = [.ref a, .int n] ∧ H a = some (.lst (ns.map V.int)) ∧ Rising n ns ∧ ns ≠ [] ∧ ∀ H', Ex H H' → Q .non H'

theorem ok_check_pick (T : Txt K mg) : FnOk P w K mg base CX0 4 T.f_check_pick T.fd_check_pick ["thing", "many"] (sp_check_pick K) := by
  refine Fun.ok T.F_check_pick sc_check_pick (fun vs H Q E h => ?_) (fun cdv A outer s H vs Q E hr h => ?_)
  · obtain ⟨_, _, _, rfl, _⟩ := h; rfl
  · refine ⟨_, (pss_cons (ps_expr (pe_call (ok_check_places T) hr (by rfl) T.g_check_places T.k_check_places T.b_check_places .nil pass0 (pa_cons (pv 0) (pa_cons (pv 1) pa_nil))))
      (pss_one (ps_if (pt_not (pt_truth (pv 0) (by intro _; rfl)))
        (pss_one ps_never)
        pss_nil))), ?_⟩
    obtain ⟨a, n, ns, rfl, ha, hR, hne, k⟩ := h
    refine ⟨_, rfl, _, rfl, a, n, ns, rfl, ha, hR, fun H1 e1 => ?_⟩
    refine ⟨_, rfl, true, .inl ⟨_, SqL.of (e1 _ _ ha), ?_⟩, iteF (k H1 e1)⟩
    cases ns with
    | nil => exact absurd rfl hne
    | cons x r => rfl
-- DEF row_sum

def sp_row_sum (K : PySem.W.Frag) : Sp := fun vs H Q _ => ∃ (a b : Addr) (bs : List Addr) (ns : List Int) (qs : List Rat), vs = [.ref a, .ref b] ∧ H a = some (.lst (ns.map V.int)) ∧ FrL H b bs qs ∧ ns.length = qs.length ∧ qs.length ≤ 8 ∧ (∀ y ∈ ns, Bd 210 y) ∧ (∀ q ∈ qs, BdQ 3300 810 q) ∧
  ∀ t H', Ex H H' → H' t = some (.tup (frV (fsum ns qs))) → Q (.ref t) H'

theorem ok_row_sum (T : Txt K mg) : FnOk P w K mg base CX0 4 T.f_row_sum T.fd_row_sum ["row", "xs"] (sp_row_sum K) := by
  refine Fun.ok T.F_row_sum sc_row_sum (fun vs H Q E h => ?_) (fun cdv A outer s H vs Q E hr h => ?_)
  · obtain ⟨_, _, _, _, _, rfl, _⟩ := h; rfl
  · refine ⟨_, (pss_cons (ps_set (i := 2) sc_row_sum.nd rfl (by first | exact Or.inl rfl | exact Or.inr rfl) (pe_call (ok_fraction T) (hr.mono (by decide)) (by rfl) T.g_fraction T.k_fraction T.b_fraction_1.2 T.b_fraction_1.1 pass0 (pa_cons pe_int pa_nil)))
      (pss_cons (ps_for PassesOwn.never rfl (pi_zip (by rfl) T.n_zip (pa_cons (pv 0) (pa_cons (pv 1) pa_nil))) (pg_tup rfl (pgs_cons (pg_name (i := 3) sc_row_sum.nd rfl (by first | exact Or.inl rfl | exact Or.inr rfl)) (pgs_cons (pg_name (i := 4) sc_row_sum.nd rfl (by first | exact Or.inl rfl | exact Or.inr rfl)) pgs_nil)))
        (pss_one (ps_set (i := 2) sc_row_sum.nd rfl (by first | exact Or.inl rfl | exact Or.inr rfl) (pe_call (ok_plus T) hr (by rfl) T.g_plus T.k_plus T.b_plus .nil pass0 (pa_cons (pv 2) (pa_cons (pe_call (ok_times T) hr (by rfl) T.g_times T.k_times T.b_times .nil pass0 (pa_cons (pe_call (ok_fraction T) (hr.mono (by decide)) (by rfl) T.g_fraction T.k_fraction T.b_fraction_1.2 T.b_fraction_1.1 pass0 (pa_cons (pv 3) pa_nil)) (pa_cons (pv 4) pa_nil))) pa_nil))))))
      (pss_one (ps_ret (pv 2))))), ?_⟩
    obtain ⟨a, b, bs, ns, qs, rfl, ha, hb, hl, h8, bn, bq, k⟩ := h
    have eb : bs.length = qs.length := Paired.length hb.2
    refine ⟨_, _, rfl, by decide, by unfold Bd; decide +kernel, fun t0 H1 nt0 e1 ht0 => ?_⟩
    rw [fr_com (by decide)] at ht0
    have e0 : mkRat 0 (1 : Int).toNat = 0 := by decide +kernel
    rw [e0] at ht0
    refine ⟨_, rfl, _, rfl, a, b, _, _, rfl, SqL.of (e1 _ _ ha), SqL.of (e1 _ _ hb.1), ?_⟩
    refine RZ.for_zipL (K := K) (xs := ns.map V.int) (ys := bs.map V.ref) (by rw [List.length_map, List.length_map, eb, hl]) (fun i σ H' => ∃ (t : Addr) (y3 y4 : Option V), σ = [some (.ref a), some (.ref b), some (.ref t), y3, y4] ∧ Ex H H' ∧ H' t = some (.tup (frV (psum (terms ns qs) i)))) ⟨t0, _, _, rfl, e1, ht0⟩ (fun i σ H' ⟨_, _, _, _, e, _⟩ => ⟨SqL.of (e _ _ ha), SqL.of (e _ _ hb.1)⟩) ?_ ?_
    · rintro i x y T σ H2 hx hy ⟨t, y3, y4, rfl, e2, ht⟩ nT
      rw [List.getElem?_map] at hx hy
      obtain ⟨n, hn, rfl⟩ := Option.map_eq_some_iff.mp hx
      obtain ⟨c, hc, rfl⟩ := Option.map_eq_some_iff.mp hy
      obtain ⟨q, hq, hcq⟩ := paired_get hb.2 hc
      have xT : Ex H2 (upd H2 T (.tup [.int n, .ref c])) := Ex.new nT
      have hi : i < 8 := by
        have := (List.getElem?_eq_some_iff.mp hq).1
        omega
      have b1 := bn n (List.mem_of_getElem? hn)
      have b2 := bq q (List.mem_of_getElem? hq)
      refine ⟨T, _, rfl, SqT.of upd_same, rfl, _, _, rfl, _, _, rfl, rfl, ?_⟩
      -- fraction(entry)
      refine ⟨_, rfl, _, rfl, _, _, rfl, by decide, by unfold Bd; decide +kernel, fun f H3 nf e3 hf => ?_⟩
      rw [fr_com (by decide)] at hf
      refine ⟨_, rfl, f, c, mkRat n 1, q, rfl, hf, (e2.trans (xT.trans e3)) _ _ hcq, ?_, ?_, b2.1.mono (by decide), b2.2.mono (by decide), ?_, fun r H4 nr e4 hr => ?_⟩
      · rw [num_one]
        exact b1.mono (by decide)
      · rw [den_one]
        unfold Bd; decide +kernel
      · rw [den_one]
        exact (show Bd 810 ((1 : Int) * (q.den : Int)) by rw [Int.one_mul]; exact b2.2).mono (by decide)
      have ht4 : H4 t = some (.tup (frV (psum (terms ns qs) i))) := (xT.trans (e3.trans e4)) _ _ ht
      have tb := terms_bd (n := 210) (m := 3300) (d := 810) bn bq
      have pb := psum_bd tb i
      have bt : BdQ (210 + 3300) 810 (mkRat n 1 * q) := times_bd b1 b2
      refine ⟨t, r, _, _, rfl, ht4, hr, pb.1.mono (by omega), pb.2.mono (by omega), bt.1.mono (by decide), bt.2.mono (by decide), (pb.2.mul bt.2).mono (by omega), fun u H5 nu e5 hu => ⟨u, _, _, rfl, e2.trans (xT.trans (e3.trans (e4.trans e5))), ?_⟩⟩
      rw [hu, psum_succ (terms_at hn hq)]
    · rintro σ H2 ⟨t, y3, y4, rfl, e2, ht⟩
      rw [List.length_map, psum_all (by unfold terms; rw [List.length_zipWith]; omega)] at ht
      exact ⟨_, rfl, k t H2 e2 ht⟩
-- DEF _law_net_drawn

def sp__law_net_drawn (K : PySem.W.Frag) : Sp := fun vs H Q _ => ∃ (s : Addr) (n : Int) (m w : Nat), vs = [.ref s, .int m, .int w] ∧ SrcAt H s n ∧ n ≤ 300000000 ∧ 1 ≤ m ∧ m ≤ 8 ∧ 1 ≤ w ∧ w ≤ 8 ∧
  ∀ (rs : List Addr) (rows : List (List Int)) (p : Addr) (H' : Hp), NewTab H H' p rs rows w 100 → rows.length = m → ExB s H H' → SrcAt H' s (n + 400) → Q (.ref p) H'

theorem ok__law_net_drawn (T : Txt K mg) : FnOk P w K mg base CX0 4 T.f__law_net_drawn T.fd__law_net_drawn ["_law_source", "_law_many", "_law_wide"] (sp__law_net_drawn K) := by
  refine Fun.ok T.F__law_net_drawn sc__law_net_drawn (fun vs H Q E h => ?_) (fun cdv A outer s H vs Q E hr h => ?_)
  · obtain ⟨_, _, _, _, rfl, _⟩ := h; rfl
  · refine ⟨_, (pss_cons (ps_setLc (i := 3) (own := [("_law_k", 4)]) (g := gName 4) (tt := tYes) rfl sc__law_net_drawn.nd rfl rfl (sw_true rfl rfl rfl (by decide +kernel)) (pi_range1 (by rfl) T.n_range (pa_cons (pv 2) pa_nil)) (blkOk_by (N := ["_law_source", "_law_many", "_law_wide", "_law_arcs", "_law_k"]) (sc := (defScope s__law_net_drawn)) (by decide +kernel)) (fun _ _ _ _ _ => pg_name (i := 4) sc__law_net_drawn.nd rfl (Or.inl rfl)) (fun _ _ _ _ _ => pts_nil) (fun _ _ _ _ _ => (pe_tup (pa_cons (pe_call (ok__law_next T) (hr.mono (by decide)) (by rfl) T.g__law_next T.k__law_next T.b__law_next .nil pass0 (pa_cons (pv 0) (pa_cons (pe_op op_add (pv 1) pe_int) pa_nil))) (pa_cons (pe_call (ok__law_next T) (hr.mono (by decide)) (by rfl) T.g__law_next T.k__law_next T.b__law_next .nil pass0 (pa_cons (pv 0) (pa_cons (pe_op op_add (pv 1) pe_int) pa_nil))) pa_nil)))))
      (pss_one (ps_ret (pe_call (ok__law_net T) (hr.mono (by decide)) (by rfl) T.g__law_net T.k__law_net T.b__law_net .nil pass0 (pa_cons (pe_call (ok__law_ends T) hr (by rfl) T.g__law_ends T.k__law_ends T.b__law_ends .nil pass0 (pa_cons (pv 0) (pa_cons (pv 1) pa_nil))) (pa_cons (pv 3) pa_nil)))))), ?_⟩
    obtain ⟨s, n, m, w, rfl, hs, hn, hm1, hm8, hw1, hw8, k⟩ := h
    refine ⟨_, rfl, _, rfl, by omega, by omega, fun D hD => ?_⟩
    have hDs : D ≠ s := hs.ne hD
    refine lc_range (lo := 0) (n := (w : Int).toNat) (fun i H' => ∃ (bs : List Addr) (qs : List (Int × Int)), H' D = some (.lst (bs.map V.ref)) ∧ EdgesAt H' bs qs ∧ qs.length = i ∧ ExB s H H' ∧ SrcAt H' s (n + 2 * i) ∧ ∀ e ∈ qs, 0 ≤ e.1 ∧ e.1 ≤ (m : Int) ∧ 0 ≤ e.2 ∧ e.2 ≤ (m : Int))
      ⟨[], [], upd_same, .nil, rfl, ExB.of (Ex.new hD), (hs.ex (Ex.new hD)).le (by omega), fun e he => by simp at he⟩ (fun i H1 hi p => ?_) (fun H1 p => ?_)
    · obtain ⟨bs, qs, h1, h2, h3, h4, h5, h6⟩ := p
      have bm : Bd 8000 ((m : Int) + 1) := by
        unfold Bd
        exact Nat.lt_of_lt_of_le (show ((m : Int) + 1).natAbs < 1024 by omega) (by decide +kernel)
      refine ⟨rfl, ?_⟩
      refine ⟨_, rfl, _, rfl, _, _, rfl, rfl, s, _, _, rfl, h5, by omega, by omega, bm, fun f H2 f0 f1 e2 s2 => ?_⟩
      refine ⟨_, rfl, _, rfl, _, _, rfl, rfl, s, _, _, rfl, s2, by omega, by omega, bm, fun g H3 g0 gl e3 s3 => ?_⟩
      refine ⟨(by show 2 ≤ sizeLine; decide), fun t nt => ?_⟩
      have xt : Ex H3 (upd H3 t (.tup [.int f, .int g])) := Ex.new nt
      have e13 := e2.trans e3
      have hD3 := e13 _ _ hDs h1
      have el : bs.length = i := by rw [Paired.length h2, h3]
      refine ⟨_, xt _ _ hD3, small1000 (by rw [List.length_map]; omega), bs ++ [t], qs ++ [(f, g)], ?_, ?_, ?_, ?_, ?_, ?_⟩
      · rw [upd_same, List.map_append]
        rfl
      · exact paired_imp (fun c d h => tups_U (xt _ _ hD3) _ _ h) (paired_snoc (EdgesAt.mono (fun c xs h => xt _ _ (tups_B h5 e13 _ _ h)) h2) (upd_same : upd H3 t (.tup [.int f, .int g]) t = some (.tup [.int f, .int g])))
      · rw [List.length_append, h3]
        rfl
      · refine fun b o nb h => ?_
        rw [upd_ne (ne_of_none h hD)]
        exact xt _ _ (e13 _ _ nb (h4 _ _ nb h))
      · obtain ⟨a1, a2, a3, a4, a5, a6, a7, a8⟩ := s3.ex xt
        exact ⟨a1, a2, a3, by rw [upd_ne hDs.symm]; exact a4, a5, a6, a7, by omega⟩
      · intro e he
        rcases List.mem_append.mp he with q | q
        · exact h6 e q
        · have : e = (f, g) := by simpa using q
          rw [this]
          exact ⟨f0, by omega, g0, by omega⟩
    · obtain ⟨bs, qs, h1, h2, h3, h4, h5, h6⟩ := p
      have h3' : qs.length = w := by rw [h3]; omega
      refine ⟨_, rfl, _, rfl, s, _, _, rfl, h5, by omega, by omega, by omega, fun as es p H2 l2 b2 c2 d2 e2 f2 g2' s2 => ?_⟩
      refine ⟨_, rfl, p, D, as, bs, es, qs, m, rfl, by omega, hm1, hm8, e2, d2, g2' _ _ hDs h1, EdgesAt.mono (tups_B h5 g2') h2, by omega, b2, h6, c2, fun rs rows p' H3 x1 x2 x3 x4 x5 x6 x7 x8 => ?_⟩
      have nt : NewTab H2 H3 p' rs rows w 100 := ⟨x1, x2, x3, x4, x6, fun r hr => by rw [← h3']; exact x8 r hr⟩
      exact k rs rows p' H3 (nt.back (h4.trans g2') s2.obj) x7 ((h4.trans g2').trans (ExB.of x5)) ((s2.ex x5).le (by omega))
-- DEF shape

def sp_shape (K : PySem.W.Frag) : Sp := fun vs H Q _ => ∃ (p : Addr) (as : List Addr) (rows : List (List Int)) (m w : Nat), vs = [.ref p] ∧ TabOk H p as rows m w ∧ ∀ t H', H t = none → Ex H H' → H' t = some (.tup [.int m, .int w]) → Q (.ref t) H'

theorem ok_shape (T : Txt K mg) : FnOk P w K mg base CX0 5 T.f_shape T.fd_shape ["table"] (sp_shape K) := by
  refine Fun.ok T.F_shape sc_shape (fun vs H Q E h => ?_) (fun cdv A outer s H vs Q E hr h => ?_)
  · obtain ⟨_, _, _, _, _, rfl, _⟩ := h; rfl
  · refine ⟨_, (pss_cons (ps_expr (pe_call (ok_check_table T) hr (by rfl) T.g_check_table T.k_check_table T.b_check_table .nil pass0 (pa_cons (pv 0) pa_nil)))
      (pss_one (ps_ret (pe_tup (pa_cons (pe_callB (id := "len") (r := rLenS K) call_len_seq (by rfl) T.n_len PySem.boot_len (pa_cons (pv 0) pa_nil)) (pa_cons (pe_callB (id := "len") (r := rLenS K) call_len_seq (by rfl) T.n_len PySem.boot_len (pa_cons (pe_ix (r := rIxL K) ix_list (pv 0) pe_int (fun _ _ => rfl)) pa_nil)) pa_nil)))))), ?_⟩
    obtain ⟨p, as, rows, m, w, rfl, hT, k⟩ := h
    refine ⟨_, rfl, p, as, rows, m, w, rfl, hT, fun H1 e1 => ?_⟩
    have hT1 := hT.ex e1
    obtain ⟨a0, r0, _, _, hh0, hl0, at0⟩ := hT1.row0
    refine s_retU (eu_tup (ea_cons (ev_is (ev_len (ev_var rfl) (SqL.of hT1.tab.1)) (by rw [List.length_map, hT.al])) (ea_cons (ev_is (ev_len (ev_op (ev_var rfl) ev_c (rv_ixL (SqL.of hT1.tab.1) at0)) (SqL.of hh0)) (by rw [List.length_map, hl0])) ea_nil)) (Nat.le_of_ble_eq_true rfl)) fun t H2 nt e2 ht => k t H2 (fresh_back e1 nt) (e1.trans e2) ht
-- DEF led

def sp_led (K : PySem.W.Frag) : Sp := fun vs H Q _ => ∃ (p b : Addr) (as bs : List Addr) (rows : List (List Int)) (m w : Nat) (qs : List Rat), vs = [.ref p, .ref b] ∧ TabOk H p as rows m w ∧ FrL H b bs qs ∧ qs.length = w ∧ (∀ r ∈ rows, ∀ y ∈ r, Bd 210 y) ∧ (∀ q ∈ qs, BdQ 3300 810 q) ∧ ∀ c cs H', H c = none → Ex H H' → FrL H' c cs (rows.map fun r => fsum r qs) → Q (.ref c) H'

theorem ok_led (T : Txt K mg) : FnOk P w K mg base CX0 5 T.f_led T.fd_led ["table", "xs"] (sp_led K) := by
  refine Fun.ok T.F_led sc_led (fun vs H Q E h => ?_) (fun cdv A outer s H vs Q E hr h => ?_)
  · obtain ⟨_, _, _, _, _, _, _, _, rfl, _⟩ := h; rfl
  · refine ⟨_, (pss_cons (ps_expr (pe_call (ok_check_table T) hr (by rfl) T.g_check_table T.k_check_table T.b_check_table .nil pass0 (pa_cons (pv 0) pa_nil)))
      (pss_cons (ps_if (pt_not (pt_val (pe_call (ok_is_fractions T) (hr.mono (by decide)) (by rfl) T.g_is_fractions T.k_is_fractions T.b_is_fractions .nil pass0 (pa_cons (pv 1) (pa_cons (pe_callB (id := "len") (r := rLenS K) call_len_seq (by rfl) T.n_len PySem.boot_len (pa_cons (pe_ix (r := rIxL K) ix_list (pv 0) pe_int (fun _ _ => rfl)) pa_nil)) pa_nil)))))
        (pss_one ps_never)
        pss_nil)
      (pss_one (ps_ret (pe_lc (own := [("row", 2)]) (wi := iList K _) (g := gName 2) (tt := tYes) rfl sc_led.nd (pi_list (pv 0)) (blkOk_by (N := ["table", "xs", "row"]) (sc := (defScope s_led)) (by decide +kernel)) (fun _ _ _ _ _ => pg_name (i := 2) sc_led.nd rfl (Or.inl rfl)) (fun _ _ _ _ _ => pts_nil) (fun _ _ _ _ _ => (pe_call (ok_row_sum T) hr (by rfl) T.g_row_sum T.k_row_sum T.b_row_sum .nil pass0 (pa_cons (pv 2) (pa_cons (pv 1) pa_nil))))))))), ?_⟩
    obtain ⟨p, b, as, bs, rows, m, w, qs, rfl, hT, hF, hq, bn, bq, k⟩ := h
    refine ⟨_, rfl, p, as, rows, m, w, rfl, hT, fun H1 e1 => ?_⟩
    have hT1 := hT.ex e1
    have hb := hT.b
    obtain ⟨a0, r0, _, _, hh0, hl0, at0⟩ := hT1.row0
    refine s_when (σ := [some (.ref p), some (.ref b), none]) (b := false) (et_is (et_not (et_B (b := true) (ev_fn (sp := sp_is_fractions K) (ea_cons (ev_var rfl) (ea_cons (ev_is (ev_len (ev_op (ev_var rfl) ev_c (rv_ixL (SqL.of hT1.tab.1) at0)) (SqL.of hh0)) (by rw [List.length_map, hl0])) ea_nil)) fun H3 e3 Q3 q3 => ⟨b, bs, qs, w, rfl, hF.ex (e1.trans e3), by omega, by omega, q3⟩))) rfl) (fun z => nomatch z) fun _ H2 e2 => ?_
    refine lf_rows (K := K) (F := fun r => fsum r qs) rfl (hT1.ex e2).tab (by rw [hT.m_]; omega) (fun u => rfl) (fun c r H3 hr hc e3 H4 e4 Q4 q4 => ?_) (fun c cs H3 nc e3 hF3 => k c cs H3 (fresh_back (e1.trans e2) nc) ((e1.trans e2).trans e3) hF3)
    have e5 := e3.trans e4
    exact ⟨_, rfl, _, rfl, c, b, bs, r, qs, rfl, e5 _ _ hc, hF.ex ((e1.trans e2).trans e5), by rw [hT.w_ r hr, hq], by omega, bn r hr, bq, q4⟩
-- DEF _law_table

def sp__law_table (K : PySem.W.Frag) : Sp := fun vs H Q _ => ∃ (s : Addr) (n : Int) (most : Nat), vs = [.ref s, .int most] ∧ SrcAt H s n ∧ n ≤ 100000000 ∧ 1 ≤ most ∧ most ≤ 8 ∧
  ∀ (rs : List Addr) (rows : List (List Int)) (p : Addr) (H' : Hp) (m w : Nat), 1 ≤ m → m ≤ most → 1 ≤ w → w ≤ most → NewTab H H' p rs rows w (10 ^ 30) → rows.length = m → ExB s H H' → SrcAt H' s (n + 1000) → Q (.ref p) H'

theorem ok__law_table (T : Txt K mg) : FnOk P w K mg base CX0 5 T.f__law_table T.fd__law_table ["_law_source", "_law_most"] (sp__law_table K) := by
  refine Fun.ok T.F__law_table sc__law_table (fun vs H Q E h => ?_) (fun cdv A outer s H vs Q E hr h => ?_)
  · obtain ⟨_, _, _, rfl, _⟩ := h; rfl
  · refine ⟨_, (pss_cut (ps_set (i := 2) sc__law_table.nd rfl (by first | exact Or.inl rfl | exact Or.inr rfl) (pe_op op_add pe_int (pe_call (ok__law_next T) (hr.mono (by decide)) (by rfl) T.g__law_next T.k__law_next T.b__law_next .nil pass0 (pa_cons (pv 0) (pa_cons (pv 1) pa_nil)))))
      (pss_cut (ps_set (i := 3) sc__law_table.nd rfl (by first | exact Or.inl rfl | exact Or.inr rfl) (pe_op op_add pe_int (pe_call (ok__law_next T) (hr.mono (by decide)) (by rfl) T.g__law_next T.k__law_next T.b__law_next .nil pass0 (pa_cons (pv 0) (pa_cons (pv 1) pa_nil)))))
      (pss_cut (ps_set (i := 4) sc__law_table.nd rfl (by first | exact Or.inl rfl | exact Or.inr rfl) (pe_call (ok__law_next T) (hr.mono (by decide)) (by rfl) T.g__law_next T.k__law_next T.b__law_next .nil pass0 (pa_cons (pv 0) (pa_cons pe_int pa_nil))))
      (pss_cut (ps_if (pt_cmpR op_lt (pv 4) pe_int (nomark _))
        (pss_one (ps_setLc (i := 5) (own := [("_law_row", 7)]) (g := gName 7) (tt := tYes) rfl sc__law_table.nd rfl rfl (sw_true rfl rfl rfl (by decide +kernel)) (pi_range1 (by rfl) T.n_range (pa_cons (pv 2) pa_nil)) (blkOk_by (N := ["_law_source", "_law_most", "_law_many", "_law_wide", "_law_kind", "_law_table_here", "_law_k", "_law_row"]) (sc := (defScope s__law_table)) (by decide +kernel)) (fun _ _ _ _ _ => pg_name (i := 7) sc__law_table.nd rfl (Or.inl rfl)) (fun _ _ _ _ _ => pts_nil) (fun _ _ _ _ _ => (pe_lc (own := [("_law_k", 6)]) (g := gName 6) (tt := tYes) rfl sc__law_table.nd (pi_range1 (by rfl) T.n_range (pa_cons (pv 3) pa_nil)) (blkOk_by (N := ["_law_source", "_law_most", "_law_many", "_law_wide", "_law_kind", "_law_table_here", "_law_k", "_law_row"]) (sc := (relS ({ kind := .function, names := [(".0", .local), ("_law_row", .local), ("range", .globalImplicit), ("_law_source", .free), ("_law_wide", .free)], isGenerator := false, isCoroutine := false } : Scope) (defScope s__law_table))) (by decide +kernel)) (fun _ _ _ _ _ => pg_name (i := 6) sc__law_table.nd rfl (Or.inl rfl)) (fun _ _ _ _ _ => pts_nil) (fun _ _ _ _ _ => (pe_op op_sub (pe_call (ok__law_next T) (hr.mono (by decide)) (by rfl) T.g__law_next T.k__law_next T.b__law_next .nil pass0 (pa_cons (pv 0) (pa_cons pe_int pa_nil))) pe_int))))))
        (pss_one (ps_if (pt_cmpR op_lt (pv 4) pe_int (nomark _))
            (pss_one (ps_set (i := 5) sc__law_table.nd rfl (by first | exact Or.inl rfl | exact Or.inr rfl) (pe_call (ok__law_net_drawn T) hr (by rfl) T.g__law_net_drawn T.k__law_net_drawn T.b__law_net_drawn .nil pass0 (pa_cons (pv 0) (pa_cons (pv 2) (pa_cons (pv 3) pa_nil))))))
            (pss_one (ps_set (i := 5) sc__law_table.nd rfl (by first | exact Or.inl rfl | exact Or.inr rfl) (pe_call (ok__law_stretches T) (hr.mono (by decide)) (by rfl) T.g__law_stretches T.k__law_stretches T.b__law_stretches .nil pass0 (pa_cons (pv 0) (pa_cons (pv 2) (pa_cons (pv 3) pa_nil)))))))))
      (pss_cut (ps_if (pt_cmpR op_eq (pe_call (ok__law_next T) (hr.mono (by decide)) (by rfl) T.g__law_next T.k__law_next T.b__law_next .nil pass0 (pa_cons (pv 0) (pa_cons pe_int pa_nil))) pe_int (nomark _))
        (pss_one (ps_set (i := 5) sc__law_table.nd rfl (by first | exact Or.inl rfl | exact Or.inr rfl) (pe_call (ok__law_swung T) (hr.mono (by decide)) (by rfl) T.g__law_swung T.k__law_swung T.b__law_swung .nil pass0 (pa_cons (pv 0) (pa_cons (pv 5) pa_nil)))))
        pss_nil)
      (pss_cons (ps_for PassesOwn.never rfl (pi_range1 (by rfl) T.n_range (pa_cons (pe_call (ok__law_one T) (hr.mono (by decide)) (by rfl) T.g__law_one T.k__law_one T.b__law_one .nil pass0 (pa_cons (pv 0) (pa_cons (pe_lst (pa_cons pe_int (pa_cons pe_int (pa_cons pe_int (pa_cons pe_int pa_nil))))) pa_nil))) pa_nil)) (pg_name (i := 6) sc__law_table.nd rfl (by first | exact Or.inl rfl | exact Or.inr rfl))
        (pss_cut (ps_set (i := 7) sc__law_table.nd rfl (by first | exact Or.inl rfl | exact Or.inr rfl) (pe_ix (r := rIxL K) ix_list (pv 5) (pe_call (ok__law_next T) (hr.mono (by decide)) (by rfl) T.g__law_next T.k__law_next T.b__law_next .nil pass0 (pa_cons (pv 0) (pa_cons (pe_callB (id := "len") (r := rLenS K) call_len_seq (by rfl) T.n_len PySem.boot_len (pa_cons (pv 5) pa_nil)) pa_nil))) (fun _ _ => rfl)))
          (pss_one (ps_asg (pe_call (ok__law_one T) (hr.mono (by decide)) (by rfl) T.g__law_one T.k__law_one T.b__law_one .nil pass0 (pa_cons (pv 0) (pa_cons (pe_lst (pa_cons pe_int (pa_cons (pe_un un_neg pe_int) (pa_cons pe_int (pa_cons pe_int (pa_cons (pe_un un_neg pe_int) (pa_cons pe_int (pa_cons pe_int (pa_cons (pe_un un_neg pe_int) (pa_cons (pe_op op_pow pe_int pe_int) pa_nil)))))))))) pa_nil))) (pg_sub (pv 7) (pe_call (ok__law_next T) (hr.mono (by decide)) (by rfl) T.g__law_next T.k__law_next T.b__law_next .nil pass0 (pa_cons (pv 0) (pa_cons (pe_callB (id := "len") (r := rLenS K) call_len_seq (by rfl) T.n_len PySem.boot_len (pa_cons (pv 7) pa_nil)) pa_nil))) set_list)))))
      (pss_one (ps_ret (pv 5))))))))), ?_⟩
    obtain ⟨s, n, most, rfl, hs, hn, hm1, hm8, k⟩ := h
    have bmost : Bd 8000 (most : Int) := by
      unfold Bd
      exact Nat.lt_of_lt_of_le (show ((most : Int)).natAbs < 1024 by omega) (by decide +kernel)
    -- many, wide, kind
    refine ⟨fun σ' H1 => ∃ m : Nat, σ' = [some (.ref s), some (.int most), some (.int m), none, none, none, none, none] ∧ 1 ≤ m ∧ m ≤ most ∧ ExB s H H1 ∧ SrcAt H1 s (n + 1), ?_, ?_⟩
    · refine ⟨_, rfl, _, rfl, s, _, n, rfl, hs, by omega, by omega, bmost, fun f H1 f0 f1 e1 s1 => ⟨_, _, rfl, rfl, (1 + f).toNat, ?_, by omega, by omega, e1, s1⟩⟩
      have : (((1 + f).toNat : Nat) : Int) = 1 + f := by omega
      rw [this]
      rfl
    rintro σ' H1 ⟨m, rfl, m1, m2, e1, s1⟩
    refine ⟨fun σ' H2 => ∃ w : Nat, σ' = [some (.ref s), some (.int most), some (.int m), some (.int w), none, none, none, none] ∧ 1 ≤ w ∧ w ≤ most ∧ ExB s H H2 ∧ SrcAt H2 s (n + 2), ?_, ?_⟩
    · refine ⟨_, rfl, _, rfl, s, _, _, rfl, s1, by omega, by omega, bmost, fun f H2 f0 f1 e2 s2 => ⟨_, _, rfl, rfl, (1 + f).toNat, ?_, by omega, by omega, e1.trans e2, s2.le (by omega)⟩⟩
      have : (((1 + f).toNat : Nat) : Int) = 1 + f := by omega
      rw [this]
      rfl
    rintro σ' H2 ⟨w, rfl, w1, w2, e2, s2⟩
    refine ⟨fun σ' H3 => ∃ f : Int, σ' = [some (.ref s), some (.int most), some (.int m), some (.int w), some (.int f), none, none, none] ∧ ExB s H H3 ∧ SrcAt H3 s (n + 3), ?_, ?_⟩
    · exact ⟨_, rfl, s, 8, _, rfl, s2, by omega, by decide, (by unfold Bd; decide +kernel), fun f H3 f0 f1 e3 s3 => ⟨f, rfl, e2.trans e3, s3.le (by omega)⟩⟩
    rintro σ' H3 ⟨f, rfl, e3, s3⟩
    clear e1 s1 e2 s2
    -- the table
    refine ⟨fun σ' H4 => ∃ (y6 y7 : Option V) (p : Addr) (as : List Addr) (rows : List (List Int)), σ' = [some (.ref s), some (.int most), some (.int m), some (.int w), some (.int f), some (.ref p), y6, y7] ∧ NewTab H H4 p as rows w 100 ∧ rows.length = m ∧ ExB s H H4 ∧ SrcAt H4 s (n + 403), ?_, ?_⟩
    · refine ⟨_, rfl, _, _, rfl, rfl, _, rfl, ?_⟩
      refine ite2 (fun _ => ?_) (fun _ => ?_)
      · -- drawn
        refine ⟨_, rfl, _, rfl, by omega, by omega, fun D hD => ?_⟩
        have hDs : D ≠ s := s3.ne hD
        have hDH : H D = none := fresh_B e3 hD s3.obj
        refine lc_range (lo := 0) (n := (m : Int).toNat) (fun i H' => ∃ as rows, NewTab H H' D as rows w 100 ∧ rows.length = i ∧ ExB s H H' ∧ SrcAt H' s (n + 3 + 10 * i)) ⟨[], [], NewTab.new hDH upd_same, rfl, e3.trans (ExB.of (Ex.new hD)), (s3.ex (Ex.new hD)).le (by omega)⟩ (fun i H4 hi p => ?_) (fun H4 p => ?_)
        · obtain ⟨as, rows, hN, hl, e4, s4⟩ := p
          have al : as.length = i := by rw [Paired.length hN.tab.2, hl]
          refine ⟨rfl, ?_⟩
          dsimp only [tYes]
          rw [if_pos rfl]
          refine lc_draw (s := s) (n := n + 3 + 10 * i) (m := w) (fun x => x.natAbs ≤ 100) (ea_cons (ev_var rfl) ea_nil) (by omega) s4 (fun u => rfl) (fun j H5 e5 hj s5 Q1 kq => ?_) (fun r ns H5 nr e5 s5 hr hln hP => ?_)
          · exact ⟨_, rfl, s, 3, _, rfl, s5, by omega, by decide, (by unfold Bd; decide +kernel), fun g H6 g0 g1 e6 s6 => ⟨_, _, rfl, rfl, kq (g - 1) H6 (by omega) e6 s6⟩⟩
          · have N5 := hN.exB e5 hs.obj
            have nr0 : H r = none := fresh_B e4 nr s4.obj
            have nrD : r ≠ D := fun z => by
              rw [z, hN.tab.1] at nr
              cases nr
            have nra : r ∉ as := fun ha => by
              obtain ⟨x, _, hx⟩ := paired_mem hN.tab.2 ha
              rw [nr] at hx
              cases hx
            refine ⟨_, N5.tab.1, small1000 (by rw [List.length_map]; omega), as ++ [r], rows ++ [ns], ?_, ?_, ?_, ?_⟩
            · refine ⟨hDH, fun a ha => ?_, ?_, ?_, ⟨?_, ?_⟩, fun x hx => ?_⟩
              · rcases List.mem_append.mp ha with q | q
                · exact hN.a0 a q
                · rw [show a = r by simpa using q]
                  exact nr0
              · refine List.nodup_append.mpr ⟨hN.nd, by simp, fun a ha b hb z => ?_⟩
                have : b = r := by simpa using hb
                exact nra (by rw [← this, ← z]; exact ha)
              · intro ha
                rcases List.mem_append.mp ha with q | q
                · exact hN.np q
                · exact nrD (by simpa using q : D = r).symm
              · rw [upd_same, List.map_append]
                rfl
              · refine paired_snoc (rows_but N5.tab.2 fun a ha o g => ?_) ?_
                · rw [upd_ne (fun z => hN.np (by rw [← z]; exact ha))]
                  exact g
                · rw [upd_ne nrD]
                  exact hr
              · rcases List.mem_append.mp hx with q | q
                · exact hN.ok x q
                · rw [show x = ns by simpa using q]
                  exact ⟨hln, hP⟩
            · rw [List.length_append, hl]
              rfl
            · refine fun b o nb h => ?_
              rw [upd_ne (ne_of_none h hDH)]
              exact e5 _ _ nb (e4 _ _ nb h)
            · obtain ⟨a1, a2, a3, a4, a5, a6, a7, a8⟩ := s5
              exact ⟨a1, a2, a3, by rw [upd_ne hDs.symm]; exact a4, a5, a6, a7, by omega⟩
        · obtain ⟨as, rows, hN, hl, e4, s4⟩ := p
          exact ⟨_, _, D, as, rows, rfl, hN, by omega, e4, s4.le (by omega)⟩
      · refine ⟨_, rfl, _, _, rfl, rfl, _, rfl, ?_⟩
        refine ite2 (fun _ => ?_) (fun _ => ?_)
        · refine ⟨_, rfl, _, rfl, _, rfl, s, _, m, w, rfl, s3, by omega, by omega, by omega, by omega, by omega, fun rs rows p H4 hN hl e4 s4 => ?_⟩
          exact ⟨_, _, p, rs, rows, rfl, hN.back e3 s3.obj, hl, e3.trans e4, s4.le (by omega)⟩
        · refine ⟨_, rfl, _, rfl, _, rfl, s, _, m, w, rfl, s3, by omega, by omega, by omega, by omega, by omega, fun rs rows p H4 hN hl e4 s4 => ?_⟩
          exact ⟨_, _, p, rs, rows, rfl, hN.back e3 s3.obj, hl, e3.trans e4, s4.le (by omega)⟩
    rintro σ' H4 ⟨y6, y7, p, as, rows, rfl, hN, hl, e4, s4⟩
    -- perhaps swung
    have nin : ∀ {a : Addr}, H a = none → a ≠ s := fun h => hs.ne h
    refine ⟨fun σ' H5 => ∃ (p : Addr) (as : List Addr) (rows : List (List Int)) (m' w' : Nat), σ' = [some (.ref s), some (.int most), some (.int m), some (.int w), some (.int f), some (.ref p), y6, y7] ∧ 1 ≤ m' ∧ m' ≤ most ∧ 1 ≤ w' ∧ w' ≤ most ∧ NewTab H H5 p as rows w' 100 ∧ rows.length = m' ∧ ExB s H H5 ∧ SrcAt H5 s (n + 604), ?_, ?_⟩
    · refine ⟨_, rfl, s, 2, _, rfl, s4, by omega, by decide, (by unfold Bd; decide +kernel), fun g H5 g0 g1 e5 s5 => ⟨rfl, _, rfl, ?_⟩⟩
      have N5 := hN.exB e5 hs.obj
      refine ite2 (fun _ => ?_) (fun _ => ?_)
      · refine ⟨_, rfl, _, rfl, s, p, _, as, rows, m, w, 100, rfl, s5, by omega, nin hN.p0, fun a ha => nin (hN.a0 a ha), N5.tab, hl, hN.ok, by decide, by omega, by omega, by omega, by omega, fun rs rows' p' H6 m' w' hmw _ hN' hl' e6 s6 => ?_⟩
        refine ⟨p', rs, rows', m', w', rfl, ?_, ?_, ?_, ?_, hN'.back (e4.trans e5) s5.obj, hl', (e4.trans e5).trans e6, s6.le (by omega)⟩ <;> rcases hmw with ⟨rfl, rfl⟩ | ⟨rfl, rfl⟩ <;> omega
      · exact ⟨p, as, rows, m, w, rfl, m1, m2, w1, w2, N5, hl, e4.trans e5, s5.le (by omega)⟩
    rintro σ' H5 ⟨p, as, rows, m', w', rfl, m1', m2', w1', w2', hN5, hl5, e5, s5⟩
    clear hN hl e4 s4
    have hN5 := hN5.mono (show 100 ≤ 10 ^ 30 by decide)
    -- other entries
    refine ⟨_, rfl, (by show 4 ≤ sizeLine; decide), fun l nl => ?_⟩
    have xl : Ex H5 (upd H5 l (.lst [.int 0, .int 0, .int 1, .int 2])) := Ex.new nl
    refine ⟨s, l, _, _, rfl, s5.ex xl, by omega, s5.ne nl, SqL.of upd_same, by decide, Nat.le_of_ble_eq_true rfl, fun v hv H6 e6 s6 => ?_⟩
    obtain ⟨c, rfl, hc0, hc2⟩ : ∃ c : Int, v = .int c ∧ 0 ≤ c ∧ c ≤ 2 := by
      simp only [List.mem_cons, List.not_mem_nil, or_false] at hv
      rcases hv with rfl | rfl | rfl | rfl
      · exact ⟨0, rfl, by decide, by decide⟩
      · exact ⟨0, rfl, by decide, by decide⟩
      · exact ⟨1, rfl, by decide, by decide⟩
      · exact ⟨2, rfl, by decide, by decide⟩
    have N6 := (hN5.ex xl).exB e6 hs.obj
    have e06 := (e5.trans (ExB.of xl)).trans e6
    clear xl nl
    refine ⟨_, rfl, by omega, by omega, for_range (lo := 0) (n := c.toNat) (fun i σ H' => ∃ (y6 y7 : Option V) (rows : List (List Int)), σ = [some (.ref s), some (.int most), some (.int m), some (.int w), some (.int f), some (.ref p), y6, y7] ∧ NewTab H H' p as rows w' (10 ^ 30) ∧ rows.length = m' ∧ ExB s H H' ∧ SrcAt H' s (n + 605 + 3 * i)) ⟨_, _, rows, rfl, N6, hl5, e06, s6.le (by omega)⟩ ?_ ?_⟩
    · rintro i σ H7 hi ⟨z6, z7, rows7, rfl, hN7, hl7, e7, s7⟩
      have al : as.length = m' := by rw [Paired.length hN7.tab.2, hl7]
      have i2 : i < 2 := by omega
      refine ⟨fun σ' H8 => ∃ (kk : Nat) (x : Addr) (row : List Int), σ' = [some (.ref s), some (.int most), some (.int m), some (.int w), some (.int f), some (.ref p), some (.int (0 + (i : Int))), some (.ref x)] ∧ as[kk]? = some x ∧ rows7[kk]? = some row ∧ ExB s H7 H8 ∧ SrcAt H8 s (n + 605 + 3 * i + 1), ?_, ?_⟩
      · refine ⟨_, rfl, _, rfl, _, rfl, p, _, rfl, .inl (SqL.of hN7.tab.1), s, _, _, rfl, s7, by omega, (by rw [List.length_map]; omega), ?_, fun g H8 g0 g1 e8 s8 => ?_⟩
        · unfold Bd
          exact Nat.lt_of_lt_of_le (show (((as.map V.ref).length : Nat) : Int).natAbs < 1024 by rw [List.length_map]; omega) (by decide +kernel)
        · rw [List.length_map] at g1
          obtain ⟨x, hx⟩ : ∃ x, as[g.toNat]? = some x := ⟨_, List.getElem?_eq_getElem (by omega)⟩
          obtain ⟨row, hrow, _⟩ := paired_get hN7.tab.2 hx
          have N8 := hN7.exB e8 hs.obj
          exact ⟨p, _, _, _, rfl, rfl, SqL.of N8.tab.1, at_of (j := g.toNat) (by omega) (by rw [List.getElem?_map, hx]; rfl), g.toNat, x, row, rfl, hx, hrow, e8, s8⟩
      rintro σ' H8 ⟨kk, x, row, rfl, hx, hrow, e8, s8⟩
      have N8 := hN7.exB e8 hs.obj
      have nxs : x ≠ s := nin (hN7.a0 x (List.mem_of_getElem? hx))
      have o := hN7.ok row (List.mem_of_getElem? hrow)
      have hxr : H8 x = some (.lst (row.map V.int)) := by
        obtain ⟨r', hr', hh⟩ := paired_get N8.tab.2 hx
        rw [hrow] at hr'
        rw [Option.some.inj hr']
        exact hh
      refine ⟨_, rfl, _, rfl, _, rfl, _, rfl, _, _, rfl, rfl, ⟨by decide, by decide, by decide⟩, (by show 9 ≤ sizeLine; decide), fun l nl => ?_⟩
      have xl : Ex H8 (upd H8 l (.lst [.int 1, .int (-1), .int 0, .int 1, .int (-1), .int 0, .int 2, .int (-3), .int (10 ^ (30 : Int).toNat)])) := Ex.new nl
      refine ⟨s, l, _, _, rfl, s8.ex xl, by omega, s8.ne nl, SqL.of upd_same, by decide, Nat.le_of_ble_eq_true rfl, fun v hv H9 e9 s9 => ?_⟩
      obtain ⟨y, rfl, hy⟩ : ∃ y : Int, v = .int y ∧ y.natAbs ≤ 10 ^ 30 := by
        simp only [List.mem_cons, List.not_mem_nil, or_false] at hv
        rcases hv with rfl | rfl | rfl | rfl | rfl | rfl | rfl | rfl | rfl <;> exact ⟨_, rfl, by decide +kernel⟩
      have x9 := e9 _ _ nxs (xl _ _ hxr)
      refine ⟨_, rfl, _, rfl, _, rfl, x, _, rfl, .inl (SqL.of x9), s, _, _, rfl, s9, by omega, (by rw [List.length_map, o.1]; omega), ?_, fun g HA g0 g1 eA sA => ?_⟩
      · unfold Bd
        exact Nat.lt_of_lt_of_le (show (((row.map V.int).length : Nat) : Int).natAbs < 1024 by rw [List.length_map, o.1]; omega) (by decide +kernel)
      · rw [List.length_map] at g1
        have e8A := (e8.trans (ExB.of xl)).trans (e9.trans eA)
        have NA := hN7.exB e8A hs.obj
        have ix : ixN (row.map V.int).length g = some g.toNat := by
          have := Evl.ixN_nat (n := (row.map V.int).length) (j := g.toNat) (by rw [List.length_map]; omega)
          rw [← this]
          congr 1
          omega
        refine ⟨x, _, g, g.toNat, rfl, rfl, eA _ _ nxs x9, ix, ?_⟩
        refine ⟨_, _, rows7.set kk (row.set g.toNat y), rfl, NA.set hx hrow hy, by rw [List.length_set]; exact hl7, ?_, ?_⟩
        · refine fun b o' nb h => ?_
          rw [upd_ne (ne_of_none h (hN7.a0 x (List.mem_of_getElem? hx)))]
          exact e8A _ _ nb (e7 _ _ nb h)
        · obtain ⟨a1, a2, a3, a4, a5, a6, a7, a8⟩ := sA
          exact ⟨a1, a2, a3, by rw [upd_ne nxs.symm]; exact a4, a5, a6, a7, by omega⟩
    · rintro σ H7 ⟨z6, z7, rows7, rfl, hN7, hl7, e7, s7⟩
      refine ⟨_, rfl, ?_⟩
      exact k as rows7 p H7 m' w' m1' m2' w1' w2' hN7 hl7 e7 (s7.le (by omega))
-- DEF piece

def pieceOf (rows : List (List Int)) (ris cis : List Int) : List (List Int) := ris.map fun i => cis.map fun j => (rows[i.toNat]?.getD [])[j.toNat]?.getD 0
def sp_piece (K : PySem.W.Frag) : Sp := fun vs H Q _ => ∃ (p pr pc : Addr) (as : List Addr) (rows : List (List Int)) (m w : Nat) (ris cis : List Int), vs = [.ref p, .ref pr, .ref pc] ∧ TabOk H p as rows m w ∧ H pr = some (.lst (ris.map V.int)) ∧ Rising m ris ∧ ris ≠ [] ∧ H pc = some (.lst (cis.map V.int)) ∧ Rising w cis ∧ cis ≠ [] ∧ ris.length ≤ 8 ∧ cis.length ≤ 8 ∧
  ∀ q bs H', H q = none → (∀ a ∈ bs, H a = none) → bs.Nodup → q ∉ bs → Ex H H' → Tab H' q bs (pieceOf rows ris cis) → Q (.ref q) H'

theorem ok_piece (T : Txt K mg) : FnOk P w K mg base CX0 6 T.f_piece T.fd_piece ["table", "rows", "columns"] (sp_piece K) := by
  refine Fun.ok T.F_piece sc_piece (fun vs H Q E h => ?_) (fun cdv A outer s H vs Q E hr h => ?_)
  · obtain ⟨_, _, _, _, _, _, _, _, _, rfl, _⟩ := h; rfl
  · refine ⟨_, (pss_cons (ps_asg (pe_call (ok_shape T) hr (by rfl) T.g_shape T.k_shape T.b_shape .nil pass0 (pa_cons (pv 0) pa_nil)) (pg_tup rfl (pgs_cons (pg_name (i := 3) sc_piece.nd rfl (by first | exact Or.inl rfl | exact Or.inr rfl)) (pgs_cons (pg_name (i := 4) sc_piece.nd rfl (by first | exact Or.inl rfl | exact Or.inr rfl)) pgs_nil))))
      (pss_cons (ps_expr (pe_call (ok_check_pick T) (hr.mono (by decide)) (by rfl) T.g_check_pick T.k_check_pick T.b_check_pick .nil pass0 (pa_cons (pv 1) (pa_cons (pv 3) pa_nil))))
      (pss_cons (ps_expr (pe_call (ok_check_pick T) (hr.mono (by decide)) (by rfl) T.g_check_pick T.k_check_pick T.b_check_pick .nil pass0 (pa_cons (pv 2) (pa_cons (pv 4) pa_nil))))
      (pss_one (ps_ret (pe_lc (own := [("row", 5)]) (wi := iList K _) (g := gName 5) (tt := tYes) rfl sc_piece.nd (pi_list (pv 1)) (blkOk_by (N := ["table", "rows", "columns", "many", "wide", "row", "column"]) (sc := (defScope s_piece)) (by decide +kernel)) (fun _ _ _ _ _ => pg_name (i := 5) sc_piece.nd rfl (Or.inr rfl)) (fun _ _ _ _ _ => pts_nil) (fun _ _ _ _ _ => (pe_lc (own := [("column", 6)]) (wi := iList K _) (g := gName 6) (tt := tYes) rfl sc_piece.nd (pi_list (pv 2)) (blkOk_by (N := ["table", "rows", "columns", "many", "wide", "row", "column"]) (sc := (relS ({ kind := .function, names := [(".0", .local), ("row", .cell), ("columns", .free), ("table", .free)], isGenerator := false, isCoroutine := false } : Scope) (defScope s_piece))) (by decide +kernel)) (fun _ _ _ _ _ => pg_name (i := 6) sc_piece.nd rfl (Or.inl rfl)) (fun _ _ _ _ _ => pts_nil) (fun _ _ _ _ _ => (pe_ix (r := rIxL K) ix_list (pe_ix (r := rIxL K) ix_list (pv 0) (pv 5) (fun _ _ => rfl)) (pv 6) (fun _ _ => rfl))))))))))), ?_⟩
    obtain ⟨p, pr, pc, as, rows, m, w, ris, cis, rfl, hT, hr, hR, hrn, hc, hC, hcn, hr8, hc8, k⟩ := h
    refine ⟨_, rfl, p, as, rows, m, w, rfl, hT, fun t H1 nt e1 ht => ?_⟩
    refine ⟨t, _, rfl, SqT.of ht, rfl, _, _, rfl, _, _, rfl, rfl, ?_⟩
    refine ⟨_, rfl, _, rfl, pr, m, ris, rfl, e1 _ _ hr, hR, hrn, fun H2 e2 => ?_⟩
    have e12 := e1.trans e2
    refine ⟨_, rfl, _, rfl, pc, w, cis, rfl, e12 _ _ hc, hC, hcn, fun H3 e3 => ?_⟩
    have e13 := e12.trans e3
    have hT3 := hT.ex e13
    refine lc_rowsL (K := K) (ys := ris) (fun i => cis.map fun j => (rows[i.toNat]?.getD [])[j.toNat]?.getD 0) rfl (e13 _ _ hr) (by omega) (fun u => rfl) (fun i H4 hi e4 => ?_) (fun q bs H4 nq nbs nd nqb e4 ht => ?_)
    · refine el_mapI (K := K) (qs := cis) (fun j => (rows[i.toNat]?.getD [])[j.toNat]?.getD 0) rfl ((e13.trans e4) _ _ hc) (by omega) (fun u => rfl) fun j H5 hj e5 => ?_
      have bi := hR.1 i hi
      have bj := hC.1 j hj
      have hT5 := hT3.ex (e4.trans e5)
      obtain ⟨a, r, ha, hr', hh, hl⟩ := hT5.row bi.1 bi.2
      rw [hr']
      exact ev_op (ev_op (ev_var rfl) (ev_var rfl) (rv_ixL (SqL.of hT5.tab.1) ha)) (ev_var rfl) (rv_ixL (SqL.of hh) (atI_rowI bj.1 (by omega)))
    · exact k q bs H4 (fresh_back e13 nq) (fun a ha => fresh_back e13 (nbs a ha)) nd nqb (e13.trans e4) ht
-- DEF bad_square
theorem ev_min2 {ta tb : TE} {σ : L2.St} {H : Hp} {i j : Int} (ha : Ev ta σ H (.int i)) (hb : Ev tb σ H (.int j)) : Ev (tCB (fun xs H Q => ∃ i j, xs = [.int i, .int j] ∧ Q (.int (if j < i then j else i)) H) (tCons ta (tCons tb tNil))) σ H (.int (if j < i then j else i)) := fun H1 e Q q =>
  ha H1 e _ fun H2 e2 => hb H2 (e.trans e2) _ fun H3 e3 => ⟨i, j, rfl, q H3 (e2.trans e3)⟩

theorem e_pairUU {ta tb : TE} {σ : L2.St} {H : Hp} {xs ys : List V} (h1 : EvU ta σ H xs) (h2 : EvU tb σ H ys) (Q : VK) (k : ∀ p q t H1, H t = none → Ex H H1 → H1 p = some (.tup xs) → H1 q = some (.tup ys) → H1 t = some (.tup [.ref p, .ref q]) → Q (.ref t) H1) : tTup (tCons ta (tCons tb tNil)) σ H Q :=
  h1 H (Ex.refl H) _ fun p H1 np e1 hp => h2 H1 e1 _ fun q H2 nq e2 hq => ⟨(by show 2 ≤ sizeLine; decide), fun t nt => by
    have x2 := Ex.new (o := .tup [V.ref p, .ref q]) nt
    exact k p q t _ (fresh_back (e1.trans e2) nt) ((e1.trans e2).trans x2) (x2 _ _ (e2 _ _ hp)) (x2 _ _ hq) upd_same⟩
theorem s_ret3 {ta tb tc : TE} {D : Ends} {σ : L2.St} {H : Hp} {xs ys : List V} {v : V} (h1 : EvL ta σ H xs) (h2 : EvL tb σ H ys) (h3 : Ev tc σ H v) (k : ∀ p q t H1, H p = none → H q = none → p ≠ q → Ex H H1 → H1 p = some (.lst xs) → H1 q = some (.lst ys) → H1 t = some (.tup [.ref p, .ref q, v]) → D.rt (.ref t) H1) : tRet (tTup (tCons ta (tCons tb (tCons tc tNil)))) D σ H :=
  h1 H (Ex.refl H) _ fun p H1 np e1 hp => h2 H1 e1 _ fun q H2 nq e2 hq => h3 H2 (e1.trans e2) _ fun H3 e3 => ⟨(by show 3 ≤ sizeLine; decide), fun t nt => by
    have x2 := Ex.new (o := .tup [V.ref p, .ref q, v]) nt
    have pq : p ≠ q := fun z => by
      rw [← z, hp] at nq
      cases nq
    exact k p q t _ np (fresh_back e1 nq) pq (((e1.trans e2).trans e3).trans x2) (x2 _ _ (e3 _ _ (e2 _ _ hp))) (x2 _ _ (e3 _ _ hq)) upd_same⟩
theorem el_listT {K : PySem.W.Frag} {te : TE} {σ : L2.St} {H : Hp} {a : Addr} {xs : List V} (h : Ev te σ H (.ref a)) (hx : H a = some (.tup xs)) : EvL (tCB (rListS K) (tCons te tNil)) σ H xs := fun H1 e Q q =>
  h H1 e _ fun H2 e2 => ⟨a, xs, rfl, .inr (SqT.of ((e.trans e2) _ _ hx)), fun l nl => q l _ (fresh_back e2 nl) (e2.trans (Ex.new nl)) upd_same⟩
section
variable {K : PySem.W.Frag} {P : Program} {w : World} {H : Hp} {g : Addr} {L : DN.Tb} {o : HO}
mutual
theorem is_put (hg : H g = some (DN.O P w g L)) : ∀ {k : NestedKey} {v : V}, DN.Is K H k v → DN.Is K (upd H g o) k v
  | _, _, .num i => .num i
  | _, _, .tup a b => .tup (by
      rcases a with a | a
      · refine .inl ?_
        rcases a with a | ⟨ob, a⟩
        · exact .inl (by rw [upd_ne (fun z => by rw [z, hg] at a; cases a)]; exact a)
        · exact .inr ⟨ob, by rw [upd_ne (fun z => by rw [z, hg] at a; cases a)]; exact a⟩
      · exact .inr a) (all_put hg b)
theorem all_put (hg : H g = some (DN.O P w g L)) : ∀ {ks : List NestedKey} {vs : List V}, DN.All K H ks vs → DN.All K (upd H g o) ks vs
  | _, _, .nil => .nil
  | _, _, .cons a b => .cons (is_put hg a) (all_put hg b)
end
end
/-- the table holds the values of these squares -/
def Holds (R : List (List Int)) (L : DN.Tb) (xs : List (List Nat × List Nat)) : Prop := Paired (fun (e : NestedKey × Addr × Int) (x : List Nat × List Nat) => e.1 = keyS x.1 x.2 ∧ e.2.2 = Bs.val R x.1 x.2) L xs
theorem holds_in {R : List (List Int)} {x : List Nat × List Nat} : ∀ {L : DN.Tb} {xs : List (List Nat × List Nat)}, Holds R L xs → x ∈ xs → DN.find L (keyS x.1 x.2) = some (Bs.val R x.1 x.2)
  | _, _, .nil, h => nomatch h
  | e :: L, y :: xs, .cons ⟨h1, h2⟩ t, h => by
    unfold DN.find
    rw [List.find?_cons]
    by_cases c : e.1 = keyS x.1 x.2
    · rw [decide_eq_true c]
      obtain ⟨e1, e2⟩ := keyS_inj (h1.symm.trans c)
      show some e.2.2 = _
      rw [h2, e1, e2]
    · rw [decide_eq_false c]
      have hm : x ∈ xs := (List.mem_cons.mp h).resolve_left fun z => c (by rw [h1, z])
      exact holds_in t hm
theorem holds_out {R : List (List Int)} {x : List Nat × List Nat} : ∀ {L : DN.Tb} {xs : List (List Nat × List Nat)}, Holds R L xs → x ∉ xs → DN.find L (keyS x.1 x.2) = none
  | _, _, .nil, _ => rfl
  | e :: L, y :: xs, .cons ⟨h1, h2⟩ t, h => by
    unfold DN.find
    rw [List.find?_cons]
    have c : ¬ e.1 = keyS x.1 x.2 := fun c => by
      obtain ⟨e1, e2⟩ := keyS_inj (h1.symm.trans c)
      exact h (by rw [show x = y from Prod.ext e1.symm e2.symm]; exact List.mem_cons_self ..)
    rw [decide_eq_false c]
    exact holds_out t fun z => h (List.mem_cons_of_mem _ z)
def BadAt (R : List (List Int)) (H0 H : Hp) (v : V) : Option (List Nat × List Nat) → Prop
  | none => v = .non
  | some x => ∃ t a b, v = .ref t ∧ H t = some (.tup [.ref a, .ref b, .int (Bs.val R x.1 x.2)]) ∧ H a = some (.lst ((Sg.zs x.1).map V.int)) ∧ H b = some (.lst ((Sg.zs x.2).map V.int)) ∧ H0 a = none ∧ H0 b = none ∧ a ≠ b
theorem pickV_zs (n : Nat) (l : List Nat) (h : ∀ x ∈ l, x < n) : CbL.pickV ((List.range n).map fun (i : Nat) => V.int (i : Int)) l = (Sg.zs l).map V.int := by
  unfold CbL.pickV Sg.zs
  rw [List.map_map]
  refine List.map_congr_left fun x hx => ?_
  rw [List.getElem?_map, List.getElem?_range (h x hx)]
  rfl
theorem sqs_len (m w s : Nat) (h1 : m ≤ 8) (h2 : w ≤ 8) : ∀ i j, (Bs.upto m w s i j).length ≤ 66000 := fun i j => by
  have a1 : (Cb.all m s).length ≤ 256 := Nat.le_trans (Cb.all_count m s m 0 (by omega)) (Nat.le_trans (Nat.pow_le_pow_right (by decide) h1) (by decide))
  have a2 : (Cb.all w s).length ≤ 256 := Nat.le_trans (Cb.all_count w s w 0 (by omega)) (Nat.le_trans (Nat.pow_le_pow_right (by decide) h2) (by decide))
  unfold Bs.upto
  rw [List.length_append, List.length_map, List.length_take, List.length_flatMap]
  have e : (((Cb.all m s).take i).map fun rs => ((Cb.all w s).map fun cs => (rs, cs)).length) = List.replicate ((Cb.all m s).take i).length (Cb.all w s).length := by
    rw [List.eq_replicate_iff]
    refine ⟨by rw [List.length_map], fun b hb => ?_⟩
    obtain ⟨r, _, rfl⟩ := List.mem_map.mp hb
    rw [List.length_map]
  rw [e, List.sum_replicate_nat, List.length_take]
  have h3 : min i (Cb.all m s).length * (Cb.all w s).length ≤ 256 * 256 := Nat.mul_le_mul (by omega) a2
  omega

def sp_bad_square (K : PySem.W.Frag) : Sp := fun vs H Q _ => ∃ (p : Addr) (as : List Addr) (R : List (List Int)) (m wd : Nat), vs = [.ref p] ∧ TabOk H p as R m wd ∧ (∀ r ∈ R, ∀ y ∈ r, Bd 100 y) ∧ ∀ v H', Ex H H' → (BadAt R H H' v (Bs.bad R m wd) ∧ ∀ x, Bs.bad R m wd = some x → Bd (x.1.length * 112 + 1) (Bs.val R x.1 x.2)) → Q v H'

theorem ok_bad_square (T : Txt K mg) : FnOk P w K mg base CX0 6 T.f_bad_square T.fd_bad_square ["table"] (sp_bad_square K) := by
  refine Fun.ok T.F_bad_square sc_bad_square (fun vs H Q E h => ?_) (fun cdv A outer s H vs Q E hr h => ?_)
  · obtain ⟨_, _, _, _, _, rfl, _⟩ := h; rfl
  · refine ⟨_, (pss_cons (ps_asg (pe_call (ok_shape T) hr (by rfl) T.g_shape T.k_shape T.b_shape .nil pass0 (pa_cons (pv 0) pa_nil)) (pg_tup rfl (pgs_cons (pg_name (i := 1) sc_bad_square.nd rfl (by first | exact Or.inl rfl | exact Or.inr rfl)) (pgs_cons (pg_name (i := 2) sc_bad_square.nd rfl (by first | exact Or.inl rfl | exact Or.inr rfl)) pgs_nil))))
      (pss_cut (ps_set (i := 3) sc_bad_square.nd rfl (by first | exact Or.inl rfl | exact Or.inr rfl) (DN.pe_one hr (pe_tup (pa_cons (pe_tup pa_nil) (pa_cons (pe_tup pa_nil) pa_nil))) pe_int))
      (pss_cons (ps_for PassesOwn.never rfl (pi_range2 (by rfl) T.n_range (pa_cons pe_int (pa_cons (pe_op op_add (pe_callB (call_min2 rfl) (by rfl) T.n_min (by decide +kernel) (pa_cons (pv 1) (pa_cons (pv 2) pa_nil))) pe_int) pa_nil))) (pg_name (i := 4) sc_bad_square.nd rfl (by first | exact Or.inl rfl | exact Or.inr rfl))
        (pss_cons (ps_set (i := 5) sc_bad_square.nd rfl (by first | exact Or.inl rfl | exact Or.inr rfl) DN.pe_new)
          (pss_cons (ps_for PassesOwn.never rfl (CbL.pi_combR (by rfl) (by rfl) T.g_combinations (by rfl) T.n_range (pv 1) (pv 4)) (pg_name (i := 6) sc_bad_square.nd rfl (by first | exact Or.inl rfl | exact Or.inr rfl))
            (pss_one (ps_for PassesOwn.never rfl (CbL.pi_combR (by rfl) (by rfl) T.g_combinations (by rfl) T.n_range (pv 2) (pv 4)) (pg_name (i := 7) sc_bad_square.nd rfl (by first | exact Or.inl rfl | exact Or.inr rfl))
                (pss_cons (ps_set (i := 8) sc_bad_square.nd rfl (by first | exact Or.inl rfl | exact Or.inr rfl) (pe_call (ok_unfolded T) (hr.mono (by decide)) (by rfl) T.g_unfolded T.k_unfolded T.b_unfolded .nil pass0 (pa_cons (pv 0) (pa_cons (pv 6) (pa_cons (pv 7) (pa_cons (pv 3) pa_nil))))))
                  (pss_cons (ps_if (pt_val (pe_call (ok_is_bad T) (hr.mono (by decide)) (by rfl) T.g_is_bad T.k_is_bad T.b_is_bad .nil pass0 (pa_cons (pv 8) pa_nil)))
                    (pss_one (ps_ret (pe_tup (pa_cons (pe_callTy (T := "list") (r := rListS K) call_list_of (by rfl) T.n_list (by decide +kernel) (pa_cons (pv 6) pa_nil)) (pa_cons (pe_callTy (T := "list") (r := rListS K) call_list_of (by rfl) T.n_list (by decide +kernel) (pa_cons (pv 7) pa_nil)) (pa_cons (pv 8) pa_nil))))))
                    pss_nil)
                  (pss_one (DN.ps_put hr (pv 5) (pe_tup (pa_cons (pv 6) (pa_cons (pv 7) pa_nil))) (pv 8) rfl)))))))
          (pss_one (ps_set (i := 3) sc_bad_square.nd rfl (by first | exact Or.inl rfl | exact Or.inr rfl) (pv 5))))))
      (pss_one (ps_ret pe_non))))), ?_⟩
    obtain ⟨p, as, R, m, wd, rfl, hT, hb, k⟩ := h
    have hdm := hT.b
    have zl : ∀ ns : List Nat, ((Sg.zs ns).map V.int).length = ns.length := fun ns => by unfold Sg.zs; rw [List.length_map, List.length_map]
    refine ⟨_, rfl, p, as, R, m, wd, rfl, hT, fun ts H1 nts e1 hts => ?_⟩
    refine ⟨ts, _, rfl, SqT.of hts, rfl, _, _, rfl, _, _, rfl, rfl, ?_⟩
    refine ⟨fun σ' H' => ∃ (d : Addr) (L : DN.Tb), σ' = [some (.ref p), some (.int (m : Int)), some (.int (wd : Int)), some (.ref d), none, none, none, none, none] ∧ Ex H H' ∧ H' d = some (DN.O P w d L) ∧ H d = none ∧ DN.Keys K H' L ∧ Holds R L (Bs.sq m wd 0), ?_, ?_⟩
    · refine fun d nd => ?_
      have xd := Ex.new (o := DN.O P w d []) nd
      refine e_pairUU (σ := [some (.ref p), some (.int (m : Int)), some (.int (wd : Int)), none, none, none, none, none, none]) (eu_tup ea_nil (Nat.zero_le _)) (eu_tup ea_nil (Nat.zero_le _)) _ fun a b t H2 nt e2 ha hb2 ht => ?_
      have td : t ≠ d := fun z => by rw [z, upd_same] at nt; cases nt
      have hd2 := e2 _ _ (upd_same (H := H1) (a := d) (o := DN.O P w d []))
      have ik : DN.Is K H2 (keyS [] []) (.ref t) := is_key ht ha hb2
      refine ⟨t, keyS [] [], 1, rfl, rfl, hd2, ik, keyS_depth _ _, d, [(keyS [] [], t, 1)], rfl, Ex.mut ((e1.trans xd).trans e2) (fresh_back e1 nd), upd_same, fresh_back e1 nd, fun e he => ?_, .cons ⟨rfl, (Bs.val_nil R).symm⟩ .nil⟩
      rw [List.mem_singleton.mp he]
      exact ⟨is_put hd2 ik, keyS_depth _ _⟩
    rintro σ' H2 ⟨d, L, rfl, e2, hd2, nd, hK2, hH2⟩
    have ll : ∀ n : Nat, ((List.range n).map fun (i : Nat) => V.int (i : Int)).length = n := fun n => by rw [List.length_map, List.length_range]
    refine q_forR2 (lo := 1) (n := ((min m wd : Nat) : Int) + 1) (ea_cons ev_c (ea_cons (ev_op (ev_is (ev_min2 (ev_var (i := 1) rfl) (ev_var (i := 2) rfl)) ?_) ev_c rv_I0) ea_nil)) (by omega)
      (fun s σ' H' => ∃ (d : Addr) (L : DN.Tb) (y4 y5 y6 y7 y8 : Option V), σ' = [some (.ref p), some (.int (m : Int)), some (.int (wd : Int)), some (.ref d), y4, y5, y6, y7, y8] ∧ Ex H H' ∧ H' d = some (DN.O P w d L) ∧ H d = none ∧ DN.Keys K H' L ∧ Holds R L (Bs.sq m wd s) ∧ (∀ x ∈ Bs.sqs m wd s, Bs.isBad (Bs.val R x.1 x.2) = false) ∧ (∀ x ∈ Bs.sq m wd s, Bd (s * 112 + 1) (Bs.val R x.1 x.2))) (fun H3 e3 => ⟨d, L, _, _, _, _, _, rfl, e2.trans e3, e3 _ _ hd2, nd, hK2.ex e3, hH2, fun x hx => (nomatch hx), fun x hx => ?_⟩) (fun s σ' H3 hs hP => ?_) (fun σ' H3 hP => ?_)
    · exact congrArg V.int (by split <;> omega)
    · have hx : x ∈ [(([] : List Nat), ([] : List Nat))] := hx
      rw [List.mem_singleton.mp hx, Bs.val_nil]
      unfold Bd
      decide
    rotate_left
    · obtain ⟨d, L, y4, y5, y6, y7, y8, rfl, e3, _, _, _, _, hno, _⟩ := hP
      have en : (((min m wd : Nat) : Int) + 1 - 1).toNat = min m wd := by omega
      rw [en] at hno
      refine s_ret (v := .non) ev_c fun H4 e4 => k _ H4 (e3.trans e4) ?_
      have hn : Bs.bad R m wd = none := List.find?_eq_none.mpr fun x hx => by rw [hno x hx]; exact Bool.false_ne_true
      rw [hn]
      exact ⟨rfl, fun x z => nomatch z⟩
    obtain ⟨d, L, y4, y5, y6, y7, y8, rfl, e3, hd3, nd, hK3, hH3, hno, hbd⟩ := hP
    have hsm : s + 1 ≤ min m wd := by omega
    have hno0 := hno
    -- grown
    refine fun g ng => ?_
    have xg := Ex.new (o := DN.O P w g []) ng
    have gd : g ≠ d := fun z => by rw [z, hd3] at ng; cases ng
    have ng0 : H g = none := fresh_back e3 ng
    have esz : (1 : Int) + (s : Int) = ((s + 1 : Nat) : Int) := by push_cast; omega
    let Sst (L' : DN.Tb) (i j : Nat) (H' : Hp) : Prop := Ex H H' ∧ H' d = some (DN.O P w d L) ∧ H' g = some (DN.O P w g L') ∧ DN.Keys K H' L ∧ DN.Keys K H' L' ∧ Holds R L' (Bs.upto m wd (s + 1) i j) ∧ (∀ x ∈ Bs.upto m wd (s + 1) i j, Bs.isBad (Bs.val R x.1 x.2) = false) ∧ (∀ x ∈ Bs.upto m wd (s + 1) i j, Bd ((s + 1) * 112 + 1) (Bs.val R x.1 x.2))
    have hSex : ∀ {L' : DN.Tb} {i j : Nat} {G G' : Hp}, Sst L' i j G → Ex G G' → Sst L' i j G' := fun ⟨a1, a2, a3, a4, a5, a6, a7, a8⟩ e => ⟨a1.trans e, e _ _ a2, e _ _ a3, a4.ex e, a5.ex e, a6, a7, a8⟩
    refine ⟨_, rfl, m, rfl, by omega, _, rfl, s + 1, congrArg V.int esz, by omega, CbL.for_comb (xs := (List.range m).map fun (i : Nat) => V.int (i : Int)) (r := s + 1) (fun i σ' H' => ∃ (y6 y7 y8 : Option V) (L' : DN.Tb), σ' = [some (.ref p), some (.int (m : Int)), some (.int (wd : Int)), some (.ref d), some (.int (1 + (s : Int))), some (.ref g), y6, y7, y8] ∧ Sst L' i 0 H') ⟨_, _, _, [], rfl, e3.trans xg, xg _ _ hd3, upd_same, hK3.ex xg, fun e he => (nomatch he), by rw [Bs.upto_zero]; exact .nil, fun x hx => (by rw [Bs.upto_zero] at hx; exact nomatch hx), fun x hx => (by rw [Bs.upto_zero] at hx; exact nomatch hx)⟩ (fun i rs r σ' H4 hrs hP nr => ?_) (fun σ' H4 hP => ?_)⟩
    rotate_left
    · obtain ⟨y6, y7, y8, L', rfl, f1, f2, f3, f4, f5, f6, f7, f8⟩ := hP
      rw [ll, Bs.upto_all] at f6 f7 f8
      dsimp only
      refine s_asg (v := .ref g) (ev_var (i := 5) rfl) fun H5 e5 => ⟨g, L', _, _, _, _, _, rfl, f1.trans e5, e5 _ _ f3, ng0, f5.ex e5, f6, fun x hx => ?_, f8⟩
      rw [Bs.sqs_succ] at hx
      rcases List.mem_append.mp hx with h | h
      · exact hno x h
      · exact f7 x h
    obtain ⟨y6, y7, y8, L', rfl, hS4⟩ := hP
    rw [ll] at hrs
    obtain ⟨hr1, hr2, hr3⟩ := Cb.mem_all.mp (List.mem_of_getElem? hrs)
    obtain ⟨ahead, l, rfl, hah, hl⟩ := Bs.init_mem (List.mem_of_getElem? hrs)
    rw [pickV_zs m _ hr3]
    have xr := Ex.new (o := .tup ((Sg.zs (ahead ++ [l])).map V.int)) nr
    refine ⟨_, rfl, wd, rfl, by omega, _, rfl, s + 1, congrArg V.int esz, by omega, CbL.for_comb (xs := (List.range wd).map fun (i : Nat) => V.int (i : Int)) (r := s + 1) (fun j σ' H' => ∃ (y7 y8 : Option V) (L' : DN.Tb), σ' = [some (.ref p), some (.int (m : Int)), some (.int (wd : Int)), some (.ref d), some (.int (1 + (s : Int))), some (.ref g), some (.ref r), y7, y8] ∧ Sst L' i j H' ∧ H' r = some (.tup ((Sg.zs (ahead ++ [l])).map V.int))) ⟨_, _, L', rfl, hSex hS4 xr, upd_same⟩ (fun j cs c σ' H5 hcs hP nc => ?_) (fun σ' H5 hP => ?_)⟩
    rotate_left
    · obtain ⟨y7, y8, L2, rfl, hS5, _⟩ := hP
      rw [ll] at hS5
      obtain ⟨f1, f2, f3, f4, f5, f6, f7, f8⟩ := hS5
      rw [Bs.upto_full (List.getElem?_eq_some_iff.mp hrs).1] at f6 f7 f8
      exact ⟨_, _, _, L2, rfl, f1, f2, f3, f4, f5, f6, f7, f8⟩
    obtain ⟨y7, y8, L2, rfl, hS5, hr5⟩ := hP
    rw [ll] at hcs
    obtain ⟨hc1, hc2, hc3⟩ := Cb.mem_all.mp (List.mem_of_getElem? hcs)
    rw [pickV_zs wd _ hc3]
    have xc := Ex.new (o := .tup ((Sg.zs cs).map V.int)) nc
    have hS6 := hSex hS5 xc
    have hr6 := xc _ _ hr5
    have hc6 : upd H5 c (.tup ((Sg.zs cs).map V.int)) c = some (.tup ((Sg.zs cs).map V.int)) := upd_same
    generalize upd H5 c (.tup ((Sg.zs cs).map V.int)) = H6 at hS6 hr6 hc6
    obtain ⟨f1, f2, f3, f4, f5, f6, f7, f8⟩ := hS6
    have ahl : ahead.length = s := (Cb.mem_all.mp hah).1
    refine ⟨_, rfl, _, rfl, _, rfl, _, rfl, p, r, c, d, as, R, m, wd, ahead, l, cs, L, rfl, hT.ex f1, hb, hr6, hc6, by omega, by omega, hl, hc3, f2, f4, fun jj hjj => ?_, fun hbv H7 e7 => ?_⟩
    · have hm : (ahead, Bs.out cs jj) ∈ Bs.sq m wd s := Bs.mem_sq.mpr ⟨hah, Bs.out_mem (List.mem_of_getElem? hcs) (by omega)⟩
      exact ⟨holds_in hH3 hm, by rw [ahl]; exact hbd _ hm⟩
    dsimp only
    have sp := Bs.sq_split hrs hcs
    refine q_when (b := Bs.isBad (Bs.val R (ahead ++ [l]) cs)) (et_B (ev_fn (sp := sp_is_bad K) (ea_cons (ev_var (i := 8) rfl) ea_nil) fun H8 e8 Q8 q8 => ⟨_, rfl, q8⟩)) (fun z H8 e8 => ?_) (fun z H8 e8 => ?_)
    · have e68 := e7.trans e8
      refine s_ret3 (el_listT (ev_var (i := 6) rfl) (e68 _ _ hr6)) (el_listT (ev_var (i := 7) rfl) (e68 _ _ hc6)) (ev_var (i := 8) rfl) fun a b t H9 na nb ab e9 ha hb' ht => k _ H9 (f1.trans (e68.trans e9)) ?_
      have hbad : Bs.bad R m wd = some (ahead ++ [l], cs) := by
        obtain ⟨B1, hB1⟩ := Bs.sqs_split (m := m) (w := wd) (n := min m wd) (s := s) (by omega)
        obtain ⟨B2, hB2⟩ := sp
        unfold Bs.bad
        rw [hB1, hB2]
        have e : Bs.sqs m wd s ++ (Bs.upto m wd (s + 1) i j ++ (ahead ++ [l], cs) :: B2 ++ B1) = (Bs.sqs m wd s ++ Bs.upto m wd (s + 1) i j) ++ (ahead ++ [l], cs) :: (B2 ++ B1) := by simp [List.append_assoc]
        rw [e]
        refine Bs.find_split (fun y hy => ?_) z
        rcases List.mem_append.mp hy with h | h
        · exact hno0 y h
        · exact f7 y h
      rw [hbad]
      exact ⟨⟨t, a, b, rfl, ht, ha, hb', fresh_back (f1.trans e68) na, fresh_back (f1.trans e68) nb, ab⟩, fun x z => by
        cases z
        have e9 : cs.length = (ahead ++ [l]).length := by rw [List.length_append]; show cs.length = ahead.length + 1; omega
        show Bd ((ahead ++ [l]).length * 112 + 1) _
        rw [← e9]
        exact hbv⟩
    have e68 := e7.trans e8
    refine ⟨_, rfl, _, rfl, _, rfl, _, rfl, (by show 2 ≤ sizeLine; decide), fun b nb => ?_⟩
    have xb := Ex.new (o := .tup [V.ref r, .ref c]) nb
    have e6b := e68.trans xb
    have hg := e6b _ _ f3
    have ik : DN.Is K (upd H8 b (.tup [V.ref r, .ref c])) (keyS (ahead ++ [l]) cs) (.ref b) := is_key upd_same (e6b _ _ hr6) (e6b _ _ hc6)
    have nw := Bs.upto_new hrs hcs
    have lL : L2.length ≤ 66000 := by
      rw [Paired.length f6]
      exact sqs_len m wd (s + 1) (by omega) (by omega) i j
    refine ⟨g, b, L2, keyS (ahead ++ [l]) cs, Bs.val R (ahead ++ [l]) cs, rfl, rfl, rfl, hg, f5.ex e6b, ik, keyS_depth _ _, holds_out (x := (ahead ++ [l], cs)) f6 nw, by omega, ?_⟩
    refine ⟨_, _, L2 ++ [(keyS (ahead ++ [l]) cs, b, Bs.val R (ahead ++ [l]) cs)], rfl, ⟨Ex.mut (f1.trans e6b) ng0, ?_, upd_same, fun e he => ⟨is_put hg ((f4.ex e6b) e he).1, (f4 e he).2⟩, fun e he => ?_, ?_, ?_, ?_⟩, ?_⟩
    · rw [upd_ne gd.symm]
      exact e6b _ _ f2
    · rcases List.mem_append.mp he with h | h
      · exact ⟨is_put hg ((f5.ex e6b) e h).1, (f5 e h).2⟩
      · rw [List.mem_singleton.mp h]
        exact ⟨is_put hg ik, keyS_depth _ _⟩
    · rw [Bs.upto_succ hrs hcs]
      exact paired_snoc f6 ⟨rfl, rfl⟩
    · intro x hx
      rw [Bs.upto_succ hrs hcs] at hx
      rcases List.mem_append.mp hx with h | h
      · exact f7 x h
      · rw [List.mem_singleton.mp h]
        exact z
    · intro x hx
      rw [Bs.upto_succ hrs hcs] at hx
      rcases List.mem_append.mp hx with h | h
      · exact f8 x h
      · rw [List.mem_singleton.mp h]
        have e9 : cs.length = s + 1 := hc1
        rw [e9] at hbv
        exact hbv
    · rw [upd_ne (fun z => by rw [z, f3] at hr6; cases hr6)]
      exact e6b _ _ hr6
-- DEF replaced

def repl (S : List (List Int)) (k : Nat) (t : List Int) : List (List Int) := List.zipWith (fun r x => r.take k ++ [x] ++ r.drop (k + 1)) S t
theorem repl_len {S : List (List Int)} {n k : Nat} {t : List Int} (hS : S.length = n) (ht : t.length = n) : (repl S k t).length = n := by
  unfold repl
  rw [List.length_zipWith, hS, ht, Nat.min_self]
theorem repl_mem {S : List (List Int)} {k : Nat} {t : List Int} {r : List Int} (h : r ∈ repl S k t) : ∃ r0 x, r0 ∈ S ∧ x ∈ t ∧ r = r0.take k ++ [x] ++ r0.drop (k + 1) := by
  unfold repl at h
  obtain ⟨i, hi, rfl⟩ := List.mem_iff_getElem.mp h
  rw [List.length_zipWith] at hi
  rw [List.getElem_zipWith]
  exact ⟨_, _, List.getElem_mem _, List.getElem_mem _, rfl⟩
theorem repl_wid {S : List (List Int)} {n k : Nat} {t : List Int} (hw : ∀ r ∈ S, r.length = n) (hk : k < n) : ∀ r ∈ repl S k t, r.length = n := fun r h => by
  obtain ⟨r0, x, h1, _, rfl⟩ := repl_mem h
  have := hw r0 h1
  simp only [List.length_append, List.length_take, List.length_drop, List.length_cons, List.length_nil]
  omega
theorem repl_bd {S : List (List Int)} {k B : Nat} {t : List Int} (hb : ∀ r ∈ S, ∀ y ∈ r, Bd B y) (ht : ∀ y ∈ t, Bd B y) : ∀ r ∈ repl S k t, ∀ y ∈ r, Bd B y := fun r h y hy => by
  obtain ⟨r0, x, h1, h2, rfl⟩ := repl_mem h
  rcases List.mem_append.mp hy with h | h
  · rcases List.mem_append.mp h with h | h
    · exact hb r0 h1 y (List.mem_of_mem_take h)
    · rw [List.mem_singleton.mp h]
      exact ht x h2
  · exact hb r0 h1 y (List.mem_of_mem_drop h)
theorem repl_row {r : List Int} {n k j : Nat} {x : Int} (hl : r.length = n) (hk : k < n) : (r.take k ++ [x] ++ r.drop (k + 1))[j]?.getD 0 = if j = k then x else r[j]?.getD 0 := by
  have l1 : (r.take k).length = k := by rw [List.length_take]; omega
  by_cases c : j = k
  · subst c
    rw [if_pos rfl, List.append_assoc, List.getElem?_append_right (by omega), l1, Nat.sub_self]
    rfl
  · rw [if_neg c, List.append_assoc]
    by_cases d : j < k
    · rw [List.getElem?_append_left (by omega), List.getElem?_take_of_lt d]
    · rw [List.getElem?_append_right (by omega), l1, List.getElem?_append_right (by show 1 ≤ j - k; omega)]
      show (r.drop (k + 1))[j - k - 1]?.getD 0 = _
      rw [List.getElem?_drop, show k + 1 + (j - k - 1) = j by omega]
theorem repl_at {S : List (List Int)} {n k i j : Nat} {t : List Int} (hS : S.length = n) (hw : ∀ r ∈ S, r.length = n) (ht : t.length = n) (hk : k < n) (hi : i < n) : Dt.at_ (repl S k t) i j = if j = k then t[i]?.getD 0 else Dt.at_ S i j := by
  unfold Dt.at_ repl
  have h1 : i < S.length := by omega
  have h2 : i < t.length := by omega
  rw [List.getElem?_zipWith, List.getElem?_eq_getElem h1, List.getElem?_eq_getElem h2]
  exact repl_row (hw _ (List.getElem_mem h1)) hk
/-- the list that a square leads to these numbers -/
def solQ (S : List (List Int)) (n : Nat) (t : List Int) : List Rat := (List.range n).map fun k => Dt.det n (Dt.mx (repl S k t)) / Dt.det n (Dt.mx S)
def unitL (n a : Nat) : List Int := (List.range n).map fun i => if i = a then 1 else 0
theorem unitL_len (n a : Nat) : (unitL n a).length = n := by unfold unitL; rw [List.length_map, List.length_range]
def broke (qs : List Rat) : Bool := qs.any fun q => decide (q.den ≠ 1)
def restQ (q : Rat) : Rat := q - ((q.num / (q.den : Int) : Int) : Rat)
def restsQ (S : List (List Int)) (n : Nat) : List Rat := ((((List.range n).map fun a => solQ S n (unitL n a)).filter broke)[0]?.getD []).map restQ
theorem repl_unit {S : List (List Int)} {n a k : Nat} (hS : S.length = n) (hw : ∀ r ∈ S, r.length = n) (hk : k < n) : Dt.det n (Dt.mx (repl S k (unitL n a))) = Dt.det n (Dt.colTo (Dt.mx S) k (Dt.un a)) := by
  refine Dt.det_congr fun i j hi hj => ?_
  unfold Dt.mx Dt.colTo Dt.un
  rw [repl_at hS hw (unitL_len n a) hk hi]
  by_cases c : j = k
  · rw [if_pos c, if_pos c]
    unfold unitL
    rw [List.getElem?_map, List.getElem?_range hi]
    by_cases d : i = a
    · rw [if_pos d]
      show (((if i = a then (1 : Int) else 0) : Int) : Rat) = 1
      rw [if_pos d]
      rfl
    · rw [if_neg d]
      show (((if i = a then (1 : Int) else 0) : Int) : Rat) = 0
      rw [if_neg d]
      rfl
  · rw [if_neg c, if_neg c]
/-- a bad square has a broken list -/
theorem some_broke {S : List (List Int)} {n : Nat} {D : Int} (hS : S.length = n) (hw : ∀ r ∈ S, r.length = n) (hD : ((D : Int) : Rat) = Dt.det n (Dt.mx S)) (hb : Bs.isBad D = true) : ∃ a, a < n ∧ broke (solQ S n (unitL n a)) = true := by
  refine Classical.byContradiction fun z => ?_
  have all : ∀ a k, a < n → k < n → Dt.Wh (Dt.det n (Dt.colTo (Dt.mx S) k (Dt.un a)) / Dt.det n (Dt.mx S)) := fun a k ha hk => by
    have h : broke (solQ S n (unitL n a)) = false := by
      cases e : broke (solQ S n (unitL n a)) with
      | false => rfl
      | true => exact absurd ⟨a, ha, e⟩ z
    unfold broke solQ at h
    rw [List.any_eq_false] at h
    have h := h (Dt.det n (Dt.mx (repl S k (unitL n a))) / Dt.det n (Dt.mx S)) (List.mem_map.mpr ⟨k, List.mem_range.mpr hk, rfl⟩)
    rw [repl_unit hS hw hk] at h
    have d1 : (Dt.det n (Dt.colTo (Dt.mx S) k (Dt.un a)) / Dt.det n (Dt.mx S)).den = 1 := by
      refine Classical.byContradiction fun y => h (decide_eq_true y)
    exact ⟨_, Rat.ext (show _ = ((Rat.num _ : Int) : Rat).num from rfl) (by rw [d1]; rfl)⟩
  have h0 : D ≠ 0 := fun y => by rw [y] at hb; cases hb
  rcases Dt.whole_inv hD h0 all with y | y <;> rw [y] at hb <;> cases hb
/-- tops and bottoms of any sign -/
theorem fr_any {t b : Int} (h : b ≠ 0) : [V.int (t.fdiv (comI t b)), V.int (b.fdiv (comI t b))] = frV ((t : Rat) / (b : Rat)) := by
  have pos : ∀ {t b : Int}, 0 < b → [V.int (t.fdiv (comI t b)), V.int (b.fdiv (comI t b))] = frV ((t : Rat) / (b : Rat)) := fun {t b} hb => by
    rw [fr_com hb, Rat.mkRat_eq_div]
    have : ((b.toNat : Nat) : Int) = b := by omega
    rw [show ((b.toNat : Nat) : Rat) = ((b : Int) : Rat) by rw [← Rat.intCast_natCast, this]]
  by_cases hb : 0 < b
  · exact pos hb
  · have hn : b < 0 := by omega
    have h1 := pos (t := -t) (b := -b) (by omega)
    have e : comI (-t) (-b) = -(comI t b) := by
      unfold comI
      rw [if_pos hn, if_neg (by omega), gcdI_neg_neg, Int.neg_neg]
    rw [e, Int.neg_fdiv_neg, Int.neg_fdiv_neg] at h1
    rw [h1]
    congr 1
    have hb0 : ((b : Int) : Rat) ≠ 0 := fun z => h (Rat.intCast_inj.mp (show ((b : Int) : Rat) = ((0 : Int) : Rat) from z))
    rw [Rat.intCast_neg, Rat.intCast_neg]
    grind
theorem lc_rowsZ2 {K : PySem.W.Frag} {ta : TA} {te : TE} {vs : List Nat} {j1 j2 : Nat} {σ : L2.St} {H : Hp} {Q : VK} {a b : Addr} {xs : List Int} {as : List Addr} {rows : List (List Int)} (F : List Int → Int → List Int) (h : EvA ta σ H [.ref b, .ref a]) (hx : H a = some (.lst (xs.map V.int))) (ht : Tab H b as rows) (hl : xs.length = rows.length) (hz : xs.length ≤ 1000)
    (hw : ∀ u v, wipe (((wipe σ vs).set j1 (some u)).set j2 (some v)) vs = wipe σ vs)
    (he : ∀ x c r H1, x ∈ xs → r ∈ rows → H c = some (.lst (r.map V.int)) → Ex H H1 → EvL te (((wipe σ vs).set j1 (some (.ref c))).set j2 (some (.int x))) H1 ((F r x).map V.int))
    (k : ∀ p bs H2, H p = none → (∀ a ∈ bs, H a = none) → bs.Nodup → p ∉ bs → Ex H H2 → Tab H2 p bs (List.zipWith F rows xs) → Q (.ref p) H2) : tLc (iZip K ta) (g2 K j1 j2) tYes te vs σ H Q := by
  refine h H (Ex.refl H) _ fun H1 e1 => ⟨b, a, _, _, rfl, SqL.of (e1 _ _ ht.1), SqL.of (e1 _ _ hx), fun D hD => ?_⟩
  have hDH : H D = none := fresh_back e1 hD
  have el0 : as.length = rows.length := Paired.length ht.2
  refine lc_zip (xs := as.map V.ref) (ys := xs.map V.int) (by rw [List.length_map, List.length_map, el0]; exact hl.symm) (fun i H' => ∃ bs, Ex H1 H' ∧ H' D = some (.lst (bs.map V.ref)) ∧ RowsAt H' bs ((List.zipWith F rows xs).take i) ∧ (∀ a ∈ bs, H a = none) ∧ bs.Nodup ∧ D ∉ bs) ⟨[], Ex.new hD, upd_same, .nil, fun a ha => by simp at ha, List.nodup_nil, by simp⟩ (fun i H' ⟨_, p1, _⟩ => ⟨SqL.of ((e1.trans p1) _ _ ht.1), SqL.of ((e1.trans p1) _ _ hx)⟩) (fun i x y T H' gx gy p nT => ?_) (fun H' p => ?_)
  · obtain ⟨bs, p1, p2, p3, p4, p5, p6⟩ := p
    rw [List.getElem?_map] at gx gy
    obtain ⟨x', hx', rfl⟩ := Option.map_eq_some_iff.mp gy
    obtain ⟨c, hc, rfl⟩ := Option.map_eq_some_iff.mp gx
    obtain ⟨r, hr, hh⟩ := paired_get ht.2 hc
    have hi := (List.getElem?_eq_some_iff.mp hx').1
    have el : bs.length = i := by rw [Paired.length p3, List.length_take, List.length_zipWith]; omega
    have xT : Ex H' (upd H' T (.tup [.ref c, .int x'])) := Ex.new nT
    refine ⟨T, _, rfl, SqT.of upd_same, rfl, _, _, rfl, _, _, rfl, rfl, hw _ _, ?_⟩
    show te _ _ _
    refine he x' c r H (List.mem_of_getElem? hx') (List.mem_of_getElem? hr) hh (Ex.refl H) _ ((e1.trans p1).trans xT) _ fun q H4 nq e4 hq => ?_
    have nqD : q ≠ D := fun z => by
      rw [z, xT _ _ p2] at nq
      cases nq
    have nqH' : H' q = none := fresh_back xT nq
    refine ⟨_, e4 _ _ (xT _ _ p2), ?_, bs ++ [q], Ex.mut ((p1.trans xT).trans e4) hD, ?_, ?_, ?_, ?_, ?_⟩
    · rw [List.length_map, el]
      exact small1000 (by omega)
    · rw [upd_same, List.map_append]
      rfl
    · have hzz : (List.zipWith F rows xs)[i]? = some (F r x') := by rw [List.getElem?_zipWith, hr, hx']
      rw [take_snoc hzz]
      refine paired_snoc (rows_but p3 fun b hb o g => ?_) ?_
      · rw [upd_ne (fun z => p6 (by rw [← z]; exact hb))]
        exact e4 _ _ (xT _ _ g)
      · rw [upd_ne nqD]
        exact hq
    · intro b hb
      rcases List.mem_append.mp hb with h | h
      · exact p4 b h
      · rw [show b = q by simpa using h]
        exact fresh_back (e1.trans p1) nqH'
    · refine List.nodup_append.mpr ⟨p5, by simp, fun b hb c' hc' z => ?_⟩
      have : c' = q := by simpa using hc'
      have hb' : q ∈ bs := by rw [← this, ← z]; exact hb
      obtain ⟨y, _, hy⟩ := paired_mem p3 hb'
      rw [nqH'] at hy
      cases hy
    · intro hb
      rcases List.mem_append.mp hb with h | h
      · exact p6 h
      · exact nqD (by simpa using h : D = q).symm
  · obtain ⟨bs, p1, p2, p3, p4, p5, p6⟩ := p
    rw [List.take_of_length_le (by rw [List.length_zipWith, List.length_map]; omega)] at p3
    exact k D bs H' hDH p4 p5 p6 (e1.trans p1) ⟨p2, p3⟩
theorem lc_frsN {ta : TA} {te : TE} {vs : List Nat} {j : Nat} {σ : L2.St} {H : Hp} {Q : VK} {m : Nat} (F : Nat → Rat) (h : EvA ta σ H [.int (m : Int)]) (hm : m ≤ 1000) (hw : ∀ u, wipe ((wipe σ vs).set j (some u)) vs = wipe σ vs)
    (he : ∀ i H1, Ex H H1 → i < m → EvU te ((wipe σ vs).set j (some (.int (i : Int)))) H1 (frV (F i)))
    (k : ∀ p as H2, H p = none → (∀ a ∈ as, H a = none) → as.Nodup → p ∉ as → Ex H H2 → FrL H2 p as ((List.range m).map F) → Q (.ref p) H2) : tLc (iRng1 ta) (gName j) tYes te vs σ H Q := by
  refine h H (Ex.refl H) _ fun H1 e1 => ⟨(m : Int), rfl, by omega, by omega, fun D hD => ?_⟩
  have hDH : H D = none := fresh_back e1 hD
  refine lc_range (lo := 0) (n := (m : Int).toNat) (fun i H' => ∃ as, Ex H1 H' ∧ H' D = some (.lst (as.map V.ref)) ∧ FrsAt H' as ((List.range i).map F) ∧ (∀ a ∈ as, H a = none) ∧ as.Nodup ∧ D ∉ as) ⟨[], Ex.new hD, upd_same, .nil, fun a ha => by simp at ha, List.nodup_nil, by simp⟩ (fun i H' hi p => ?_) (fun H' p => ?_)
  · obtain ⟨as, p1, p2, p3, p4, p5, p6⟩ := p
    have el : as.length = i := by rw [Paired.length p3, List.length_map, List.length_range]
    have e0 : (0 : Int) + (i : Int) = (i : Int) := Int.zero_add _
    refine ⟨hw _, ?_⟩
    show te ((wipe σ vs).set j (some (.int ((0 : Int) + (i : Int))))) H' _
    rw [e0]
    refine he i H' (e1.trans p1) (by omega) H' (Ex.refl _) _ fun r H4 nr e4 hr => ?_
    have nrD : r ≠ D := fun z => by
      rw [z, p2] at nr
      cases nr
    refine ⟨_, e4 _ _ p2, ?_, as ++ [r], Ex.mut (p1.trans e4) hD, ?_, ?_, ?_, ?_, ?_⟩
    · rw [List.length_map, el]
      exact small1000 (by omega)
    · rw [upd_same, List.map_append]
      rfl
    · rw [List.range_succ, List.map_append]
      have st : ∀ a (l : Rat), a ≠ D → H4 a = some (.tup (frV l)) → upd H4 D (.lst (as.map V.ref ++ [.ref r])) a = some (.tup (frV l)) := fun a l n g => by
        rw [upd_ne n]
        exact g
      refine paired_snoc ?_ (st r _ nrD hr)
      have aux : ∀ {as' : List Addr} {rs : List Rat}, D ∉ as' → FrsAt H' as' rs → FrsAt (upd H4 D (.lst (as.map V.ref ++ [.ref r]))) as' rs := by
        intro as' rs hn hp
        induction hp with
        | nil => exact .nil
        | cons g t ih => exact .cons (st _ _ (fun z => hn (by rw [z]; exact List.mem_cons_self ..)) (e4 _ _ g)) (ih fun z => hn (List.mem_cons_of_mem _ z))
      exact aux p6 p3
    · intro a ha
      rcases List.mem_append.mp ha with h | h
      · exact p4 a h
      · have : a = r := by simpa using h
        rw [this]
        exact fresh_back (e1.trans p1) nr
    · refine List.nodup_append.mpr ⟨p5, by simp, fun a ha b hb => ?_⟩
      have : b = r := by simpa using hb
      rw [this]
      intro z
      rw [z] at ha
      obtain ⟨x, _, hx⟩ := paired_mem p3 ha
      rw [nr] at hx
      cases hx
    · intro ha
      rcases List.mem_append.mp ha with h | h
      · exact p6 h
      · exact nrD (by simpa using h : D = r).symm
  · obtain ⟨as, p1, p2, p3, p4, p5, p6⟩ := p
    have em : (m : Int).toNat = m := by omega
    rw [em] at p3
    exact k D as H' hDH p4 p5 p6 (e1.trans p1) ⟨p2, p3⟩
/-! ### a dict of rows by places -/
theorem q_forZ {K : PySem.W.Frag} {ta : TA} {a b : Addr} {xs ys : List V} {g : TG} {tb tz : TS} {D : Ends} {σ : L2.St} {H : Hp} (h : EvA ta σ H [.ref a, .ref b]) (hx : SqL K H a xs) (hy : SqL K H b ys) (hl : xs.length = ys.length) (Pv : Nat → L2.St → Hp → Prop) (h0 : ∀ H1, Ex H H1 → Pv 0 σ H1) (hq : ∀ i σ' H', Pv i σ' H' → SqL K H' a xs ∧ SqL K H' b ys)
    (hs : ∀ (i : Nat) (x y : V) (T : Addr) (σ' : L2.St) (H' : Hp), xs[i]? = some x → ys[i]? = some y → Pv i σ' H' → H' T = none → g (.ref T) σ' (upd H' T (.tup [x, y])) fun σ2 H2 => tb { D with nx := Pv (i + 1), ct := Pv (i + 1), bk := tz D } σ2 H2) (hd : ∀ σ' H', Pv xs.length σ' H' → tz D σ' H') : tSeq (tFor (iZip K ta) g tb) tz D σ H :=
  h H (Ex.refl H) _ fun H1 e1 => ⟨a, b, xs, ys, rfl, ex_l e1 hx, ex_l e1 hy, RZ.for_zipL (D := { D with nx := tz D }) hl Pv (h0 H1 e1) hq hs hd⟩

theorem cut_to35 {xs : List V} {n : Nat} (h : n ≤ xs.length) : cutV xs none (some (n : Int)) = xs.take n := by
  unfold cutV
  have e1 : HT.sIx xs.length 0 none = 0 := rfl
  have e2 : HT.sIx xs.length xs.length (some (n : Int)) = min n xs.length := HT.sIx_nat _ _ n
  rw [e1, e2, List.drop_zero, show min n xs.length - 0 = n by omega]
theorem cut_fr35 {xs : List V} {n : Nat} (h : n ≤ xs.length) : cutV xs (some (n : Int)) none = xs.drop n := by
  unfold cutV
  have e1 : HT.sIx xs.length xs.length none = xs.length := rfl
  have e2 : HT.sIx xs.length 0 (some (n : Int)) = min n xs.length := HT.sIx_nat _ _ n
  rw [e1, e2, show min n xs.length = n by omega]
  exact List.take_of_length_le (by rw [List.length_drop]; exact Nat.le_refl _)
theorem el_sl35 {K : PySem.W.Frag} {te : TE} {tl th : TO} {σ : L2.St} {H : Hp} {a : Addr} {xs : List V} {lo hi : Option Int} (h : Ev te σ H (.ref a)) (h1 : EvO tl σ H lo) (h2 : EvO th σ H hi) (hs : H a = some (.lst xs)) : EvL (tSl (rSlL K) te tl th) σ H (cutV xs lo hi) := fun H1 e Q q =>
  h H1 e _ fun H2 e2 => h1 H2 (e.trans e2) _ fun H3 e3 => h2 H3 ((e.trans e2).trans e3) _ fun H4 e4 => by
    have e14 := (e2.trans e3).trans e4
    have ha := (e.trans e14) _ _ hs
    exact ⟨a, xs, rfl, SqL.of ha, fun p np => q p _ (fresh_back e14 np) (e14.trans (Ex.new np)) upd_same⟩
def sp_replaced (K : PySem.W.Frag) : Sp := fun vs H Q _ => ∃ (p b : Addr) (as : List Addr) (S : List (List Int)) (t : List Int) (n k : Nat), vs = [.ref p, .int k, .ref b] ∧ Tab H p as S ∧ S.length = n ∧ (∀ r ∈ S, r.length = n) ∧ n ≤ 8 ∧ k < n ∧ H b = some (.lst (t.map V.int)) ∧ t.length = n ∧
  ∀ q qs H', H q = none → (∀ a ∈ qs, H a = none) → Ex H H' → Tab H' q qs (repl S k t) → Q (.ref q) H'

theorem ok_replaced (T : Txt K mg) : FnOk P w K mg base CX0 1 T.f_replaced T.fd_replaced ["square", "column", "totals"] (sp_replaced K) := by
  refine Fun.ok T.F_replaced sc_replaced (fun vs H Q E h => ?_) (fun cdv A outer s H vs Q E hr h => ?_)
  · obtain ⟨_, _, _, _, _, _, _, rfl, _⟩ := h; rfl
  · refine ⟨_, (pss_one (ps_ret (pe_lc (own := [("row", 3), ("total", 4)]) (wi := iZip K _) (g := gTup K 2 (gCons (gName 3) (gCons (gName 4) gNil))) (tt := tYes) rfl sc_replaced.nd (pi_zip (by rfl) T.n_zip (pa_cons (pv 0) (pa_cons (pv 2) pa_nil))) (blkOk_by (N := ["square", "column", "totals", "row", "total"]) (sc := (defScope s_replaced)) (by decide +kernel)) (fun _ _ _ _ _ => (pg_tup rfl (pgs_cons (pg_name (i := 3) sc_replaced.nd rfl (Or.inl rfl)) (pgs_cons (pg_name (i := 4) sc_replaced.nd rfl (Or.inl rfl)) pgs_nil)))) (fun _ _ _ _ _ => pts_nil) (fun _ _ _ _ _ => (pe_op op_cat (pe_op op_cat (pe_slice (r := rSlL K) sl_list (pv 3) po_none (po_some (pv 1))) (pe_lst (pa_cons (pv 4) pa_nil))) (pe_slice (r := rSlL K) sl_list (pv 3) (po_some (pe_op op_add (pv 1) pe_int)) po_none)))))), ?_⟩
    obtain ⟨p, b, as, S, t, n, k, rfl, hT, hS, hw, n8, hk, hb, ht, q⟩ := h
    refine lc_rowsZ2 (K := K) (xs := t) (rows := S) (fun r x => r.take k ++ [x] ++ r.drop (k + 1)) (ea_cons (ev_var (i := 0) rfl) (ea_cons (ev_var (i := 2) rfl) ea_nil)) hb hT (by omega) (by omega) (fun u v => rfl) (fun x c r H1 hx hr hc e1 => ?_) fun D bs H1 nD nbs ndb nDb e1 hT1 => q D bs H1 nD nbs e1 hT1
    have rl := hw r hr
    have c1 := cut_to35 (xs := r.map V.int) (n := k) (by rw [List.length_map]; omega)
    have c2 := cut_fr35 (xs := r.map V.int) (n := k + 1) (by rw [List.length_map]; omega)
    rw [List.map_append, List.map_append, List.map_take, List.map_drop, ← c1, ← c2]
    exact ec_cat (ec_cat (el_sl35 (K := K) (lo := none) (hi := some (k : Int)) (ev_var (i := 3) rfl) eo_none (eo_some (ev_var (i := 1) rfl)) (e1 _ _ hc)) (el_lst (ea_cons (ev_var (i := 4) rfl) ea_nil) (Nat.le_of_ble_eq_true rfl)) (by rw [c1, List.length_take, List.length_map]; show min k r.length + 1 ≤ 100000; omega)) (el_sl35 (K := K) (lo := some ((k + 1 : Nat) : Int)) (hi := none) (ev_var (i := 3) rfl) (eo_some (ev_is (ev_op (ev_var (i := 1) rfl) ev_c rv_I0) (by rw [Int.natCast_add]; rfl))) eo_none (e1 _ _ hc)) (by rw [List.length_append, c1, c2, List.length_take, List.length_drop, List.length_map]; show min k r.length + 1 + (r.length - (k + 1)) ≤ 100000; omega)
-- DEF _law_sized
theorem el_catVL {ta tb : TE} {σ : L2.St} {H : Hp} {a : Addr} {xs ys : List V} (ha : Ev ta σ H (.ref a)) (h : H a = some (.lst xs)) (hb : EvL tb σ H ys) (hz : xs.length + ys.length ≤ 100000) : EvL (tOp rCat ta tb) σ H (xs ++ ys) := fun H1 e Q q =>
  ha H1 e _ fun H2 e2 => hb H2 (e.trans e2) _ fun r H3 nr e3 hr => ⟨a, r, xs, ys, rfl, rfl, ((e.trans e2).trans e3) _ _ h, hr, sz_of hz, fun l nl => q l _ (fresh_back (e2.trans e3) nl) ((e2.trans e3).trans (Ex.new nl)) upd_same⟩
theorem lc_rowsRW {ta : TA} {te : TE} {vs : List Nat} {j : Nat} {σ : L2.St} {H : Hp} {Q : VK} {lo hi : Int} (F : Int → List Int) (h : EvA ta σ H [.int lo, .int hi]) (hn : (hi - lo).toNat ≤ 1000) (hw : ∀ u, wipe ((wipe σ vs).set j (some u)) vs = wipe σ vs)
    (he : ∀ z H1, z ∈ Ls.rg lo hi → Ex H H1 → EvL te ((wipe σ vs).set j (some (.int z))) H1 ((F z).map V.int))
    (k : ∀ p as H2, H p = none → (∀ a ∈ as, H a = none) → as.Nodup → p ∉ as → Ex H H2 → Tab H2 p as ((Ls.rg lo hi).map F) → Q (.ref p) H2) : tLc (RgW.iRngW ta) (gName j) tYes te vs σ H Q := by
  refine h H (Ex.refl H) _ fun H1 e1 => ⟨lo, hi, rfl, fun D hD => ?_⟩
  have hDH := fresh_back e1 hD
  have at_ : ∀ {i : Nat}, i < (hi - lo).toNat → (Ls.rg lo hi)[i]? = some (lo + (i : Int)) := fun h => by
    unfold Ls.rg
    rw [List.getElem?_map, List.getElem?_range h]
    rfl
  refine lc_range (lo := lo) (n := (hi - lo).toNat) (fun i H' => ∃ as, Ex H H' ∧ H' D = some (.lst (as.map V.ref)) ∧ RowsAt H' as (((Ls.rg lo hi).take i).map F) ∧ (∀ a ∈ as, H a = none) ∧ as.Nodup ∧ D ∉ as) ⟨[], e1.trans (Ex.new hD), upd_same, .nil, fun a ha => (nomatch ha), List.nodup_nil, fun z => nomatch z⟩ (fun i H' hi' p => ?_) (fun H' p => ?_)
  · obtain ⟨as, p1, p2, p3, p4, p5, p6⟩ := p
    have hy := at_ hi'
    have el : as.length = i := by rw [Paired.length p3, List.length_map, List.length_take, Ls.rg_len]; omega
    refine ⟨hw _, ?_⟩
    dsimp only [tYes]
    rw [if_pos rfl]
    refine he _ H' (List.mem_of_getElem? hy) p1 H' (Ex.refl _) _ fun r H4 nr e4 hr => ?_
    have nrD : r ≠ D := fun z => by
      rw [z, p2] at nr
      cases nr
    refine ⟨_, e4 _ _ p2, ?_, as ++ [r], Ex.mut (p1.trans e4) hDH, ?_, ?_, ?_, ?_, ?_⟩
    · rw [List.length_map, el]
      exact small1000 (by omega)
    · rw [upd_same, List.map_append]
      rfl
    · rw [take_snoc hy, List.map_append]
      refine paired_snoc (rows_but p3 fun b hb o g => ?_) ?_
      · rw [upd_ne (fun z => p6 (by rw [← z]; exact hb))]
        exact e4 _ _ g
      · rw [upd_ne nrD]
        exact hr
    · intro b hb
      rcases List.mem_append.mp hb with h | h
      · exact p4 b h
      · rw [List.mem_singleton.mp h]
        exact fresh_back p1 nr
    · refine List.nodup_append.mpr ⟨p5, by simp, fun b hb c hc z => ?_⟩
      have : c = r := by simpa using hc
      have hb' : r ∈ as := by rw [← this, ← z]; exact hb
      obtain ⟨x, _, hx'⟩ := paired_mem p3 hb'
      rw [nr] at hx'
      cases hx'
    · intro hb
      rcases List.mem_append.mp hb with h | h
      · exact p6 h
      · exact nrD (List.mem_singleton.mp h).symm
  · obtain ⟨as, p1, p2, p3, p4, p5, p6⟩ := p
    rw [List.take_of_length_le (by rw [Ls.rg_len]; omega)] at p3
    exact k D as H' hDH p4 p5 p6 p1 ⟨p2, p3⟩
/-- where what follows a rising list may begin -/
def nxLo (lo : Nat) (l : List Nat) : Nat := match l.getLast? with
  | none => lo
  | some x => x + 1
def growLo (n lo : Nat) (l : List Nat) : List (List Nat) := (List.range' (nxLo lo l) (n - nxLo lo l)).map fun x => l ++ [x]
theorem nxLo_cons (lo : Nat) (l : List Nat) : nxLo lo (lo :: l) = nxLo (lo + 1) l := by
  unfold nxLo
  cases l with
  | nil => rfl
  | cons a l => rw [List.getLast?_cons_cons]; rfl
theorem grow_cons (n lo : Nat) (l : List Nat) : growLo n lo (lo :: l) = (growLo n (lo + 1) l).map (lo :: ·) := by
  unfold growLo
  rw [nxLo_cons, List.map_map]
  rfl
theorem grow_any (n lo lo' : Nat) {l : List Nat} (h : l ≠ []) : growLo n lo l = growLo n lo' l := by
  unfold growLo nxLo
  cases e : l.getLast? with
  | none => exact absurd (List.getLast?_eq_none_iff.mp e) h
  | some x => rfl
theorem C_grow (n : Nat) : ∀ r d lo, lo + d = n → Cb.C n (r + 1) lo = (Cb.C n r lo).flatMap (growLo n lo)
  | 0, 0, lo, h => by
    rw [Cb.C_end n 0 lo (by omega)]
    have e : Cb.C n 0 lo = [[]] := rfl
    rw [e, List.flatMap_cons, List.flatMap_nil]
    unfold growLo nxLo
    show [] = (List.range' lo (n - lo)).map _ ++ []
    rw [show n - lo = 0 by omega]
    rfl
  | 0, d + 1, lo, h => by
    have e : ∀ x, Cb.C n 0 x = [[]] := fun _ => rfl
    rw [Cb.C_step n 0 lo (by omega), C_grow n 0 d (lo + 1) (by omega), e, e, List.flatMap_cons, List.flatMap_nil, List.flatMap_cons, List.flatMap_nil, List.append_nil, List.append_nil]
    unfold growLo nxLo
    show [lo] :: (List.range' (lo + 1) (n - (lo + 1))).map (fun x => [] ++ [x]) = (List.range' lo (n - lo)).map (fun x => [] ++ [x])
    obtain ⟨k, hk⟩ : ∃ k, n - lo = k + 1 := ⟨n - lo - 1, by omega⟩
    rw [hk, show n - (lo + 1) = k by omega, List.range'_succ, List.map_cons]
    rfl
  | r + 1, 0, lo, h => by
    rw [Cb.C_end n (r + 1) lo (by omega), Cb.C_end n r lo (by omega)]
    rfl
  | r + 1, d + 1, lo, h => by
    have i1 := C_grow n r d (lo + 1) (by omega)
    have i2 := C_grow n (r + 1) d (lo + 1) (by omega)
    rw [Cb.C_step n (r + 1) lo (by omega), i2]
    conv => rhs; rw [Cb.C_step n r lo (by omega), List.flatMap_append]
    congr 1
    · rw [i1, List.map_flatMap, List.flatMap_map]
      refine Sg.fm_congr fun l hl => ?_
      exact (grow_cons n lo l).symm
    · refine Sg.fm_congr fun l hl => grow_any n _ _ fun z => ?_
      have := (Cb.mem_C.mp hl).1
      rw [z] at this
      cases this
theorem all_grow (m t : Nat) : Cb.all m (t + 1) = (Cb.all m t).flatMap (growLo m 0) := C_grow m t m 0 (by omega)
theorem rg_nat {a m : Nat} : Ls.rg (a : Int) (m : Int) = (List.range' a (m - a)).map fun (x : Nat) => (x : Int) := by
  unfold Ls.rg
  refine List.ext_getElem (by rw [List.length_map, List.length_range, List.length_map, List.length_range']; omega) fun i h1 h2 => ?_
  rw [List.getElem_map, List.getElem_range, List.getElem_map, List.getElem_range']
  push_cast
  omega
theorem grow_zs (m : Nat) (l : List Nat) : (growLo m 0 l).map Sg.zs = (Ls.rg ((nxLo 0 l : Nat) : Int) (m : Int)).map fun z => Sg.zs l ++ [z] := by
  unfold growLo
  rw [rg_nat, List.map_map, List.map_map]
  refine List.map_congr_left fun x _ => ?_
  show Sg.zs (l ++ [x]) = Sg.zs l ++ [(x : Int)]
  unfold Sg.zs
  rw [List.map_append]
  rfl
theorem atI_end (x : V) : ∀ L : List V, L.length ≤ 7 → atI (L ++ [x]) (-1) = some x
  | [], _ => rfl
  | [_], _ => rfl
  | [_, _], _ => rfl
  | [_, _, _], _ => rfl
  | [_, _, _, _], _ => rfl
  | [_, _, _, _, _], _ => rfl
  | [_, _, _, _, _, _], _ => rfl
  | [_, _, _, _, _, _, _], _ => rfl
  | _ :: _ :: _ :: _ :: _ :: _ :: _ :: _ :: l, h => absurd h (by simp only [List.length_cons]; omega)
theorem last_zs {l : List Nat} (h : l ≠ []) (h8 : l.length ≤ 8) : atI ((Sg.zs l).map V.int) (-1) = some (.int ((nxLo 0 l : Nat) - 1 : Int)) := by
  obtain ⟨k, x, rfl⟩ : ∃ k x, l = k ++ [x] := ⟨l.dropLast, l.getLast h, (List.dropLast_concat_getLast h).symm⟩
  have e : nxLo 0 (k ++ [x]) = x + 1 := by
    unfold nxLo
    rw [List.getLast?_concat]
  rw [List.length_append] at h8
  have h8 : k.length + 1 ≤ 8 := h8
  unfold Sg.zs
  rw [List.map_append, List.map_append, e]
  refine (atI_end (.int (x : Int)) _ (by rw [List.length_map, List.length_map]; omega)).trans ?_
  congr 2
  push_cast
  omega
theorem C_lenS (n : Nat) : ∀ r d lo, lo + d = n → (Cb.C n r lo).length ≤ 2 ^ d
  | 0, d, _, _ => Nat.one_le_two_pow
  | r + 1, 0, lo, h => by rw [Cb.C_end n r lo (by omega)]; exact Nat.zero_le _
  | r + 1, d + 1, lo, h => by
    rw [Cb.C_step n r lo (by omega), List.length_append, List.length_map, Nat.pow_succ]
    have h1 := C_lenS n r d (lo + 1) (by omega)
    have h2 := C_lenS n (r + 1) d (lo + 1) (by omega)
    omega
theorem all_len8 {m t : Nat} (h : m ≤ 8) : (Cb.all m t).length ≤ 256 := Nat.le_trans (C_lenS m t m 0 (by omega)) (Nat.le_trans (Nat.pow_le_pow_right (by decide) h) (by decide))
theorem ev_neNilI {K : PySem.W.Frag} {ta : TE} {σ : L2.St} {H : Hp} {p : Addr} {ns : List Int} (ha : Ev ta σ H (.ref p)) (hT : H p = some (.lst (ns.map V.int))) : Ev (tOp (rNeD K) ta (tLst tNil)) σ H (.bl (!ns.isEmpty)) := fun H1 e Q k =>
  ha H1 e _ fun H2 e2 => (el_lst (σ := σ) ea_nil (Nat.zero_le _)) H2 (Ex.refl _) _ fun p' H3 np e3 hp => by
    have eA := (e.trans e2).trans e3
    refine ⟨.list (ns.map .int), _, .lst (SqL.of (eA _ _ hT)) (dpAll_ints _), .lst (SqL.of hp) .nil, shaped_list (canLay_ints ns) (Nat.le_trans (Nat.le_of_eq (depth_ints ns)) (by decide)), rfl, ?_⟩
    rw [eqv_nil]
    have : (ns.map PyData.int).isEmpty = ns.isEmpty := by cases ns <;> rfl
    rw [this]
    exact k H3 (e2.trans e3)

def sp__law_sized (K : PySem.W.Frag) : Sp := fun vs H Q _ => ∃ (m n : Nat), vs = [.int m, .int n] ∧ m ≤ 8 ∧ n ≤ 8 ∧ ∀ d bs H', H d = none → Ex H H' → Tab H' d bs ((Cb.all m n).map Sg.zs) → Q (.ref d) H'

theorem ok__law_sized (T : Txt K mg) : FnOk P w K mg base CX0 1 T.f__law_sized T.fd__law_sized ["_law_many", "_law_size"] (sp__law_sized K) := by
  refine Fun.ok T.F__law_sized sc__law_sized (fun vs H Q E h => ?_) (fun cdv A outer s H vs Q E hr h => ?_)
  · obtain ⟨_, _, rfl, _⟩ := h; rfl
  · refine ⟨_, (pss_cut (ps_set (i := 2) sc__law_sized.nd rfl (by first | exact Or.inl rfl | exact Or.inr rfl) (pe_lst (pa_cons (pe_lst pa_nil) pa_nil)))
      (pss_cons (ps_for PassesOwn.never rfl (pi_range1 (by rfl) T.n_range (pa_cons (pv 1) pa_nil)) (pg_name (i := 3) sc__law_sized.nd rfl (by first | exact Or.inl rfl | exact Or.inr rfl))
        (pss_cut (ps_set (i := 4) sc__law_sized.nd rfl (by first | exact Or.inl rfl | exact Or.inr rfl) (pe_lst pa_nil))
          (pss_cons (ps_for PassesOwn.never rfl (pi_list (pv 2)) (pg_name (i := 5) sc__law_sized.nd rfl (by first | exact Or.inl rfl | exact Or.inr rfl))
            (pss_cut (ps_set (i := 6) sc__law_sized.nd rfl (by first | exact Or.inl rfl | exact Or.inr rfl) (pe_ifExp (pt_cmpR (r := rNeD K) (op_neD hr.units) (pv 5) (pe_lst pa_nil) (nomark _)) (pe_op op_add (pe_ix (r := rIxL K) ix_list (pv 5) (pe_un un_neg pe_int) (fun _ _ => rfl)) pe_int) pe_int))
              (pss_one (ps_set (i := 4) sc__law_sized.nd rfl (by first | exact Or.inl rfl | exact Or.inr rfl) (pe_op op_cat (pv 4) (pe_lc (own := [("_law_k", 7)]) (g := gName 7) (tt := tYes) rfl sc__law_sized.nd (RgW.pi_rangeW (by rfl) T.n_range (pa_cons (pv 6) (pa_cons (pv 0) pa_nil))) (blkOk_by (N := ["_law_many", "_law_size", "_law_found", "_law_turn", "_law_longer", "_law_places", "_law_begin", "_law_k"]) (sc := (defScope s__law_sized)) (by decide +kernel)) (fun _ _ _ _ _ => pg_name (i := 7) sc__law_sized.nd rfl (Or.inl rfl)) (fun _ _ _ _ _ => pts_nil) (fun _ _ _ _ _ => (pe_op op_cat (pv 5) (pe_lst (pa_cons (pv 7) pa_nil))))))))))
          (pss_one (ps_set (i := 2) sc__law_sized.nd rfl (by first | exact Or.inl rfl | exact Or.inr rfl) (pv 4))))))
      (pss_one (ps_ret (pv 2))))), ?_⟩
    obtain ⟨m, n, rfl, m8, n8, k⟩ := h
    refine ⟨fun σ' H' => ∃ (pf : Addr) (bs : List Addr), σ' = [some (.int (m : Int)), some (.int (n : Int)), some (.ref pf), none, none, none, none, none] ∧ Ex H H' ∧ H pf = none ∧ Tab H' pf bs ((Cb.all m 0).map Sg.zs), ?_, ?_⟩
    · exact ⟨Nat.zero_le _, fun l nl => ⟨(by show 1 ≤ sizeLine; decide), fun t nt => ⟨t, [l], rfl, (Ex.new nl).trans (Ex.new nt), fresh_back (Ex.new nl) nt, upd_same, .cons (Ex.new nt _ _ upd_same) .nil⟩⟩⟩
    rintro _ H1 ⟨pf, bs, rfl, e1, nf, hf⟩
    refine ⟨_, rfl, _, rfl, by omega, by omega, for_range (lo := 0) (n := (n : Int).toNat) (fun i σ' H' => ∃ (pf : Addr) (bs : List Addr) (y3 y4 y5 y6 : Option V), σ' = [some (.int (m : Int)), some (.int (n : Int)), some (.ref pf), y3, y4, y5, y6, none] ∧ Ex H H' ∧ H pf = none ∧ Tab H' pf bs ((Cb.all m i).map Sg.zs)) ⟨pf, bs, _, _, _, _, rfl, e1, nf, hf⟩ ?_ ?_⟩
    rotate_left
    · rintro σ' H2 ⟨pf, bs, y3, y4, y5, y6, rfl, e2, nf, hf⟩
      rw [Int.toNat_natCast] at hf
      exact ⟨_, rfl, k pf bs H2 nf e2 hf⟩
    rintro i σ' H2 hi ⟨pf, bs, y3, y4, y5, y6, rfl, e2, nf, hf⟩
    have l1 := all_len8 (m := m) (t := i) m8
    refine ⟨fun σ' H' => ∃ pl, σ' = [some (.int (m : Int)), some (.int (n : Int)), some (.ref pf), some (.int (0 + (i : Int))), some (.ref pl), y5, y6, none] ∧ Ex H2 H' ∧ H pl = none ∧ H' pl = some (.lst []), ?_, ?_⟩
    · exact s_asgL (el_lst (vs := []) ea_nil (Nat.le_of_ble_eq_true rfl)) fun pl H3 nl e3 h3 => ⟨pl, rfl, e3, fresh_back e2 nl, h3⟩
    rintro σ' H3 ⟨pl, rfl, e3, nl, hpl⟩
    have e23 := e2.trans e3
    replace hf := hf.ex e3
    have bl : bs.length = (Cb.all m i).length := by rw [Paired.length hf.2, List.length_map]
    refine q_forL (xs := bs.map V.ref) (ev_var (i := 2) rfl) (SqL.of hf.1) (fun a σ' H' => ∃ (pl : Addr) (cs : List Addr) (y5 y6 : Option V), σ' = [some (.int (m : Int)), some (.int (n : Int)), some (.ref pf), some (.int (0 + (i : Int))), some (.ref pl), y5, y6, none] ∧ Ex H H' ∧ Ex H3 H' ∧ H pl = none ∧ Tab H' pl cs ((((Cb.all m i).take a).flatMap (growLo m 0)).map Sg.zs)) (fun H4 e4 => ⟨pl, [], _, _, rfl, e23.trans e4, e4, nl, e4 _ _ hpl, .nil⟩) (fun a σ' H' _ ⟨_, _, _, _, _, _, h, _⟩ => SqL.of (h _ _ hf.1)) (fun a x σ' H4 hx hP => ?_) (fun σ' H4 hP => ?_)
    rotate_left
    · obtain ⟨pl, cs, y5, y6, rfl, e4, e34, nl, hcs⟩ := hP
      rw [List.length_map, bl, List.take_length, ← all_grow] at hcs
      exact s_asg (ev_var (i := 4) rfl) fun H5 e5 => ⟨pl, cs, _, _, _, _, rfl, e4.trans e5, nl, hcs.ex e5⟩
    obtain ⟨pl, cs, y5, y6, rfl, e4, e34, nl, hcs⟩ := hP
    rw [List.getElem?_map] at hx
    obtain ⟨b, hb, rfl⟩ := Option.map_eq_some_iff.mp hx
    obtain ⟨zr, hzr, hh⟩ := paired_get hf.2 hb
    rw [List.getElem?_map] at hzr
    obtain ⟨l, hl, rfl⟩ := Option.map_eq_some_iff.mp hzr
    have la := (List.getElem?_eq_some_iff.mp hl).1
    obtain ⟨ll, _, lm⟩ := Cb.mem_all.mp (List.mem_of_getElem? hl)
    have hh4 := e34 _ _ hh
    have gl : ∀ L : List (List Nat), (L.flatMap (growLo m 0)).length ≤ L.length * 8 := fun L => by
      induction L with
      | nil => exact Nat.zero_le _
      | cons x L ih =>
        rw [List.flatMap_cons, List.length_append, List.length_cons]
        have : (growLo m 0 x).length ≤ 8 := by
          unfold growLo
          rw [List.length_map, List.length_range']
          omega
        omega
    have lcs : cs.length ≤ 2048 := by
      rw [Paired.length hcs.2, List.length_map]
      have h2 := gl ((Cb.all m i).take a)
      rw [List.length_take] at h2
      omega
    refine ⟨fun σ' H' => σ' = [some (.int (m : Int)), some (.int (n : Int)), some (.ref pf), some (.int (0 + (i : Int))), some (.ref pl), some (.ref b), some (.int ((nxLo 0 l : Nat) : Int)), none] ∧ Ex H4 H', ?_, ?_⟩
    · have key : Ev (tIf (tTest (tOp (rNeD K) (tVar 5) (tLst tNil))) (tOp (rI0 fun i j => .int (i + j)) (tOp (rIxL K) (tVar 5) (tUn (rU fun i => V.int (-i)) (tC (.int 1)))) (tC (.int 1))) (tC (.int 0))) [some (.int (m : Int)), some (.int (n : Int)), some (.ref pf), some (.int (0 + (i : Int))), some (.ref pl), some (.ref b), y6, none] H4 (.int ((nxLo 0 l : Nat) : Int)) := by
        refine ev_if (b := !(Sg.zs l).isEmpty) (et_test (ev_neNilI (ev_var (i := 5) rfl) hh4)) (fun z => ?_) (fun z => ?_)
        · have ne : l ≠ [] := fun y => by rw [y] at z; cases z
          exact ev_is (ev_op (ev_op (ev_var (i := 5) rfl) (ev_un (x := .int 1) ev_c ru_neg) (rv_ixL (SqL.of hh4) (last_zs ne (by omega)))) ev_c rv_I0) (congrArg V.int (by omega))
        · have e0 : l = [] := by
            cases l with
            | nil => rfl
            | cons x l => cases z
          rw [e0]
          exact ev_c
      exact key H4 (Ex.refl _) _ fun H5 e5 => ⟨rfl, e5⟩
    rintro _ H5 ⟨rfl, e5⟩
    refine ⟨_, rfl, ?_⟩
    refine lc_rowsRW (σ := [some (.int (m : Int)), some (.int (n : Int)), some (.ref pf), some (.int (0 + (i : Int))), some (.ref pl), some (.ref b), some (.int ((nxLo 0 l : Nat) : Int)), none]) (F := fun z => Sg.zs l ++ [z]) (ea_cons (ev_var (i := 6) rfl) (ea_cons (ev_var (i := 0) rfl) ea_nil)) (by omega) (fun u => rfl) (fun z H6 hz e6 => ?_) (fun d ds H6 nd nds _ _ e6 hd => ⟨pl, d, _, _, rfl, rfl, (e5.trans e6) _ _ hcs.1, hd.1, ?_, fun u nu => ?_⟩)
    · rw [List.map_append]
      exact el_catVL (ev_var rfl) ((e5.trans e6) _ _ hh4) (el_lst (vs := [.int z]) (ea_cons (ev_var rfl) ea_nil) (Nat.le_of_ble_eq_true rfl)) (by unfold Sg.zs; rw [List.length_map, List.length_map]; show _ + 1 ≤ 100000; omega)
    · have h1 := Paired.length hd.2
      rw [List.length_map, Ls.rg_len] at h1
      rw [List.length_map, List.length_map]
      exact sz_of (by omega)
    · have xu := Ex.new (o := .lst (cs.map V.ref ++ ds.map V.ref)) nu
      refine ⟨u, cs ++ ds, _, _, rfl, (e4.trans (e5.trans e6)).trans xu, (e34.trans (e5.trans e6)).trans xu, fresh_back (e4.trans (e5.trans e6)) nu, ?_, ?_⟩
      · rw [upd_same, List.map_append]
      · rw [take_snoc hl, List.flatMap_append, List.flatMap_cons, List.flatMap_nil, List.append_nil, List.map_append, grow_zs]
        exact paired_app (hcs.2.ex ((e5.trans e6).trans xu)) (hd.2.ex xu)
-- DEF _law_spent

def sp__law_spent (K : PySem.W.Frag) : Sp := fun vs H Q _ => ∃ (t a b c : Addr), vs = [.ref t] ∧ H t = some (.tup [.ref a, .ref b, .ref c]) ∧ (∀ z, z = a ∨ z = b ∨ z = c → ∃ l, H z = some (.lst l) ∧ l.length ≤ 50) ∧ ∀ H', (∀ z o, z ≠ a → z ≠ b → z ≠ c → H z = some o → H' z = some o) → Q .non H'

theorem ok__law_spent (T : Txt K mg) : FnOk P w K mg base CX0 1 T.f__law_spent T.fd__law_spent ["_law_got"] (sp__law_spent K) := by
  refine Fun.ok T.F__law_spent sc__law_spent (fun vs H Q E h => ?_) (fun cdv A outer s H vs Q E hr h => ?_)
  · obtain ⟨_, _, _, _, rfl, _⟩ := h; rfl
  · refine ⟨_, (pss_one (ps_for PassesOwn.never rfl (pi_tup (pv 0)) (pg_name (i := 1) sc__law_spent.nd rfl (by first | exact Or.inl rfl | exact Or.inr rfl))
        (pss_one (ps_if (pt_val (pe_callB (id := "isinstance") (r := rIsi K) call_isi (by rfl) T.n_isinstance (by decide +kernel) (pa_cons (pv 1) (pa_cons (pe_bltn (v := .ty "list") (by rfl) T.n_list (by decide +kernel) rfl) pa_nil))))
            (pss_cons (ps_expr (pe_bm PySem.F.plainAttrs_list PySem.F.slot_list_append PySem.F.type_list_append mt_append (pv 1) (pa_cons pe_non pa_nil)))
              (pss_one (ps_expr (pe_bm0 PySem.F.plainAttrs_list PySem.F.slot_list_reverse PySem.F.type_list_reverse mt_reverse (pv 1)))))
            pss_nil)))), ?_⟩
    obtain ⟨t, a, b, c, rfl, ht, hl, k⟩ := h
    refine ⟨_, rfl, t, rfl, ⟨_, SqT.of ht⟩, for_tup (K := K) (a := t) (xs := [V.ref a, .ref b, .ref c]) (fun i σ' H' => ∃ y1 : Option V, σ' = [some (.ref t), y1] ∧ (∀ z, z = a ∨ z = b ∨ z = c → ∃ l, H' z = some (.lst l) ∧ l.length ≤ 50 + i) ∧ ∀ z o, z ≠ a → z ≠ b → z ≠ c → H z = some o → H' z = some o) ⟨_, rfl, hl, fun z o _ _ _ h => h⟩ (fun i σ' H' _ ⟨_, _, _, h⟩ => ?_) ?_ ?_⟩
    · have ne : ∀ z, z = a ∨ z = b ∨ z = c → t ≠ z := fun z hz e => by
        obtain ⟨l, h1, _⟩ := hl z hz
        rw [← e, ht] at h1
        cases h1
      exact SqT.of (h t _ (ne a (.inl rfl)) (ne b (.inr (.inl rfl))) (ne c (.inr (.inr rfl))) ht)
    · rintro i x σ' H1 hx ⟨y1, rfl, h1, h2⟩
      have i3 : i < 3 := (List.getElem?_eq_some_iff.mp hx).1
      obtain ⟨z, rfl, hz⟩ : ∃ z, x = .ref z ∧ (z = a ∨ z = b ∨ z = c) := by
        have := List.mem_of_getElem? hx
        simp only [List.mem_cons, List.not_mem_nil, or_false] at this
        rcases this with rfl | rfl | rfl
        · exact ⟨_, rfl, .inl rfl⟩
        · exact ⟨_, rfl, .inr (.inl rfl)⟩
        · exact ⟨_, rfl, .inr (.inr rfl)⟩
      obtain ⟨l, hzl, ll⟩ := h1 z hz
      refine s_when (σ := [some (.ref t), some (.ref z)]) (b := true) (et_B (ev_isi (t := "list") (b := true) (ev_var (i := 1) rfl) ev_c (fun H2 e => .base (.lst (e _ _ hzl))) (by decide +kernel))) (fun _ H2 e2 => ?_) (fun z => nomatch z)
      have hz2 := e2 _ _ hzl
      refine ⟨_, rfl, .inl ⟨rfl, _, SqL.of hz2⟩, z, l, .non, rfl, rfl, hz2, small1000 (by omega), ?_⟩
      refine ⟨_, rfl, .inl ⟨rfl, _, SqL.of upd_same⟩, z, l ++ [.non], rfl, rfl, upd_same, ?_⟩
      refine ⟨_, rfl, fun y hy => ?_, fun y o n1 n2 n3 h => ?_⟩
      · by_cases e : y = z
        · subst e
          exact ⟨_, upd_same, by rw [List.length_reverse, List.length_append]; show l.length + 1 ≤ _; omega⟩
        · obtain ⟨l', g1, g2⟩ := h1 y hy
          exact ⟨l', by rw [upd_ne e, upd_ne e]; exact e2 _ _ g1, by omega⟩
      · have e : y ≠ z := fun e => by
          rcases hz with q | q | q
          · exact n1 (e.trans q)
          · exact n2 (e.trans q)
          · exact n3 (e.trans q)
        rw [upd_ne e, upd_ne e]
        exact e2 _ _ (h2 y o n1 n2 n3 h)
    · rintro σ' H1 ⟨_, rfl, _, h2⟩
      exact k H1 h2
-- DEF _law_lowest

theorem gcd_abs (t b : Int) : gcdI (if t < 0 then -t else t) b = gcdI t b := by
  unfold gcdI
  split
  · rw [Int.natAbs_neg]
  · rfl

theorem fr_low35 {t b : Int} (h : 0 < b) : [V.int (t / gcdI t b), V.int (b / gcdI t b)] = frV ((t : Rat) / (b : Rat)) := by
  rw [fr_low h, Rat.mkRat_eq_div]
  have : ((b.toNat : Nat) : Int) = b := by omega
  rw [show ((b.toNat : Nat) : Rat) = ((b : Int) : Rat) by rw [← Rat.intCast_natCast, this]]
def sp__law_lowest (K : PySem.W.Frag) : Sp := fun vs H Q _ => ∃ (t b : Int), vs = [.int t, .int b] ∧ b ≠ 0 ∧ Bd 9000 b ∧
  ∀ (p : Addr) (H' : Hp), H p = none → Ex H H' → H' p = some (.tup (frV ((t : Rat) / (b : Rat)))) → Q (.ref p) H'

theorem ok__law_lowest (T : Txt K mg) : FnOk P w K mg base CX0 2 T.f__law_lowest T.fd__law_lowest ["_law_top", "_law_bottom"] (sp__law_lowest K) := by
  refine Fun.ok T.F__law_lowest sc__law_lowest (fun vs H Q E h => ?_) (fun cdv A outer s H vs Q E hr h => ?_)
  · obtain ⟨_, _, rfl, _⟩ := h; rfl
  · refine ⟨_, (pss_cut (ps_if (pt_cmpR op_lt (pv 1) pe_int (nomark _))
        (pss_one (ps_par (i := 0) (j := 1) (by rfl) sc__law_lowest.nd rfl rfl (by decide) rfl rfl (pa_cons (pe_op op_sub pe_int (pv 0)) (pa_cons (pe_op op_sub pe_int (pv 1)) pa_nil)) (by rfl)))
        pss_nil)
      (pss_cons (ps_set (i := 2) sc__law_lowest.nd rfl (by first | exact Or.inl rfl | exact Or.inr rfl) (pe_call (ok__law_divisor T) hr (by rfl) T.g__law_divisor T.k__law_divisor T.b__law_divisor .nil pass0 (pa_cons (pe_callB (id := "abs") call_abs (by rfl) T.n_abs (by decide +kernel) (pa_cons (pv 0) pa_nil)) (pa_cons (pv 1) pa_nil))))
      (pss_one (ps_ret (pe_tup (pa_cons (pe_op op_fdivW (pv 0) (pv 2)) (pa_cons (pe_op op_fdivW (pv 1) (pv 2)) pa_nil))))))), ?_⟩
    obtain ⟨t0, b0, rfl, hb0, bb0, k⟩ := h
    refine ⟨fun σ' H' => ∃ t b : Int, σ' = [some (.int t), some (.int b), none] ∧ 0 < b ∧ Bd 9000 b ∧ ((t : Rat) / (b : Rat)) = ((t0 : Rat) / (b0 : Rat)) ∧ Ex H H', ?_, ?_⟩
    · refine s_when (b := decide (b0 < 0)) (et_test (ev_op (ev_var (i := 1) rfl) ev_c rv_I0)) (fun hn H1 e1 => ?_) (fun hn H1 e1 => ?_)
      · have hn := of_decide_eq_true hn
        refine ⟨_, rfl, _, _, rfl, rfl, _, rfl, _, _, rfl, rfl, _, _, rfl, ?_⟩
        refine ⟨0 - t0, 0 - b0, rfl, by omega, ?_, ?_, e1⟩
        · unfold Bd at bb0 ⊢
          omega
        · have hb : ((b0 : Int) : Rat) ≠ 0 := fun z => hb0 (Rat.intCast_inj.mp (show ((b0 : Int) : Rat) = ((0 : Int) : Rat) from z))
          rw [Rat.intCast_sub, Rat.intCast_sub]
          show (0 - (t0 : Rat)) / (0 - (b0 : Rat)) = _
          grind
      · have hn := of_decide_eq_false hn
        exact ⟨t0, b0, rfl, by omega, bb0, rfl, e1⟩
    rintro _ H1 ⟨t, b, rfl, hb, bb, eq, e1⟩
    have gp := gcdI_pos (t := t) (show b ≠ 0 by omega)
    have gb : Bd 9000 (gcdI t b) := Bd.abs bb (gcdI_le (by omega))
    refine s_asg (σ := [some (.int t), some (.int b), none]) (v := .int (gcdI t b)) (ev_fn (sp := sp__law_divisor K) (vs := [.int (if t < 0 then -t else t), .int b]) (ea_cons (fun H2 e2 Q2 q2 => ⟨_, rfl, _, rfl, q2 H2 (Ex.refl _)⟩) (ea_cons (ev_var (i := 1) rfl) ea_nil)) fun H2 e2 Q2 q2 => ⟨_, _, rfl, by split <;> omega, by omega, ?_⟩) fun H2 e2 => ?_
    · rw [gcd_abs]
      exact q2 H2 (Ex.refl _)
    refine s_retU (eu_tup (ea_cons (ev_op (ev_var (i := 0) rfl) (ev_var (i := 2) rfl) (rv_I (Bd.divOk gp gb))) (ea_cons (ev_op (ev_var (i := 1) rfl) (ev_var (i := 2) rfl) (rv_I (Bd.divOk gp gb))) ea_nil)) (Nat.le_of_ble_eq_true rfl)) fun p H3 np e3 hp => k p H3 (fresh_back (e1.trans e2) np) ((e1.trans e2).trans e3) ?_
    rw [← eq, ← fr_low35 hb]
    exact hp
-- DEF _law_common

theorem s_retUL {te1 te2 : TE} {D : Ends} {σ : L2.St} {H : Hp} {v : V} {xs : List V} (h1 : Ev te1 σ H v) (h2 : EvL te2 σ H xs) (k : ∀ t p H1, H t = none → Ex H H1 → H1 t = some (.tup [v, .ref p]) → H1 p = some (.lst xs) → D.rt (.ref t) H1) : tRet (tTup (tCons te1 (tCons te2 tNil))) D σ H :=
  h1 H (Ex.refl H) _ fun H1 e1 => h2 H1 e1 _ fun p H2 np e2 hp => ⟨(by show 2 ≤ sizeLine; decide), fun t nt => k t p _ (fresh_back (e1.trans e2) nt) ((e1.trans e2).trans (Ex.new nt)) upd_same (Ex.new nt _ _ hp)⟩
theorem frs_edges {H : Hp} {bs : List Addr} {qs : List Rat} (h : FrsAt H bs qs) : EdgesAt H bs (qs.map fun q => (q.num, (q.den : Int))) := by
  induction h with
  | nil => exact .nil
  | cons r t ih => exact .cons r ih
def sp__law_common (K : PySem.W.Frag) : Sp := fun vs H Q _ => ∃ (p : Addr) (bs : List Addr) (qs : List Rat), vs = [.ref p] ∧ FrL H p bs qs ∧ qs.length ≤ 8 ∧ (∀ q ∈ qs, BdQ 700 700 q) ∧
  ∀ t pt H', H t = none → Ex H H' → H' t = some (.tup [.int (Fq.comB qs), .ref pt]) → H' pt = some (.lst ((Fq.tops qs).map V.int)) → Q (.ref t) H'

theorem ok__law_common (T : Txt K mg) : FnOk P w K mg base CX0 2 T.f__law_common T.fd__law_common ["_law_xs"] (sp__law_common K) := by
  refine Fun.ok T.F__law_common sc__law_common (fun vs H Q E h => ?_) (fun cdv A outer s H vs Q E hr h => ?_)
  · obtain ⟨_, _, _, rfl, _⟩ := h; rfl
  · refine ⟨_, (pss_cons (ps_set (i := 1) sc__law_common.nd rfl (by first | exact Or.inl rfl | exact Or.inr rfl) pe_int)
      (pss_cons (ps_for PassesOwn.never rfl (pi_list (pv 0)) (pg_tup rfl (pgs_cons (pg_name (i := 2) sc__law_common.nd rfl (by first | exact Or.inl rfl | exact Or.inr rfl)) (pgs_cons (pg_name (i := 3) sc__law_common.nd rfl (by first | exact Or.inl rfl | exact Or.inr rfl)) pgs_nil)))
        (pss_one (ps_set (i := 1) sc__law_common.nd rfl (by first | exact Or.inl rfl | exact Or.inr rfl) (pe_op op_fdivW (pe_op op_mulW (pv 1) (pv 3)) (pe_call (ok__law_divisor T) hr (by rfl) T.g__law_divisor T.k__law_divisor T.b__law_divisor .nil pass0 (pa_cons (pv 1) (pa_cons (pv 3) pa_nil)))))))
      (pss_one (ps_ret (pe_tup (pa_cons (pv 1) (pa_cons (pe_lc (own := [("_law_top", 2), ("_law_low", 3)]) (wi := iList K _) (g := gTup K 2 (gCons (gName 2) (gCons (gName 3) gNil))) (tt := tYes) rfl sc__law_common.nd (pi_list (pv 0)) (blkOk_by (N := ["_law_xs", "_law_bottom", "_law_top", "_law_low"]) (sc := (defScope s__law_common)) (by decide +kernel)) (fun _ _ _ _ _ => (pg_tup rfl (pgs_cons (pg_name (i := 2) sc__law_common.nd rfl (Or.inl rfl)) (pgs_cons (pg_name (i := 3) sc__law_common.nd rfl (Or.inl rfl)) pgs_nil)))) (fun _ _ _ _ _ => pts_nil) (fun _ _ _ _ _ => (pe_op op_mulW (pv 2) (pe_op op_fdivW (pv 1) (pv 3))))) pa_nil))))))), ?_⟩
    obtain ⟨p, bs, qs, rfl, hF, h8, bq, k⟩ := h
    have ed := frs_edges hF.2
    have el : bs.length = qs.length := Paired.length hF.2
    have bq' : ∀ q ∈ qs, Bd 700 (q.den : Int) := fun q hq => (bq q hq).2
    have bP : ∀ i : Nat, 0 < Fq.comB (qs.take i) ∧ Bd 6000 (Fq.comB (qs.take i)) := fun i => by
      refine ⟨(Fq.com_all _).1, ?_⟩
      have := Fq.com_bd (k := 700) (qs.take i) 1 1 (by decide) (by unfold Bd; decide) fun q h => bq' q (List.mem_of_mem_take h)
      refine this.mono ?_
      have : (qs.take i).length ≤ 8 := by rw [List.length_take]; omega
      omega
    refine s_asg (σ := [some (.ref p), none, none, none]) ev_c fun H1 e1 => ?_
    refine q_forL (σ := [some (.ref p), some (.int 1), none, none]) (xs := bs.map V.ref) (ev_var (i := 0) rfl) (SqL.of (e1 _ _ hF.1)) (fun i σ' H' => ∃ y2 y3 : Option V, σ' = [some (.ref p), some (.int (Fq.comB (qs.take i))), y2, y3] ∧ Ex H H') (fun H2 e2 => ⟨_, _, rfl, e1.trans e2⟩) (fun i σ' H' _ ⟨_, _, _, h⟩ => SqL.of (h _ _ hF.1)) (fun i x σ' H2 hx hP => ?_) (fun σ' H2 hP => ?_)
    · obtain ⟨y2, y3, rfl, e2⟩ := hP
      rw [List.getElem?_map] at hx
      obtain ⟨c, hc, rfl⟩ := Option.map_eq_some_iff.mp hx
      obtain ⟨q, hq, hcq⟩ := paired_get hF.2 hc
      have d0 := Fq.dpos q
      have bd := bq' q (List.mem_of_getElem? hq)
      obtain ⟨b0, bb⟩ := bP i
      refine ⟨c, _, rfl, SqT.of (e2 _ _ hcq), rfl, _, _, rfl, _, _, rfl, rfl, ?_⟩
      refine s_asg (σ := [some (.ref p), some (.int (Fq.comB (qs.take i))), some (.int q.num), some (.int (q.den : Int))]) (v := .int (Fq.stepB (Fq.comB (qs.take i)) (q.den : Int))) (ev_op (ev_op (ev_var (i := 1) rfl) (ev_var (i := 3) rfl) (rv_I (bb.mulOk bd))) (ev_fn (sp := sp__law_divisor K) (ea_cons (ev_var (i := 1) rfl) (ea_cons (ev_var (i := 3) rfl) ea_nil)) fun H2 e2 Q2 q2 => ⟨_, _, rfl, by omega, by omega, q2 H2 (Ex.refl _)⟩) (rv_I (Bd.divOk (gcdI_pos (by omega)) (bd.abs (gcdI_le (by omega)))))) fun H3 e3 => ⟨some (.int q.num), some (.int (q.den : Int)), ?_, e2.trans e3⟩
      rw [take_snoc hq, Fq.com_snoc]
      rfl
    · obtain ⟨y2, y3, rfl, e2⟩ := hP
      rw [List.length_map, el, List.take_length]
      have b8 := bP 8
      rw [List.take_of_length_le h8] at b8
      refine s_retUL (ev_var (i := 1) rfl) (el_pairs (K := K) (n := 0) (qs := qs.map fun q => (q.num, (q.den : Int))) (fun e => e.1 * (Fq.comB qs / e.2)) rfl (e2 _ _ hF.1) (EdgesAt.mono (fun a xs g => e2 _ _ g) ed) (by rw [List.length_map]; omega) (fun u v => rfl) (fun e H3 he e3 => ?_)) fun t pt H3 nt e3 ht hpt => k t pt H3 (fresh_back e2 nt) (e2.trans e3) ht ?_
      · obtain ⟨q, hq, rfl⟩ := List.mem_map.mp he
        refine ev_op (ev_var (i := 2) rfl) (ev_op (ev_var (i := 1) rfl) (ev_var (i := 3) rfl) (rv_I (Bd.divOk (Fq.dpos q) (bq' q hq)))) (rv_I ((bq q hq).1.mulOk (b8.2.abs (Int.natAbs_ediv_le_natAbs _ _))))
      · have e : ((qs.map fun q => (q.num, (q.den : Int))).map fun e => e.1 * (Fq.comB qs / e.2)) = Fq.tops qs := by
          rw [List.map_map]
          rfl
        rw [e] at hpt
        exact hpt
-- DEF minus

theorem fr_minus {x y : Rat} : mkRat (x.num * (y.den : Int) - y.num * (x.den : Int)) ((x.den : Int) * (y.den : Int)).toNat = x - y := by
  have h := fr_plus (x := x) (y := -y)
  rw [Rat.neg_num, Rat.neg_den, Int.neg_mul, ← Int.sub_eq_add_neg, ← Rat.sub_eq_add_neg] at h
  exact h

def sp_minus (K : PySem.W.Frag) : Sp := fun vs H Q _ => ∃ (p q : Addr) (x y : Rat), vs = [.ref p, .ref q] ∧ H p = some (.tup (frV x)) ∧ H q = some (.tup (frV y)) ∧ Bd 100000 x.num ∧ Bd 100000 (x.den : Int) ∧ Bd 100000 y.num ∧ Bd 100000 (y.den : Int) ∧ Bd 9000 ((x.den : Int) * (y.den : Int)) ∧
  ∀ (r : Addr) (H' : Hp), H r = none → Ex H H' → H' r = some (.tup (frV (x - y))) → Q (.ref r) H'

theorem ok_minus (T : Txt K mg) : FnOk P w K mg base CX0 3 T.f_minus T.fd_minus ["one", "other"] (sp_minus K) := by
  refine Fun.ok T.F_minus sc_minus (fun vs H Q E h => ?_) (fun cdv A outer s H vs Q E hr h => ?_)
  · obtain ⟨_, _, _, _, rfl, _⟩ := h; rfl
  · refine ⟨_, (pss_one (ps_ret (pe_call (ok_fraction T) hr (by rfl) T.g_fraction T.k_fraction T.b_fraction .nil pass0 (pa_cons (pe_op op_sub (pe_op op_mulW (pe_ix (r := rIxT K) ix_tup (pv 0) pe_int (fun _ _ => rfl)) (pe_ix (r := rIxT K) ix_tup (pv 1) pe_int (fun _ _ => rfl))) (pe_op op_mulW (pe_ix (r := rIxT K) ix_tup (pv 1) pe_int (fun _ _ => rfl)) (pe_ix (r := rIxT K) ix_tup (pv 0) pe_int (fun _ _ => rfl)))) (pa_cons (pe_op op_mulW (pe_ix (r := rIxT K) ix_tup (pv 0) pe_int (fun _ _ => rfl)) (pe_ix (r := rIxT K) ix_tup (pv 1) pe_int (fun _ _ => rfl))) pa_nil))))), ?_⟩
    obtain ⟨p, q, x, y, rfl, hp, hq, ba, bb, bc, bd, bz, k⟩ := h
    unfold frV at hp hq
    refine ⟨_, rfl, p, _, _, _, rfl, rfl, SqT.of hp, rfl, _, rfl, q, _, _, _, rfl, rfl, SqT.of hq, rfl, _, _, rfl, rfl, ba.mulOk bd, ?_⟩
    
    refine ⟨_, rfl, q, _, _, _, rfl, rfl, SqT.of hq, rfl, _, rfl, p, _, _, _, rfl, rfl, SqT.of hp, rfl, _, _, rfl, rfl, bc.mulOk bb, _, _, rfl, rfl, ?_⟩
    refine ⟨_, rfl, p, _, _, _, rfl, rfl, SqT.of hp, rfl, _, rfl, q, _, _, _, rfl, rfl, SqT.of hq, rfl, _, _, rfl, rfl, bb.mulOk bd, ?_⟩
    refine ⟨_, _, rfl, den_ne x y, bz, fun r H' nr e hr => k r H' nr e ?_⟩
    rw [hr, fr_com (den_pos x y), fr_minus]
-- DEF spread_out

def FLs (H : Hp) (as : List Addr) (L : List (List Rat)) : Prop := Paired (fun a (qs : List Rat) => ∃ bs, FrL H a bs qs) as L
theorem fls_ex {H H' : Hp} : ∀ {as : List Addr} {L : List (List Rat)}, FLs H as L → Ex H H' → FLs H' as L
  | _, _, .nil, _ => .nil
  | _, _, .cons ⟨bs, h⟩ t, e => .cons ⟨bs, h.ex e⟩ (fls_ex t e)
theorem frs_keep {D : Addr} {l : List V} {H H' : Hp} (hD : H D = some (.lst l)) (e : ∀ b o, b ≠ D → H b = some o → H' b = some o) : ∀ {bs : List Addr} {qs : List Rat}, FrsAt H bs qs → FrsAt H' bs qs
  | _, _, .nil => .nil
  | _, _, .cons h t => .cons (e _ _ (fun z => by rw [z, hD] at h; cases h) h) (frs_keep hD e t)
theorem fls_keep {D : Addr} {l : List V} {H H' : Hp} (hD : H D = some (.lst l)) (e : ∀ b o, b ≠ D → H b = some o → H' b = some o) : ∀ {as : List Addr} {L : List (List Rat)}, D ∉ as → FLs H as L → FLs H' as L
  | _, _, _, .nil => .nil
  | _, _, n, .cons ⟨bs, h⟩ t => .cons ⟨bs, e _ _ (fun z => n (by rw [← z]; exact List.mem_cons_self ..)) h.1, frs_keep hD e h.2⟩ (fls_keep hD e (fun z => n (List.mem_cons_of_mem _ z)) t)
/-- new lists of fractions, place by place -/
theorem lc_frLs {ta : TA} {te : TE} {vs : List Nat} {j : Nat} {σ : L2.St} {H : Hp} {Q : VK} {m : Nat} (F : Nat → List Rat) (h : EvA ta σ H [.int (m : Int)]) (hm : m ≤ 1000) (hw : ∀ u, wipe ((wipe σ vs).set j (some u)) vs = wipe σ vs)
    (he : ∀ i H1, Ex H H1 → i < m → ∀ Q' : VK, (∀ q qs H2, H1 q = none → Ex H1 H2 → FrL H2 q qs (F i) → Q' (.ref q) H2) → te ((wipe σ vs).set j (some (.int (i : Int)))) H1 Q')
    (k : ∀ p as H2, H p = none → Ex H H2 → H2 p = some (.lst (as.map V.ref)) → FLs H2 as ((List.range m).map F) → Q (.ref p) H2) : tLc (iRng1 ta) (gName j) tYes te vs σ H Q := by
  refine h H (Ex.refl H) _ fun H1 e1 => ⟨_, rfl, by omega, by omega, fun D hD => ?_⟩
  rw [Int.toNat_natCast]
  have hDH : H D = none := fresh_back e1 hD
  refine lc_range (lo := 0) (n := m) (fun i H' => ∃ as, Ex H1 H' ∧ H' D = some (.lst (as.map V.ref)) ∧ FLs H' as ((List.range i).map F) ∧ D ∉ as) ⟨[], Ex.new hD, upd_same, .nil, by simp⟩ (fun i H' hi p => ?_) (fun H' p => ?_)
  · obtain ⟨as, p1, p2, p3, p4⟩ := p
    have el : as.length = i := by rw [Paired.length p3, List.length_map, List.length_range]
    refine ⟨hw _, ?_⟩
    rw [Int.zero_add]
    refine he i H' (e1.trans p1) hi _ fun q qs H4 nq e4 hq => ?_
    have nqD : q ≠ D := fun z => by
      rw [z, p2] at nq
      cases nq
    have p2' := e4 _ _ p2
    have keep : ∀ b o, b ≠ D → H4 b = some o → (upd H4 D (.lst (as.map V.ref ++ [V.ref q]))) b = some o := fun b o n g => by rw [upd_ne n]; exact g
    refine ⟨_, p2', ?_, as ++ [q], Ex.mut (p1.trans e4) hD, ?_, ?_, ?_⟩
    · rw [List.length_map, el]
      exact small1000 (by omega)
    · rw [upd_same, List.map_append]
      rfl
    · rw [List.range_succ, List.map_append]
      refine paired_snoc (fls_keep p2' keep p4 (fls_ex p3 e4)) ⟨qs, keep _ _ nqD hq.1, frs_keep p2' keep hq.2⟩
    · intro hb
      rcases List.mem_append.mp hb with h | h
      · exact p4 h
      · exact nqD (List.mem_singleton.mp h).symm
  · obtain ⟨as, p1, p2, p3, p4⟩ := p
    exact k D as H' hDH (e1.trans p1) p2 p3
theorem lc_rngV {g : TG} {tt : TT} {te : TE} {vs : List Nat} {j : Nat} {σ : L2.St} {H : Hp} {Q : VK} {a : Addr} {n : Int} (hσ : σ[j]? = some (some (.ref a))) (ha : H a = some (.rng 0 n)) (h : tLc (iRng1 fun _ H Q => Q [.int n] H) g tt te vs σ H Q) : tLc (RgV.iRngV (tVar j)) g tt te vs σ H Q := by
  obtain ⟨j', e, b1, b2, r⟩ := h
  cases e
  exact ⟨_, hσ, a, n, rfl, ha, b1, b2, r⟩
theorem fr_nought : [V.int ((0 : Int).fdiv (comI 0 1)), V.int ((1 : Int).fdiv (comI 0 1))] = frV 0 := by decide +kernel
/-- values at places, noughts elsewhere -/
def sprd (qs : List Rat) (cols : List Nat) (w : Nat) : List Rat := (qs.zip cols).foldl (fun l p => l.set p.2 p.1) (List.replicate w 0)
theorem fold_len (l : List (Rat × Nat)) : ∀ z : List Rat, (l.foldl (fun l p => l.set p.2 p.1) z).length = z.length := by
  induction l with
  | nil => intro z; rfl
  | cons x l ih => intro z; rw [List.foldl_cons, ih, List.length_set]
theorem paired_set35 {α β : Type} {R : α → β → Prop} : ∀ {xs : List α} {ys : List β} {i : Nat} {x : α} {y : β}, Paired R xs ys → R x y → Paired R (xs.set i x) (ys.set i y)
  | _, _, _, _, _, .nil, _ => .nil
  | _, _, 0, _, _, .cons _ t, h => .cons h t
  | _, _, i + 1, _, _, .cons g t, h => .cons g (paired_set35 t h)
theorem lc_keepF {K : PySem.W.Frag} {nn j : Nat} {tt : TT} {vs : List Nat} {σ : L2.St} {H : Hp} {Q : VK} {a : Addr} {as0 : List Addr} {rows : List (List Rat)} (p : List Rat → Bool) (hσ : σ[nn]? = some (some (.ref a))) (ht : H a = some (.lst (as0.map V.ref)) ∧ FLs H as0 rows) (hm : rows.length ≤ 1000) (hw : ∀ u, wipe ((wipe σ vs).set j (some u)) vs = wipe σ vs) (hj : ∀ u, ((wipe σ vs).set j (some u))[j]? = some (some u))
    (hc : ∀ c r H1, r ∈ rows → (∃ bs, FrL H1 c bs r) → Ex H H1 → EvT tt ((wipe σ vs).set j (some (.ref c))) H1 (p r))
    (k : ∀ D as H2, H D = none → Ex H H2 → (H2 D = some (.lst (as.map V.ref)) ∧ FLs H2 as (rows.filter p)) → Q (.ref D) H2) : tLc (iList K (tVar nn)) (gName j) tt (tVar j) vs σ H Q := by
  refine ⟨_, hσ, a, rfl, ⟨_, SqL.of ht.1⟩, fun D hD => ?_⟩
  refine lc_list (K := K) (a := a) (xs := as0.map V.ref) (fun i H' => ∃ as, Ex H H' ∧ H' D = some (.lst (as.map V.ref)) ∧ FLs H as ((rows.take i).filter p) ∧ as.length ≤ i) ⟨[], Ex.new hD, upd_same, .nil, Nat.le_refl _⟩ (fun i H' _ ⟨_, p1, _⟩ => SqL.of (p1 _ _ ht.1)) (fun i x H' gx pp => ?_) (fun H' pp => ?_)
  · obtain ⟨as, p1, p2, p3, p4⟩ := pp
    rw [List.getElem?_map] at gx
    obtain ⟨c0, hc0, rfl⟩ := Option.map_eq_some_iff.mp gx
    obtain ⟨y, hy, hh⟩ := paired_get ht.2 hc0
    have hi := (List.getElem?_eq_some_iff.mp hy).1
    refine ⟨hw _, ?_⟩
    refine hc c0 y H' (List.mem_of_getElem? hy) (hh.elim fun bs h => ⟨bs, h.ex p1⟩) p1 H' (Ex.refl _) _ fun H3 e3 => ?_
    by_cases hp : p y = true
    · rw [if_pos hp]
      refine ⟨_, hj _, _, e3 _ _ p2, ?_, as ++ [c0], Ex.mut (p1.trans e3) hD, ?_, ?_, ?_⟩
      · rw [List.length_map]
        exact small1000 (by omega)
      · rw [upd_same, List.map_append]
        rfl
      · rw [take_snoc hy, List.filter_append, List.filter_cons_of_pos hp]
        exact paired_snoc p3 hh
      · rw [List.length_append]
        show as.length + 1 ≤ i + 1
        omega
    · rw [if_neg hp]
      refine ⟨as, p1.trans e3, e3 _ _ p2, ?_, by omega⟩
      rw [take_snoc hy, List.filter_append, List.filter_cons_of_neg hp, List.filter_nil, List.append_nil]
      exact p3
  · obtain ⟨as, p1, p2, p3, p4⟩ := pp
    rw [List.length_map, Paired.length ht.2, List.take_length] at p3
    exact k D as H' hD p1 ⟨p2, fls_ex p3 p1⟩

theorem frs_upd35 {H : Hp} {D : Addr} {o : HO} {l : List V} {es : List Addr} {qs : List Rat} (h : FrsAt H es qs) (hD : H D = some (.lst l)) : FrsAt (upd H D o) es qs := frs_keep hD (fun b oo n g => by rw [upd_ne n]; exact g) h
def sp_spread_out (K : PySem.W.Frag) : Sp := fun vs H Q _ => ∃ (p b : Addr) (bs : List Addr) (qs : List Rat) (cols : List Nat) (w : Nat), vs = [.ref p, .ref b, .int w] ∧ FrL H p bs qs ∧ H b = some (.lst ((Sg.zs cols).map V.int)) ∧ cols.length = qs.length ∧ qs.length ≤ 8 ∧ w ≤ 8 ∧ (∀ x ∈ cols, x < w) ∧
  ∀ q es H', H q = none → Ex H H' → FrL H' q es (sprd qs cols w) → Q (.ref q) H'

theorem ok_spread_out (T : Txt K mg) : FnOk P w K mg base CX0 3 T.f_spread_out T.fd_spread_out ["values", "columns", "wide"] (sp_spread_out K) := by
  refine Fun.ok T.F_spread_out sc_spread_out (fun vs H Q E h => ?_) (fun cdv A outer s H vs Q E hr h => ?_)
  · obtain ⟨_, _, _, _, _, _, rfl, _⟩ := h; rfl
  · refine ⟨_, (pss_cut (ps_setLc (i := 3) (own := [("_", 6)]) (g := gName 6) (tt := tYes) rfl sc_spread_out.nd rfl rfl (sw_true rfl rfl rfl (by decide +kernel)) (pi_range1 (by rfl) T.n_range (pa_cons (pv 2) pa_nil)) (blkOk_by (N := ["values", "columns", "wide", "told", "value", "column", "_"]) (sc := (defScope s_spread_out)) (by decide +kernel)) (fun _ _ _ _ _ => pg_name (i := 6) sc_spread_out.nd rfl (Or.inl rfl)) (fun _ _ _ _ _ => pts_nil) (fun _ _ _ _ _ => (pe_call (ok_fraction T) hr (by rfl) T.g_fraction T.k_fraction T.b_fraction_1.2 T.b_fraction_1.1 pass0 (pa_cons pe_int pa_nil))))
      (pss_cons (ps_for PassesOwn.never rfl (pi_zip (by rfl) T.n_zip (pa_cons (pv 0) (pa_cons (pv 1) pa_nil))) (pg_tup rfl (pgs_cons (pg_name (i := 4) sc_spread_out.nd rfl (by first | exact Or.inl rfl | exact Or.inr rfl)) (pgs_cons (pg_name (i := 5) sc_spread_out.nd rfl (by first | exact Or.inl rfl | exact Or.inr rfl)) pgs_nil)))
        (pss_one (ps_asg (pv 4) (pg_sub (pv 3) (pv 5) set_list))))
      (pss_one (ps_ret (pv 3))))), ?_⟩
    obtain ⟨p, b, bs, qs, cols, w, rfl, hF, hb, hl, q8, w8, hc, k⟩ := h
    have bl : bs.length = qs.length := Paired.length hF.2
    have zl : ((Sg.zs cols).map V.int).length = cols.length := by unfold Sg.zs; rw [List.length_map, List.length_map]
    refine ⟨fun σ' H' => ∃ (q : Addr) (es : List Addr), σ' = [some (.ref p), some (.ref b), some (.int w), some (.ref q), none, none, none] ∧ FrL H' q es (List.replicate w 0) ∧ H q = none ∧ Ex H H', ?_, ?_⟩
    · refine lc_frsN (m := w) (fun _ => 0) (ea_cons (ev_var (i := 2) rfl) ea_nil) (by omega) (fun u => rfl) (fun kk G eG hk => ?_) (fun q es G nq nes nd nqe e hq => ⟨q, es, rfl, ?_, nq, e⟩)
      · intro G2 e Q' q'
        exact ⟨_, _, rfl, by decide, (by unfold Bd; decide +kernel), fun r H' nr e' hr => q' r H' nr e' (by rw [hr, fr_nought])⟩
      · have : ((List.range w).map fun _ => (0 : Rat)) = List.replicate w 0 := by
          refine List.eq_replicate_iff.mpr ⟨by rw [List.length_map, List.length_range], fun x hx => ?_⟩
          obtain ⟨_, _, rfl⟩ := List.mem_map.mp hx
          rfl
        rw [← this]
        exact hq
    rintro _ H1 ⟨q, es0, rfl, h0, nq, e1⟩
    refine q_forZ (K := K) (xs := bs.map V.ref) (ys := (Sg.zs cols).map V.int) (ea_cons (ev_var (i := 0) rfl) (ea_cons (ev_var (i := 1) rfl) ea_nil)) (SqL.of (e1 _ _ hF.1)) (SqL.of (e1 _ _ hb)) (by rw [List.length_map, bl, zl, hl]) (fun i σ' H' => ∃ (y4 y5 : Option V) (es : List Addr), σ' = [some (.ref p), some (.ref b), some (.int w), some (.ref q), y4, y5, none] ∧ FrL H' q es (((qs.zip cols).take i).foldl (fun l p => l.set p.2 p.1) (List.replicate w 0)) ∧ Ex H H') (fun H2 e2 => ⟨_, _, es0, rfl, h0.ex e2, e1.trans e2⟩) (fun i σ' H' ⟨_, _, _, _, _, e⟩ => ⟨SqL.of (e _ _ hF.1), SqL.of (e _ _ hb)⟩) (fun i x y T σ' H2 hx hy hP nT => ?_) (fun σ' H2 hP => ?_)
    · obtain ⟨y4, y5, es, rfl, h2, e2⟩ := hP
      have xT := Ex.new (o := .tup [x, y]) nT
      rw [List.getElem?_map] at hx
      obtain ⟨c, hcx, rfl⟩ := Option.map_eq_some_iff.mp hx
      obtain ⟨r, hr, hcr⟩ := paired_get hF.2 hcx
      unfold Sg.zs at hy
      rw [List.getElem?_map, List.getElem?_map] at hy
      obtain ⟨z, hz, rfl⟩ := Option.map_eq_some_iff.mp hy
      obtain ⟨jc, hj, rfl⟩ := Option.map_eq_some_iff.mp hz
      have h3 := h2.ex xT
      have el : es.length = w := by rw [Paired.length h3.2, fold_len, List.length_replicate]
      have jw := hc jc (List.mem_of_getElem? hj)
      refine ⟨T, _, rfl, SqT.of upd_same, rfl, _, _, rfl, _, _, rfl, rfl, _, rfl, _, rfl, _, rfl, q, es.map V.ref, (jc : Int), jc, rfl, rfl, h3.1, ?_, ?_⟩
      · exact Evl.ixN_nat (n := (es.map V.ref).length) (j := jc) (by rw [List.length_map]; omega)
      · have hcr3 := (e2.trans xT) _ _ hcr
        have zz : (qs.zip cols)[i]? = some (r, jc) := by rw [List.getElem?_zip_eq_some]; exact ⟨hr, hj⟩
        refine ⟨_, _, es.set jc c, rfl, ⟨by rw [upd_same, List.map_set], ?_⟩, Ex.mut (e2.trans xT) nq⟩
        rw [take_snoc zz, List.foldl_append]
        exact frs_upd35 (paired_set35 h3.2 hcr3) h3.1
    · obtain ⟨y4, y5, es, rfl, h2, e2⟩ := hP
      rw [List.length_map, bl, List.take_of_length_le (by rw [List.length_zip]; omega)] at h2
      exact s_ret (v := .ref q) (ev_var (i := 3) rfl) fun H3 e3 => k q es H3 nq (e2.trans e3) (h2.ex e3)
-- DEF _law_sums
theorem ev_sumL {K : PySem.W.Frag} {ta : TE} {σ : L2.St} {H : Hp} {ns : List Int} (h : EvL ta σ H (ns.map V.int)) : Ev (tCB (rSum K) (tCons ta tNil)) σ H (.int ns.sum) := fun H1 e Q q => h H1 e _ fun p H2 _ e2 hp => ⟨p, ns, rfl, SqL.of hp, q H2 e2⟩

theorem tops_bd {qs : List Rat} (bq : ∀ q ∈ qs, BdQ 700 700 q) (h8 : qs.length ≤ 8) : ∀ y ∈ Fq.tops qs, Bd 7000 y := by
  intro y hy
  obtain ⟨q, hq, rfl⟩ := List.mem_map.mp hy
  have h1 := Fq.com_bd (k := 700) qs 1 1 (by decide) (by unfold Bd; decide) fun q h => (bq q h).2
  have h2 : Bd 6000 (Fq.comB qs) := h1.mono (by omega)
  exact ((bq q hq).1.mul (h2.abs (Int.natAbs_ediv_le_natAbs _ _))).mono (by decide)
def sp__law_sums (K : PySem.W.Frag) : Sp := fun vs H Q _ => ∃ (p b : Addr) (as bs : List Addr) (rows : List (List Int)) (qs : List Rat), vs = [.ref p, .ref b] ∧ Tab H p as rows ∧ rows.length ≤ 8 ∧ (∀ r ∈ rows, r.length = qs.length ∧ ∀ y ∈ r, Bd 110 y) ∧ FrL H b bs qs ∧ qs.length ≤ 8 ∧ (∀ q ∈ qs, BdQ 700 700 q) ∧
  ∀ t pt H', H t = none → Ex H H' → H' t = some (.tup [.int (Fq.comB qs), .ref pt]) → H' pt = some (.lst ((Ls.totals rows (Fq.tops qs)).map V.int)) → Q (.ref t) H'

theorem ok__law_sums (T : Txt K mg) : FnOk P w K mg base CX0 3 T.f__law_sums T.fd__law_sums ["_law_rows", "_law_xs"] (sp__law_sums K) := by
  refine Fun.ok T.F__law_sums sc__law_sums (fun vs H Q E h => ?_) (fun cdv A outer s H vs Q E hr h => ?_)
  · obtain ⟨_, _, _, _, _, _, rfl, _⟩ := h; rfl
  · refine ⟨_, (pss_cons (ps_asg (pe_call (ok__law_common T) hr (by rfl) T.g__law_common T.k__law_common T.b__law_common .nil pass0 (pa_cons (pv 1) pa_nil)) (pg_tup rfl (pgs_cons (pg_name (i := 2) sc__law_sums.nd rfl (by first | exact Or.inl rfl | exact Or.inr rfl)) (pgs_cons (pg_name (i := 3) sc__law_sums.nd rfl (by first | exact Or.inl rfl | exact Or.inr rfl)) pgs_nil))))
      (pss_one (ps_ret (pe_tup (pa_cons (pv 2) (pa_cons (pe_lc (own := [("_law_row", 4)]) (wi := iList K _) (g := gName 4) (tt := tYes) rfl sc__law_sums.nd (pi_list (pv 0)) (blkOk_by (N := ["_law_rows", "_law_xs", "_law_bottom", "_law_tops", "_law_row", "_law_a", "_law_b"]) (sc := (defScope s__law_sums)) (by decide +kernel)) (fun _ _ _ _ _ => pg_name (i := 4) sc__law_sums.nd rfl (Or.inl rfl)) (fun _ _ _ _ _ => pts_nil) (fun _ _ _ _ _ => (pe_callB (id := "sum") (r := rSum K) (cr_sum rfl) (by rfl) T.n_sum (by decide +kernel) (pa_cons (pe_lc (own := [("_law_a", 5), ("_law_b", 6)]) (wi := iZip K _) (g := gTup K 2 (gCons (gName 5) (gCons (gName 6) gNil))) (tt := tYes) rfl sc__law_sums.nd (pi_zip (by rfl) T.n_zip (pa_cons (pv 4) (pa_cons (pv 3) pa_nil))) (blkOk_by (N := ["_law_rows", "_law_xs", "_law_bottom", "_law_tops", "_law_row", "_law_a", "_law_b"]) (sc := (relS ({ kind := .function, names := [(".0", .local), ("_law_row", .local), ("sum", .globalImplicit), ("zip", .globalImplicit), ("_law_tops", .free)], isGenerator := false, isCoroutine := false } : Scope) (defScope s__law_sums))) (by decide +kernel)) (fun _ _ _ _ _ => (pg_tup rfl (pgs_cons (pg_name (i := 5) sc__law_sums.nd rfl (Or.inl rfl)) (pgs_cons (pg_name (i := 6) sc__law_sums.nd rfl (Or.inl rfl)) pgs_nil)))) (fun _ _ _ _ _ => pts_nil) (fun _ _ _ _ _ => (pe_op op_mulW (pv 5) (pv 6)))) pa_nil)))) pa_nil)))))), ?_⟩
    obtain ⟨p, b, as, bs, rows, qs, rfl, hT, m8, hr, hF, h8, bq, k⟩ := h
    refine ⟨_, rfl, b, bs, qs, rfl, hF, h8, bq, fun t pt H1 nt e1 ht hpt => ⟨t, _, rfl, SqT.of ht, rfl, _, _, rfl, _, _, rfl, rfl, ?_⟩⟩
    have tl : (Fq.tops qs).length = qs.length := by unfold Fq.tops; rw [List.length_map]
    have tb := tops_bd bq h8
    have hT1 := hT.ex e1
    refine s_retUL (σ := [some (.ref p), some (.ref b), some (.int (Fq.comB qs)), some (.ref pt), none, none, none]) (ev_var (i := 2) rfl) (el_col (K := K) (n := 0) (vs := [4]) (f := fun r => Ls.dot r (Fq.tops qs)) rfl hT1.1 hT1.2 (by omega) (fun u => rfl) fun c r H2 hr' hc e2 => ?_) fun u pu H2 nu e2 hu hpu => k u pu H2 (fresh_back e1 nu) (e1.trans e2) hu hpu
    refine ev_sumL (el_zip (K := K) (vs := [5, 6]) (f := (· * ·)) (ea_cons (ev_var (i := 4) rfl) (ea_cons (ev_var (i := 3) rfl) ea_nil)) (SqL.of (e2 _ _ hc)) (SqL.of (e2 _ _ hpt)) (by rw [tl]; exact (hr r hr').1) (by have := (hr r hr').1; omega) (fun u v => rfl) fun x y H3 hx hy e3 => ?_)
    exact ev_op (ev_var (i := 5) rfl) (ev_var (i := 6) rfl) (rv_I (((hr r hr').2 x hx).mulOk (tb y hy)))
-- DEF solved

theorem detI_bd {R : List (List Int)} {n b : Nat} (hl : R.length = n) (hw : ∀ r ∈ R, r.length = n) (hb : ∀ r ∈ R, ∀ y ∈ r, Bd b y) (h0 : 0 < b) (hbits : (b + 1) * 2 ^ (n - 2) ≤ 9000) : Bd 40002 (Dt.detI n R) := by
  have PP := Dt.pc_all hl hw hb h0 n (Nat.le_refl _)
  have bits : (b + 1) * 2 ^ (Dt.clears R n).steps - 1 ≤ 40000 := by
    have h1 := Nat.mul_le_mul_left (b + 1) (Nat.pow_le_pow_right (show 0 < 2 by decide) (show (Dt.clears R n).steps ≤ (n - 2) + 2 by have := PP.sm_; omega))
    rw [Nat.pow_add, ← Nat.mul_assoc] at h1
    omega
  have bs : Bd 2 (Dt.clears R n).sign := by
    rcases PP.sn with z | z <;> rw [z] <;> unfold Bd <;> decide
  unfold Dt.detI
  split
  · exact (bs.mul (Dt.bdz_mono PP.cb bits : Bd 40000 _)).mono (by decide)
  · unfold Bd
    exact Nat.two_pow_pos _
theorem quot_bd {d D : Int} (h0 : D ≠ 0) {a b : Nat} (h1 : Bd a d) (h2 : Bd b D) : BdQ a b ((d : Rat) / (D : Rat)) := by
  have e := fr_any (t := d) h0
  unfold frV at e
  have e1 : d.fdiv (comI d D) = ((d : Rat) / (D : Rat)).num := V.int.inj (List.cons.inj e).1
  have e2 : D.fdiv (comI d D) = (((d : Rat) / (D : Rat)).den : Int) := V.int.inj (List.cons.inj (List.cons.inj e).2).1
  refine ⟨?_, ?_⟩
  · rw [← e1]
    exact Nat.lt_of_le_of_lt (Dt.fdiv_abs _ _) h1
  · rw [← e2]
    exact Nat.lt_of_le_of_lt (Dt.fdiv_abs _ _) h2
theorem sol_bd {S : List (List Int)} {n : Nat} {t : List Int} {D : Int} (hS : S.length = n) (hw : ∀ r ∈ S, r.length = n) (ht : t.length = n) (n6 : n ≤ 6) (hb : ∀ r ∈ S, ∀ y ∈ r, Bd 100 y) (htb : ∀ y ∈ t, Bd 100 y) (hD : ((D : Int) : Rat) = Dt.det n (Dt.mx S)) (h0 : D ≠ 0) (bD : Bd 700 D) : ∀ x ∈ solQ S n t, BdQ 40002 700 x := fun x hx => by
  obtain ⟨k, hk, rfl⟩ := List.mem_map.mp hx
  have hk := List.mem_range.mp hk
  have pw : (100 + 1) * 2 ^ (n - 2) ≤ 9000 := by
    have : 2 ^ (n - 2) ≤ 2 ^ 4 := Nat.pow_le_pow_right (by decide) (by omega)
    omega
  rw [← Dt.detI_eq (n := n) ⟨repl_len hS ht, repl_wid hw hk⟩, ← hD]
  exact quot_bd h0 (detI_bd (repl_len hS ht) (repl_wid hw hk) (repl_bd hb htb) (by decide) pw) bD
def sp_solved (K : PySem.W.Frag) : Sp := fun vs H Q _ => ∃ (p b : Addr) (as : List Addr) (S : List (List Int)) (t : List Int) (n : Nat) (D : Int), vs = [.ref p, .ref b] ∧ TabOk H p as S n n ∧ n ≤ 6 ∧ (∀ r ∈ S, ∀ y ∈ r, Bd 100 y) ∧ H b = some (.lst (t.map V.int)) ∧ t.length = n ∧ (∀ y ∈ t, Bd 100 y) ∧ ((D : Int) : Rat) = Dt.det n (Dt.mx S) ∧ D ≠ 0 ∧ Bd 700 D ∧
  ∀ q qs H', H q = none → Ex H H' → FrL H' q qs (solQ S n t) → (∀ x ∈ solQ S n t, BdQ 40002 700 x) → Q (.ref q) H'

theorem ok_solved (T : Txt K mg) : FnOk P w K mg base CX0 4 T.f_solved T.fd_solved ["square", "totals"] (sp_solved K) := by
  refine Fun.ok T.F_solved sc_solved (fun vs H Q E h => ?_) (fun cdv A outer s H vs Q E hr h => ?_)
  · obtain ⟨_, _, _, _, _, _, _, rfl, _⟩ := h; rfl
  · refine ⟨_, (pss_cut (ps_set (i := 2) sc_solved.nd rfl (by first | exact Or.inl rfl | exact Or.inr rfl) (pe_call (ok_square_value T) hr (by rfl) T.g_square_value T.k_square_value T.b_square_value .nil pass0 (pa_cons (pv 0) pa_nil)))
      (pss_cons (ps_if (pt_cmpR op_eq (pv 2) pe_int (nomark _))
        (pss_one (ps_ret pe_non))
        pss_nil)
      (pss_one (ps_ret (pe_lc (own := [("at", 3)]) (g := gName 3) (tt := tYes) rfl sc_solved.nd (pi_range1 (by rfl) T.n_range (pa_cons (pe_callB (id := "len") (r := rLenS K) call_len_seq (by rfl) T.n_len PySem.boot_len (pa_cons (pv 0) pa_nil)) pa_nil)) (blkOk_by (N := ["square", "totals", "bottom", "at"]) (sc := (defScope s_solved)) (by decide +kernel)) (fun _ _ _ _ _ => pg_name (i := 3) sc_solved.nd rfl (Or.inl rfl)) (fun _ _ _ _ _ => pts_nil) (fun _ _ _ _ _ => (pe_call (ok_fraction T) (hr.mono (by decide)) (by rfl) T.g_fraction T.k_fraction T.b_fraction .nil pass0 (pa_cons (pe_call (ok_square_value T) hr (by rfl) T.g_square_value T.k_square_value T.b_square_value .nil pass0 (pa_cons (pe_call (ok_replaced T) (hr.mono (by decide)) (by rfl) T.g_replaced T.k_replaced T.b_replaced .nil pass0 (pa_cons (pv 0) (pa_cons (pv 3) (pa_cons (pv 1) pa_nil)))) pa_nil)) (pa_cons (pv 2) pa_nil))))))))), ?_⟩
    obtain ⟨p, b, as, S, t, n, D, rfl, hT, n6, hb, hbt, ht, htb, hD, h0, bD, k⟩ := h
    have pw : (100 + 1) * 2 ^ (n - 2) ≤ 9000 := by
      have : 2 ^ (n - 2) ≤ 2 ^ 4 := Nat.pow_le_pow_right (by decide) (by omega)
      omega
    have hd := hT.b
    refine ⟨fun σ' H' => σ' = [some (.ref p), some (.ref b), some (.int D), none] ∧ Ex H H', ?_, ?_⟩
    · refine ⟨_, rfl, p, as, S, n, 100, rfl, hT, by decide, hb, pw, fun d H1 hd _ e1 => ?_⟩
      have : d = D := Rat.intCast_inj.mp (hd.trans hD.symm)
      rw [this]
      exact ⟨rfl, e1⟩
    rintro _ H1 ⟨rfl, e1⟩
    refine q_when (b := false) (et_is (et_test (ev_op (ev_var (i := 2) rfl) ev_c (rv_eq rfl))) (decide_eq_false fun z => h0 (V.int.inj z))) (fun z => nomatch z) fun _ H2 e2 => ?_
    have e02 := e1.trans e2
    have T2 := hT.ex e02
    have bqs := sol_bd hT.m_ hT.w_ ht n6 hb htb hD h0 bD
    refine lc_frsN (m := n) (fun k => Dt.det n (Dt.mx (repl S k t)) / Dt.det n (Dt.mx S)) (ea_cons (ev_is (ev_len (ev_var (i := 0) rfl) (SqL.of T2.tab.1)) (by rw [List.length_map, T2.al])) ea_nil) (by omega) (fun u => rfl) (fun kk H3 e3 hk => ?_) fun q qs H3 nq nqs ndq nqq e3 hq => k q qs H3 (fresh_back e02 nq) (e02.trans e3) hq bqs
    intro G e Q' q'
    have eG := e3.trans e
    refine ⟨_, rfl, _, rfl, _, rfl, p, b, as, S, t, n, kk, rfl, (T2.ex eG).tab, hT.m_, hT.w_, by omega, hk, (e02.trans eG) _ _ hbt, ht, fun q1 qs1 H4 nq nqs e4 hq => ?_⟩
    refine ⟨q1, qs1, repl S kk t, n, 100, rfl, ⟨hq, repl_len hT.m_ ht, repl_wid hT.w_ hk, by omega, by omega, by omega, by omega⟩, by decide, repl_bd hb htb, pw, fun d H5 hdt _ e5 => ?_⟩
    refine ⟨_, rfl, d, D, rfl, h0, bD.mono (by decide), fun r H6 nr e6 hr => ?_⟩
    rw [fr_any h0, hdt, hD] at hr
    exact q' r H6 (fresh_back (e4.trans e5) nr) (e4.trans (e5.trans e6)) hr
-- DEF first_rests
theorem add_int35 (q : Rat) (b : Int) : (q + (b : Rat)).num = q.num + b * q.den ∧ (q + (b : Rat)).den = q.den := by
  have cop : (q.num + b * q.den).natAbs.Coprime q.den := by
    have h := Int.gcd_add_mul_right_left (q.den : Int) q.num b
    unfold Int.gcd at h
    rw [Int.natAbs_natCast] at h
    show Nat.gcd _ _ = 1
    rw [h]
    exact q.reduced
  have e : q + (b : Rat) = ⟨q.num + b * q.den, q.den, q.den_nz, cop⟩ := by
    rw [Rat.add_def', Rat.mk_eq_mkRat]
    simp
  rw [e]
  exact ⟨rfl, rfl⟩
theorem el_pairsB {K : PySem.W.Frag} {n : Nat} {te : TE} {vs : List Nat} {j1 j2 : Nat} {σ : L2.St} {H : Hp} {a : Addr} {bs : List Addr} {qs : List (Int × Int)} (f : Int × Int → Bool) (hσ : σ[n]? = some (some (.ref a))) (hx : H a = some (.lst (bs.map V.ref))) (hE : EdgesAt H bs qs) (hz : qs.length ≤ 1000)
    (hw : ∀ u v, wipe (((wipe σ vs).set j1 (some u)).set j2 (some v)) vs = wipe σ vs)
    (he : ∀ e H1, e ∈ qs → Ex H H1 → Ev te (((wipe σ vs).set j1 (some (.int e.1))).set j2 (some (.int e.2))) H1 (.bl (f e))) : EvL (tLc (iList K (tVar n)) (g2 K j1 j2) tYes te vs) σ H ((qs.map f).map V.bl) := fun H1 e1 Q q => by
  have hx1 := e1 _ _ hx
  have el : bs.length = qs.length := Paired.length hE
  refine ⟨_, hσ, a, rfl, ⟨_, SqL.of hx1⟩, fun D hD => ?_⟩
  refine lc_list (K := K) (a := a) (xs := bs.map V.ref) (fun i H' => Ex H1 H' ∧ H' D = some (.lst (((qs.map f).take i).map V.bl))) ⟨Ex.new hD, upd_same⟩ (fun i H' _ p => SqL.of (p.1 _ _ hx1)) (fun i x H' gx p => ?_) (fun H' p => ?_)
  · obtain ⟨p1, p2⟩ := p
    rw [List.getElem?_map] at gx
    obtain ⟨b, hb, rfl⟩ := Option.map_eq_some_iff.mp gx
    obtain ⟨ed, hed, hr⟩ := paired_get hE hb
    refine ⟨b, _, rfl, SqT.of ((e1.trans p1) _ _ hr), rfl, _, _, rfl, _, _, rfl, rfl, hw _ _, ?_⟩
    show te _ _ _
    refine he ed H (List.mem_of_getElem? hed) (Ex.refl H) _ (e1.trans p1) _ fun H4 e4 => ?_
    refine ⟨_, e4 _ _ p2, ?_, Ex.mut (p1.trans e4) hD, ?_⟩
    · rw [List.length_map, List.length_take, List.length_map]
      exact small1000 (by omega)
    · have hzz : (qs.map f)[i]? = some (f ed) := by rw [List.getElem?_map, hed]; rfl
      rw [upd_same, take_snoc hzz, List.map_append]
      rfl
  · obtain ⟨p1, p2⟩ := p
    rw [List.take_of_length_le (by rw [List.length_map, List.length_map]; omega)] at p2
    exact q D H' hD p1 p2

theorem fedges35 {H : Hp} : ∀ {bs : List Addr} {qs : List Rat}, FrsAt H bs qs → EdgesAt H bs (qs.map fun q => (q.num, (q.den : Int)))
  | _, _, .nil => .nil
  | _, _, .cons h t => .cons h (fedges35 t)
theorem ev_any35 {K : PySem.W.Frag} {ta : TE} {σ : L2.St} {H : Hp} {bs : List Bool} (h : EvL ta σ H (bs.map V.bl)) : Ev (tCB (rAny K) (tCons ta tNil)) σ H (.bl (bs.any id)) := fun H1 e Q q => h H1 e _ fun a H2 na e2 ha => ⟨a, bs, rfl, SqL.of ha, q H2 e2⟩
/-- [f(x) for x in fractions]: new fractions -/
theorem lc_frMap {K : PySem.W.Frag} {t0 te : TE} {vs : List Nat} {j : Nat} {σ : L2.St} {H : Hp} {Q : VK} {a : Addr} {bs : List Addr} {qs : List Rat} (F : Rat → Rat) (h : Ev t0 σ H (.ref a)) (hF : FrL H a bs qs) (hm : qs.length ≤ 1000) (hw : ∀ u, wipe ((wipe σ vs).set j (some u)) vs = wipe σ vs)
    (he : ∀ c q H1, q ∈ qs → H1 c = some (.tup (frV q)) → Ex H H1 → EvU te ((wipe σ vs).set j (some (.ref c))) H1 (frV (F q)))
    (k : ∀ p es H2, H p = none → Ex H H2 → FrL H2 p es (qs.map F) → Q (.ref p) H2) : tLc (iList K t0) (gName j) tYes te vs σ H Q := by
  have bl : bs.length = qs.length := Paired.length hF.2
  refine h H (Ex.refl _) _ fun H1 e1 => ⟨a, rfl, ⟨_, SqL.of (e1 _ _ hF.1)⟩, fun D hD => ?_⟩
  refine lc_list (K := K) (a := a) (xs := bs.map V.ref) (fun i H' => ∃ es, Ex H1 H' ∧ H' D = some (.lst (es.map V.ref)) ∧ FrsAt H' es ((qs.take i).map F)) ⟨[], Ex.new hD, upd_same, .nil⟩ (fun i H' _ ⟨_, p1, _⟩ => SqL.of ((e1.trans p1) _ _ hF.1)) (fun i x H' gx p => ?_) (fun H' p => ?_)
  · obtain ⟨es, p1, p2, p3⟩ := p
    rw [List.getElem?_map] at gx
    obtain ⟨c, hc, rfl⟩ := Option.map_eq_some_iff.mp gx
    obtain ⟨q, hq, hcq⟩ := paired_get hF.2 hc
    have hi := (List.getElem?_eq_some_iff.mp hq).1
    have el : es.length = i := by rw [Paired.length p3, List.length_map, List.length_take]; omega
    refine ⟨hw _, ?_⟩
    show te _ _ _
    refine he c q H' (List.mem_of_getElem? hq) ((e1.trans p1) _ _ hcq) (e1.trans p1) H' (Ex.refl _) _ fun r H4 nr e4 hr => ?_
    have p2' := e4 _ _ p2
    refine ⟨_, p2', by rw [List.length_map, el]; exact small1000 (by omega), es ++ [r], Ex.mut (p1.trans e4) hD, by rw [upd_same, List.map_append]; rfl, ?_⟩
    rw [take_snoc hq, List.map_append]
    refine frs_upd35 (paired_snoc (p3.ex e4) hr) p2'
  · obtain ⟨es, p1, p2, p3⟩ := p
    rw [List.length_map, bl, List.take_length] at p3
    exact k D es H' (fresh_back e1 hD) (e1.trans p1) ⟨p2, p3⟩
theorem rest_facts (q : Rat) : (restQ q).num = q.num % (q.den : Int) ∧ (restQ q).den = q.den := by
  have h := add_int35 q (-(q.num / (q.den : Int)))
  have e : q + ((-(q.num / (q.den : Int)) : Int) : Rat) = restQ q := by
    unfold restQ
    rw [Rat.intCast_neg, ← Rat.sub_eq_add_neg]
  rw [e] at h
  refine ⟨?_, h.2⟩
  rw [h.1, Int.emod_def]
  grind
theorem int_one35 (z : Int) : ((z : Int) : Rat) / ((1 : Int) : Rat) = (z : Rat) := by
  rw [Rat.div_def]
  show (z : Rat) * (1 : Rat)⁻¹ = z
  grind
def sp_first_rests (K : PySem.W.Frag) : Sp := fun vs H Q _ => ∃ (p : Addr) (as : List Addr) (S : List (List Int)) (n : Nat) (D : Int), vs = [.ref p] ∧ TabOk H p as S n n ∧ n ≤ 6 ∧ (∀ r ∈ S, ∀ y ∈ r, Bd 100 y) ∧ ((D : Int) : Rat) = Dt.det n (Dt.mx S) ∧ Bs.isBad D = true ∧ Bd 700 D ∧
  ∀ q qs H', H q = none → Ex H H' → FrL H' q qs (restsQ S n) → Q (.ref q) H'

theorem ok_first_rests (T : Txt K mg) : FnOk P w K mg base CX0 5 T.f_first_rests T.fd_first_rests ["square"] (sp_first_rests K) := by
  refine Fun.ok T.F_first_rests sc_first_rests (fun vs H Q E h => ?_) (fun cdv A outer s H vs Q E hr h => ?_)
  · obtain ⟨_, _, _, _, _, rfl, _⟩ := h; rfl
  · refine ⟨_, (pss_cut (ps_set (i := 1) sc_first_rests.nd rfl (by first | exact Or.inl rfl | exact Or.inr rfl) (pe_callTy (T := "range") RgV.cr_range1 (by rfl) T.n_range (by decide +kernel) (pa_cons (pe_callB (id := "len") (r := rLenS K) call_len_seq (by rfl) T.n_len PySem.boot_len (pa_cons (pv 0) pa_nil)) pa_nil)))
      (pss_cut (ps_setLc (i := 2) (own := [("at", 4)]) (g := gName 4) (tt := tYes) rfl sc_first_rests.nd rfl rfl (sw_true rfl rfl rfl (by decide +kernel)) (RgV.pi_rngV (pv 1)) (blkOk_by (N := ["square", "places", "lists", "broken", "at", "row", "values", "_", "bottom", "value"]) (sc := (defScope s_first_rests)) (by decide +kernel)) (fun _ _ _ _ _ => pg_name (i := 4) sc_first_rests.nd rfl (Or.inr rfl)) (fun _ _ _ _ _ => pts_nil) (fun _ _ _ _ _ => (pe_call (ok_solved T) hr (by rfl) T.g_solved T.k_solved T.b_solved .nil pass0 (pa_cons (pv 0) (pa_cons (pe_lc (own := [("row", 5)]) (g := gName 5) (tt := tYes) rfl sc_first_rests.nd (RgV.pi_rngV (pv 1)) (blkOk_by (N := ["square", "places", "lists", "broken", "at", "row", "values", "_", "bottom", "value"]) (sc := (relS ({ kind := .function, names := [(".0", .local), ("at", .cell), ("solved", .globalImplicit), ("places", .free), ("square", .free)], isGenerator := false, isCoroutine := false } : Scope) (defScope s_first_rests))) (by decide +kernel)) (fun _ _ _ _ _ => pg_name (i := 5) sc_first_rests.nd rfl (Or.inl rfl)) (fun _ _ _ _ _ => pts_nil) (fun _ _ _ _ _ => (pe_ifExp (pt_cmpR op_eq (pv 5) (pv 4) (nomark _)) pe_int pe_int))) pa_nil)))))
      (pss_cut (ps_setLc (i := 3) (own := [("values", 6)]) (wi := iList K _) (g := gName 6) (tt := _) rfl sc_first_rests.nd rfl rfl (sw_true rfl rfl rfl (by decide +kernel)) (pi_list (pv 2)) (blkOk_by (N := ["square", "places", "lists", "broken", "at", "row", "values", "_", "bottom", "value"]) (sc := (defScope s_first_rests)) (by decide +kernel)) (fun _ _ _ _ _ => pg_name (i := 6) sc_first_rests.nd rfl (Or.inl rfl)) (fun _ _ _ _ _ => pts_one (pt_val (pe_callB (id := "any") (r := rAny K) (cr_any rfl) (by rfl) T.n_any (by decide +kernel) (pa_cons (pe_lc (own := [("_", 7), ("bottom", 8)]) (wi := iList K _) (g := gTup K 2 (gCons (gName 7) (gCons (gName 8) gNil))) (tt := tYes) rfl sc_first_rests.nd (pi_list (pv 6)) (blkOk_by (N := ["square", "places", "lists", "broken", "at", "row", "values", "_", "bottom", "value"]) (sc := (relS ({ kind := .function, names := [(".0", .local), ("values", .local), ("any", .globalImplicit)], isGenerator := false, isCoroutine := false } : Scope) (defScope s_first_rests))) (by decide +kernel)) (fun _ _ _ _ _ => (pg_tup rfl (pgs_cons (pg_name (i := 7) sc_first_rests.nd rfl (Or.inl rfl)) (pgs_cons (pg_name (i := 8) sc_first_rests.nd rfl (Or.inl rfl)) pgs_nil)))) (fun _ _ _ _ _ => pts_nil) (fun _ _ _ _ _ => (pe_cmpR op_ne (pv 8) pe_int (nomark _)))) pa_nil)))) (fun _ _ _ _ _ => (pv 6)))
      (pss_one (ps_ret (pe_lc (own := [("value", 9)]) (wi := iList K _) (g := gName 9) (tt := tYes) rfl sc_first_rests.nd (pi_list (pe_ix (r := rIxL K) ix_list (pv 3) pe_int (fun _ _ => rfl))) (blkOk_by (N := ["square", "places", "lists", "broken", "at", "row", "values", "_", "bottom", "value"]) (sc := (defScope s_first_rests)) (by decide +kernel)) (fun _ _ _ _ _ => pg_name (i := 9) sc_first_rests.nd rfl (Or.inl rfl)) (fun _ _ _ _ _ => pts_nil) (fun _ _ _ _ _ => (pe_call (ok_minus T) (hr.mono (by decide)) (by rfl) T.g_minus T.k_minus T.b_minus .nil pass0 (pa_cons (pv 9) (pa_cons (pe_call (ok_fraction T) (hr.mono (by decide)) (by rfl) T.g_fraction T.k_fraction T.b_fraction_1.2 T.b_fraction_1.1 pass0 (pa_cons (pe_call (ok_floor_of T) (hr.mono (by decide)) (by rfl) T.g_floor_of T.k_floor_of T.b_floor_of .nil pass0 (pa_cons (pv 9) pa_nil)) pa_nil)) pa_nil)))))))))), ?_⟩
    obtain ⟨p, as, S, n, D, rfl, hT, n6, hb, hD, hbad, bD, k⟩ := h
    have h0 : D ≠ 0 := fun y => by rw [y] at hbad; cases hbad
    have hd := hT.b
    refine ⟨fun σ' H' => ∃ r : Addr, σ' = [some (.ref p), some (.ref r), none, none, none, none, none, none, none, none] ∧ H' r = some (.rng 0 (n : Int)) ∧ Ex H H', ?_, ?_⟩
    · exact (ev_is (ev_len (K := K) (ev_var (i := 0) rfl) (SqL.of hT.tab.1)) (show V.int ((as.map V.ref).length : Nat) = .int (n : Nat) by rw [List.length_map, hT.al])) H (Ex.refl _) _ fun H1 e1 => ⟨_, rfl, fun r nr => ⟨r, rfl, upd_same, e1.trans (Ex.new nr)⟩⟩
    rintro _ H1 ⟨r, rfl, hr, e1⟩
    have T1 := hT.ex e1
    have ubd : ∀ a, ∀ y ∈ unitL n a, Bd 100 y := fun a y hy => by
      unfold unitL at hy
      obtain ⟨i, _, rfl⟩ := List.mem_map.mp hy
      unfold Bd
      split <;> decide +kernel
    have bdL : ∀ qs ∈ (List.range n).map (fun a => solQ S n (unitL n a)), ∀ x ∈ qs, BdQ 40002 700 x := fun qs hq => by
      obtain ⟨a, _, rfl⟩ := List.mem_map.mp hq
      exact sol_bd hT.m_ hT.w_ (unitL_len n a) n6 hb (ubd a) hD h0 bD
    refine ⟨fun σ' H' => ∃ (l : Addr) (ls : List Addr), σ' = [some (.ref p), some (.ref r), some (.ref l), none, none, none, none, none, none, none] ∧ H' l = some (.lst (ls.map V.ref)) ∧ FLs H' ls ((List.range n).map fun a => solQ S n (unitL n a)) ∧ Ex H H', ?_, ?_⟩
    · refine lc_rngV (a := r) (n := (n : Int)) rfl hr ?_
      refine lc_frLs (m := n) (fun a => solQ S n (unitL n a)) (fun H2 e2 Q' q' => q' H2 (Ex.refl _)) (by omega) (fun u => rfl) (fun a H2 e2 ha Q' q' => ?_) fun l ls H2 nl e2 hl hL => ⟨l, ls, rfl, hl, hL, e1.trans e2⟩
      refine ⟨_, rfl, ?_⟩
      refine lc_rngV (a := r) (n := (n : Int)) rfl (e2 _ _ hr) ?_
      refine (el_rng (m := n) (fun i => if i = a then 1 else 0) (fun H3 e3 Q3 q3 => q3 H3 (Ex.refl _)) (by omega) (fun x => rfl) (fun i H3 e3 hi => ?_)) H2 (Ex.refl _) _ fun u H3 nu e3 hu => ?_
      · refine ev_if (b := decide (i = a)) (et_is (et_test (ev_op (ev_var (i := 5) rfl) (ev_var (i := 4) rfl) (rv_eq rfl))) (decide_eq_decide.mpr ⟨fun z => by have := V.int.inj z; omega, fun z => by rw [z]⟩)) (fun h => ?_) (fun h => ?_)
        · rw [if_pos (of_decide_eq_true h)]
          exact ev_c
        · rw [if_neg (of_decide_eq_false h)]
          exact ev_c
      · exact ⟨p, u, as, S, unitL n a, n, D, rfl, T1.ex (e2.trans e3), n6, hb, hu, unitL_len n a, ubd a, hD, h0, bD, fun q qs H4 nq e4 hq _ => q' q qs H4 (fresh_back e3 nq) (e3.trans e4) hq⟩
    rintro _ H2 ⟨l, ls, rfl, hl, hL, e2⟩
    refine ⟨fun σ' H' => ∃ (b : Addr) (bs : List Addr), σ' = [some (.ref p), some (.ref r), some (.ref l), some (.ref b), none, none, none, none, none, none] ∧ H' b = some (.lst (bs.map V.ref)) ∧ FLs H' bs (((List.range n).map fun a => solQ S n (unitL n a)).filter broke) ∧ Ex H H', ?_, ?_⟩
    · refine lc_keepF (K := K) broke rfl ⟨hl, hL⟩ (by rw [List.length_map, List.length_range]; omega) (fun u => rfl) (fun u => rfl) (fun c qs H3 hq hc e3 => ?_) fun b bs H3 nb e3 hB => ⟨b, bs, rfl, hB.1, hB.2, e2.trans e3⟩
      obtain ⟨cs, hc⟩ := hc
      have ql : qs.length ≤ 1000 := by
        obtain ⟨a, _, rfl⟩ := List.mem_map.mp hq
        unfold solQ
        rw [List.length_map, List.length_range]
        omega
      refine et_is (et_B (ev_any35 (el_pairsB (K := K) (n := 6) (fun e => decide (e.2 ≠ 1)) rfl hc.1 (fedges35 hc.2) (by rw [List.length_map]; exact ql) (fun u v => rfl) fun e H4 he e4 => ev_is (ev_op (ev_var (i := 8) rfl) ev_c (rv_ne rfl)) ?_))) ?_
      · congr 1
        rw [← decide_not]
        exact decide_eq_decide.mpr ⟨fun z y => z (by rw [y]), fun z y => z (V.int.inj y)⟩
      · unfold broke
        rw [List.map_map, List.any_map]
        congr 1
        funext q
        show decide ((q.den : Int) ≠ 1) = decide (q.den ≠ 1)
        exact decide_eq_decide.mpr (by omega)
    rintro _ H3 ⟨b, bs, rfl, hB, hBL, e3⟩
    obtain ⟨a, ha, hbr⟩ := some_broke hT.m_ hT.w_ hD hbad
    have hmem : solQ S n (unitL n a) ∈ ((List.range n).map fun a => solQ S n (unitL n a)).filter broke := List.mem_filter.mpr ⟨List.mem_map.mpr ⟨a, List.mem_range.mpr ha, rfl⟩, hbr⟩
    have hpos := List.length_pos_of_mem hmem
    have hbl := Paired.length hBL
    obtain ⟨c, hc⟩ : ∃ c, bs[0]? = some c := ⟨_, List.getElem?_eq_getElem (by omega)⟩
    obtain ⟨qs, hqs, cs, hF⟩ := paired_get hBL hc
    have hin := (List.mem_filter.mp (List.mem_of_getElem? hqs)).1
    have bq := bdL qs hin
    have ql : qs.length ≤ 1000 := by
      obtain ⟨a, _, rfl⟩ := List.mem_map.mp hin
      unfold solQ
      rw [List.length_map, List.length_range]
      omega
    have er : restsQ S n = qs.map restQ := by
      unfold restsQ
      rw [hqs]
      rfl
    rw [er] at k
    have at0 : atI (bs.map V.ref) 0 = some (.ref c) := atI_nat (j := 0) (by rw [List.getElem?_map, hc]; rfl)
    refine lc_frMap (K := K) restQ (ev_op (ev_var (i := 3) rfl) ev_c (rv_ixL (SqL.of hB) at0)) hF ql (fun u => rfl) (fun cc q H4 hq hcc e4 => ?_) fun x es H4 nx e4 hx => k x es H4 (fresh_back e3 nx) (e3.trans e4) hx
    intro G e Q' q'
    have b1 := bq q hq
    have dp : 0 < (q.den : Int) := Fq.dpos q
    refine ⟨_, rfl, _, rfl, cc, q.num, (q.den : Int), rfl, e _ _ hcc, dp, b1.2.mono (by decide), ?_⟩
    refine ⟨_, 1, rfl, by decide, (by unfold Bd; decide +kernel), fun f H5 nf e5 hf => ?_⟩
    rw [fr_any (by decide), int_one35] at hf
    refine ⟨cc, f, q, ((q.num / (q.den : Int) : Int) : Rat), rfl, (e.trans e5) _ _ hcc, hf, b1.1.mono (by decide), b1.2.mono (by decide), ?_, ?_, ?_, fun x H6 nx e6 hx => q' x H6 (fresh_back e5 nx) (e5.trans e6) hx⟩
    · show Bd 100000 (q.num / (q.den : Int))
      exact (b1.1.abs (Int.natAbs_ediv_le_natAbs _ _)).mono (by decide)
    · show Bd 100000 1
      unfold Bd
      decide +kernel
    · show Bd 9000 ((q.den : Int) * 1)
      rw [Int.mul_one]
      exact b1.2.mono (by decide)
-- DEF unwhole
theorem dec_nat {x y : Nat} : decide (V.int (x : Int) = V.int (y : Int)) = decide (x = y) := by
  by_cases c : x = y
  · subst c
    rw [decide_eq_true rfl, decide_eq_true rfl]
  · rw [decide_eq_false c, decide_eq_false (fun z => c (by have := V.int.inj z; omega))]
theorem rising_zs {m : Nat} {rs : List Nat} (u : rs.Pairwise (· < ·)) (h : ∀ x ∈ rs, x < m) : Rising (m : Int) (Sg.zs rs) := ⟨fun x hx => by
  obtain ⟨i, hi, rfl⟩ := List.mem_map.mp hx
  have := h i hi
  omega, by
  unfold Sg.zs
  exact List.pairwise_map.mpr (u.imp fun h => by omega)⟩
theorem zs_ne {rs : List Nat} (h : rs ≠ []) : Sg.zs rs ≠ [] := fun z => h (List.map_eq_nil_iff.mp z)
theorem zs_len (rs : List Nat) : (Sg.zs rs).length = rs.length := by unfold Sg.zs; rw [List.length_map]
theorem piece_sub (R : List (List Int)) (rs cs : List Nat) : pieceOf R (Sg.zs rs) (Sg.zs cs) = Bs.sub R rs cs := by
  unfold pieceOf Bs.sub Sg.zs
  rw [List.map_map]
  refine List.map_congr_left fun i _ => ?_
  show (cs.map fun (i : Nat) => (i : Int)).map _ = _
  rw [List.map_map]
  rfl
theorem sub_len (R : List (List Int)) (rs cs : List Nat) : (Bs.sub R rs cs).length = rs.length := by unfold Bs.sub; rw [List.length_map]
theorem sub_wid (R : List (List Int)) (rs cs : List Nat) : ∀ r ∈ Bs.sub R rs cs, r.length = cs.length := fun r hr => by
  unfold Bs.sub at hr
  obtain ⟨i, _, rfl⟩ := List.mem_map.mp hr
  rw [List.length_map]
theorem inV_has {x : Int} : ∀ {F : List Int}, inV (.int x) (F.map V.int) = F.contains x
  | [] => rfl
  | y :: F => by
    have ih := inV_has (x := x) (F := F)
    unfold inV at ih ⊢
    rw [List.map_cons, List.any_cons, ih, List.contains_cons]
    congr 1
    show (y == x) = (x == y)
    exact Bool.beq_comm ..

theorem at_bd35 {B : Nat} {rows : List (List Int)} {a b : Nat} (h : ∀ r ∈ rows, ∀ y ∈ r, Bd B y) : Bd B (Dt.at_ rows a b) := by
  unfold Dt.at_
  cases e : rows[a]? with
  | none => unfold Bd; exact Nat.two_pow_pos _
  | some r =>
    show Bd B (r[b]?.getD 0)
    cases e2 : r[b]? with
    | none => unfold Bd; exact Nat.two_pow_pos _
    | some y => exact h r (List.mem_of_getElem? e) y (List.mem_of_getElem? e2)
theorem sub_bd35 {R : List (List Int)} {rs cs : List Nat} {B : Nat} (h : ∀ r ∈ R, ∀ y ∈ r, Bd B y) : ∀ r ∈ Bs.sub R rs cs, ∀ y ∈ r, Bd B y := fun r hr y hy => by
  unfold Bs.sub at hr
  obtain ⟨i, _, rfl⟩ := List.mem_map.mp hr
  obtain ⟨j, _, rfl⟩ := List.mem_map.mp hy
  exact at_bd35 h
theorem len_lt35 {m : Nat} {l : List Nat} (u : l.Pairwise (· < ·)) (h : ∀ x ∈ l, x < m) : l.length ≤ m := by
  have nd : l.Nodup := List.Pairwise.imp (fun h => Nat.ne_of_lt h) u
  have := nd.length_le_of_subset (l₂ := List.range m) fun x hx => List.mem_range.mpr (h x hx)
  rw [List.length_range] at this
  exact this
/-- what is known of the bad square told -/
structure BadF (R : List (List Int)) (m w : Nat) (rs cs : List Nat) : Prop where
  r0 : rs ≠ []
  cl : cs.length = rs.length
  ur : rs.Pairwise (· < ·)
  uc : cs.Pairwise (· < ·)
  mr : ∀ x ∈ rs, x < m
  mc : ∀ x ∈ cs, x < w
  bad : Bs.isBad (Bs.val R rs cs) = true
theorem bad_f {R : List (List Int)} {m w : Nat} {rs cs : List Nat} (h : Bs.bad R m w = some (rs, cs)) : BadF R m w rs cs := by
  have h' : (Bs.sqs m w (min m w)).find? (fun y => Bs.isBad (Bs.val R y.1 y.2)) = some (rs, cs) := h
  have hx := List.mem_of_find?_eq_some h'
  have hb := List.find?_some h'
  unfold Bs.sqs at hx
  rw [List.mem_flatMap] at hx
  obtain ⟨s, hs, h⟩ := hx
  obtain ⟨h1, h2⟩ := Bs.mem_sq.mp h
  obtain ⟨a1, a2, a3⟩ := Cb.mem_all.mp h1
  obtain ⟨b1, b2, b3⟩ := Cb.mem_all.mp h2
  refine ⟨fun z => ?_, by rw [a1, b1], a2, b2, a3, b3, hb⟩
  rw [z] at a1
  have : (0 : Nat) = s + 1 := a1
  omega
/-- the fractions, bounds and gains of the broken task -/
def xQ (R : List (List Int)) (w : Nat) (rs cs : List Nat) : List Rat := sprd (restsQ (Bs.sub R rs cs) rs.length) cs w
def boundL (R : List (List Int)) (qs : List Rat) : List Int := R.map fun r => -((-(fsum r qs).num) / ((fsum r qs).den : Int))
def gainF (R : List (List Int)) (rs cs : List Nat) (j : Nat) : Int := (rs.map fun i => Dt.at_ R i j).sum - (if (Sg.zs cs).contains (j : Int) = true then 0 else 1)
theorem restsQ_mem {S : List (List Int)} {n : Nat} : ∀ q ∈ restsQ S n, ∃ a x, x ∈ solQ S n (unitL n a) ∧ q = restQ x := fun q hq => by
  unfold restsQ at hq
  obtain ⟨x, hx, rfl⟩ := List.mem_map.mp hq
  cases e : (((List.range n).map fun a => solQ S n (unitL n a)).filter broke)[0]? with
  | none => rw [e] at hx; cases hx
  | some qs =>
    rw [e] at hx
    obtain ⟨a, _, rfl⟩ := List.mem_map.mp (List.mem_filter.mp (List.mem_of_getElem? e)).1
    exact ⟨a, x, hx, rfl⟩
theorem restsQ_len {S : List (List Int)} {n : Nat} {D : Int} (hS : S.length = n) (hw : ∀ r ∈ S, r.length = n) (hD : ((D : Int) : Rat) = Dt.det n (Dt.mx S)) (hb : Bs.isBad D = true) : (restsQ S n).length = n := by
  obtain ⟨a, ha, hbr⟩ := some_broke hS hw hD hb
  have hmem : solQ S n (unitL n a) ∈ ((List.range n).map fun a => solQ S n (unitL n a)).filter broke := List.mem_filter.mpr ⟨List.mem_map.mpr ⟨a, List.mem_range.mpr ha, rfl⟩, hbr⟩
  have hpos := List.length_pos_of_mem hmem
  unfold restsQ
  rw [List.length_map, List.getElem?_eq_getElem hpos]
  obtain ⟨a', _, e⟩ := List.mem_map.mp (List.mem_filter.mp (List.getElem_mem hpos)).1
  show (((List.range n).map fun a => solQ S n (unitL n a)).filter broke)[0].length = n
  rw [← e]
  show (solQ S n (unitL n a')).length = n
  unfold solQ
  rw [List.length_map, List.length_range]
theorem rest_bd {x : Rat} {k : Nat} (h : BdQ k 700 x) : BdQ 700 700 (restQ x) := by
  obtain ⟨e1, e2⟩ := rest_facts x
  have dp := Fq.dpos x
  refine ⟨?_, by rw [e2]; exact h.2⟩
  rw [e1]
  have h1 := Int.emod_nonneg x.num (show (x.den : Int) ≠ 0 by omega)
  have h2 := Int.emod_lt_of_pos x.num dp
  have h3 := h.2
  unfold Bd at h3 ⊢
  omega
theorem fold_mem {P : Rat → Prop} (l : List (Rat × Nat)) : ∀ z : List Rat, (∀ x ∈ z, P x) → (∀ p ∈ l, P p.1) → ∀ x ∈ l.foldl (fun l p => l.set p.2 p.1) z, P x := by
  induction l with
  | nil => intro z hz _ x hx; exact hz x hx
  | cons y l ih =>
    intro z hz hl
    rw [List.foldl_cons]
    refine ih _ (fun x hx => ?_) fun p hp => hl p (List.mem_cons_of_mem _ hp)
    rcases List.mem_or_eq_of_mem_set hx with h | h
    · exact hz x h
    · rw [h]
      exact hl y (List.mem_cons_self ..)
theorem sprd_bd {qs : List Rat} {cols : List Nat} {w : Nat} (h : ∀ q ∈ qs, BdQ 700 700 q) : ∀ q ∈ sprd qs cols w, BdQ 700 700 q := by
  unfold sprd
  refine fold_mem (P := BdQ 700 700) _ _ (fun x hx => ?_) fun p hp => h _ (List.of_mem_zip hp).1
  rw [List.eq_of_mem_replicate hx]
  exact ⟨by show Bd 700 0; unfold Bd; decide +kernel, by show Bd 700 1; unfold Bd; decide +kernel⟩
theorem sprd_len (qs : List Rat) (cols : List Nat) (w : Nat) : (sprd qs cols w).length = w := by
  unfold sprd
  rw [fold_len, List.length_replicate]
theorem xQ_bd {R : List (List Int)} {m w : Nat} {rs cs : List Nat} (B : BadF R m w rs cs) (n6 : rs.length ≤ 6) (hb : ∀ r ∈ R, ∀ y ∈ r, Bd 100 y) (bD : Bd 700 (Bs.val R rs cs)) : ∀ q ∈ xQ R w rs cs, BdQ 700 700 q := by
  unfold xQ
  refine sprd_bd fun q hq => ?_
  obtain ⟨a, x, hx, rfl⟩ := restsQ_mem q hq
  have h0 : Bs.val R rs cs ≠ 0 := fun y => by have := B.bad; rw [y] at this; cases this
  refine rest_bd (sol_bd (sub_len R rs cs) (fun r hr => by rw [sub_wid R rs cs r hr, B.cl]) (unitL_len _ a) n6 (sub_bd35 hb) (fun y hy => ?_) (Bs.val_eq R B.cl) h0 bD x hx)
  unfold unitL at hy
  obtain ⟨i, _, rfl⟩ := List.mem_map.mp hy
  unfold Bd
  split <;> decide +kernel
theorem sum_bd35 {r : List Int} {qs : List Rat} (h1 : ∀ y ∈ r, Bd 110 y) (h2 : ∀ q ∈ qs, BdQ 700 700 q) (h8 : qs.length ≤ 8) : Bd 9000 ((fsum r qs).den : Int) := by
  have h := psum_bd (terms_bd h1 h2) 8
  have e : psum (terms r qs) 8 = fsum r qs := psum_all (by unfold terms; rw [List.length_zipWith]; omega)
  rw [e] at h
  exact h.2.mono (by decide)
/-- [f(x) for x in fractions]: whole numbers -/
theorem el_frI {K : PySem.W.Frag} {t0 te : TE} {vs : List Nat} {j : Nat} {σ : L2.St} {H : Hp} {qs : List Rat} (f : Rat → Int) (h : ∀ H1, Ex H H1 → ∀ Q : VK, (∀ a bs H2, Ex H1 H2 → FrL H2 a bs qs → Q (.ref a) H2) → t0 σ H1 Q) (hm : qs.length ≤ 1000) (hw : ∀ u, wipe ((wipe σ vs).set j (some u)) vs = wipe σ vs)
    (he : ∀ c q H1, q ∈ qs → H1 c = some (.tup (frV q)) → Ex H H1 → Ev te ((wipe σ vs).set j (some (.ref c))) H1 (.int (f q))) : EvL (tLc (iList K t0) (gName j) tYes te vs) σ H ((qs.map f).map V.int) := fun H0 e0 Q k => by
  refine h H0 e0 _ fun a bs H1 e1 hF => ⟨a, rfl, ⟨_, SqL.of hF.1⟩, fun D hD => ?_⟩
  have bl : bs.length = qs.length := Paired.length hF.2
  refine lc_list (K := K) (a := a) (xs := bs.map V.ref) (fun i H' => Ex H1 H' ∧ H' D = some (.lst (((qs.map f).take i).map V.int))) ⟨Ex.new hD, upd_same⟩ (fun i H' _ p => SqL.of (p.1 _ _ hF.1)) (fun i x H' gx p => ?_) (fun H' p => ?_)
  · obtain ⟨p1, p2⟩ := p
    rw [List.getElem?_map] at gx
    obtain ⟨c, hc, rfl⟩ := Option.map_eq_some_iff.mp gx
    obtain ⟨q, hq, hcq⟩ := paired_get hF.2 hc
    have hi := (List.getElem?_eq_some_iff.mp hq).1
    refine ⟨hw _, ?_⟩
    show te _ _ _
    refine he c q H' (List.mem_of_getElem? hq) (p1 _ _ hcq) ((e0.trans e1).trans p1) H' (Ex.refl _) _ fun H4 e4 => ?_
    refine ⟨_, e4 _ _ p2, ?_, Ex.mut (p1.trans e4) hD, ?_⟩
    · rw [List.length_map, List.length_take, List.length_map]
      exact small1000 (by omega)
    · have hzz : (qs.map f)[i]? = some (f q) := by rw [List.getElem?_map, hq]; rfl
      rw [upd_same, take_snoc hzz, List.map_append]
      rfl
  · obtain ⟨p1, p2⟩ := p
    rw [List.take_of_length_le (by rw [List.length_map, List.length_map]; omega)] at p2
    exact k D H' (fresh_back e1 hD) (e1.trans p1) p2
/-- what unwhole tells -/
def UnwAt (H0 H : Hp) (R : List (List Int)) (w : Nat) (v : V) : Option (List Nat × List Nat) → Prop
  | none => v = .non
  | some x => ∃ t b g p es, v = .ref t ∧ H t = some (.tup [.ref b, .ref g, .ref p]) ∧ H b = some (.lst ((boundL R (xQ R w x.1 x.2)).map V.int)) ∧ H g = some (.lst (((List.range w).map (gainF R x.1 x.2)).map V.int)) ∧ FrL H p es (xQ R w x.1 x.2) ∧ H0 b = none ∧ H0 g = none ∧ H0 p = none
def sp_unwhole (K : PySem.W.Frag) : Sp := fun vs H Q _ => ∃ (p : Addr) (as : List Addr) (R : List (List Int)) (m w : Nat), vs = [.ref p] ∧ TabOk H p as R m w ∧ m ≤ 6 ∧ (∀ r ∈ R, ∀ y ∈ r, Bd 100 y) ∧ ∀ v H', Ex H H' → UnwAt H H' R w v (Bs.bad R m w) → Q v H'

theorem ok_unwhole (T : Txt K mg) : FnOk P w K mg base CX0 7 T.f_unwhole T.fd_unwhole ["table"] (sp_unwhole K) := by
  refine Fun.ok T.F_unwhole sc_unwhole (fun vs H Q E h => ?_) (fun cdv A outer s H vs Q E hr h => ?_)
  · obtain ⟨_, _, _, _, _, rfl, _⟩ := h; rfl
  · refine ⟨_, (pss_cons (ps_set (i := 1) sc_unwhole.nd rfl (by first | exact Or.inl rfl | exact Or.inr rfl) (pe_call (ok_bad_square T) hr (by rfl) T.g_bad_square T.k_bad_square T.b_bad_square .nil pass0 (pa_cons (pv 0) pa_nil)))
      (pss_cons (ps_if (pt_cmpR op_isN (pv 1) pe_non (nomark _))
        (pss_one (ps_ret pe_non))
        pss_nil)
      (pss_cons (ps_asg (pv 1) (pg_tup rfl (pgs_cons (pg_name (i := 2) sc_unwhole.nd rfl (by first | exact Or.inl rfl | exact Or.inr rfl)) (pgs_cons (pg_name (i := 3) sc_unwhole.nd rfl (by first | exact Or.inl rfl | exact Or.inr rfl)) (pgs_cons (pg_name (i := 4) sc_unwhole.nd rfl (by first | exact Or.inl rfl | exact Or.inr rfl)) pgs_nil)))))
      (pss_cut (ps_set (i := 5) sc_unwhole.nd rfl (by first | exact Or.inl rfl | exact Or.inr rfl) (pe_callB (id := "len") (r := rLenS K) call_len_seq (by rfl) T.n_len PySem.boot_len (pa_cons (pe_ix (r := rIxL K) ix_list (pv 0) pe_int (fun _ _ => rfl)) pa_nil)))
      (pss_cut (ps_set (i := 6) sc_unwhole.nd rfl (by first | exact Or.inl rfl | exact Or.inr rfl) (pe_call (ok_first_rests T) (hr.mono (by decide)) (by rfl) T.g_first_rests T.k_first_rests T.b_first_rests .nil pass0 (pa_cons (pe_call (ok_piece T) hr (by rfl) T.g_piece T.k_piece T.b_piece .nil pass0 (pa_cons (pv 0) (pa_cons (pv 2) (pa_cons (pv 3) pa_nil)))) pa_nil)))
      (pss_cut (ps_set (i := 7) sc_unwhole.nd rfl (by first | exact Or.inl rfl | exact Or.inr rfl) (pe_call (ok_spread_out T) (hr.mono (by decide)) (by rfl) T.g_spread_out T.k_spread_out T.b_spread_out .nil pass0 (pa_cons (pv 6) (pa_cons (pv 3) (pa_cons (pv 5) pa_nil)))))
      (pss_cut (ps_setLc (i := 8) (own := [("total", 10)]) (wi := iList K _) (g := gName 10) (tt := tYes) rfl sc_unwhole.nd rfl rfl (sw_true rfl rfl rfl (by decide +kernel)) (pi_list (pe_call (ok_led T) (hr.mono (by decide)) (by rfl) T.g_led T.k_led T.b_led .nil pass0 (pa_cons (pv 0) (pa_cons (pv 7) pa_nil)))) (blkOk_by (N := ["table", "found", "rows", "columns", "_", "wide", "rests", "x", "bounds", "gains", "total", "column", "row"]) (sc := (defScope s_unwhole)) (by decide +kernel)) (fun _ _ _ _ _ => pg_name (i := 10) sc_unwhole.nd rfl (Or.inl rfl)) (fun _ _ _ _ _ => pts_nil) (fun _ _ _ _ _ => (pe_call (ok_ceiling_of T) (hr.mono (by decide)) (by rfl) T.g_ceiling_of T.k_ceiling_of T.b_ceiling_of .nil pass0 (pa_cons (pv 10) pa_nil))))
      (pss_cut (ps_setLc (i := 9) (own := [("column", 11)]) (g := gName 11) (tt := tYes) rfl sc_unwhole.nd rfl rfl (sw_true rfl rfl rfl (by decide +kernel)) (pi_range1 (by rfl) T.n_range (pa_cons (pv 5) pa_nil)) (blkOk_by (N := ["table", "found", "rows", "columns", "_", "wide", "rests", "x", "bounds", "gains", "total", "column", "row"]) (sc := (defScope s_unwhole)) (by decide +kernel)) (fun _ _ _ _ _ => pg_name (i := 11) sc_unwhole.nd rfl (Or.inr rfl)) (fun _ _ _ _ _ => pts_nil) (fun _ _ _ _ _ => (pe_op op_sub (pe_callB (id := "sum") (r := rSum K) (cr_sum rfl) (by rfl) T.n_sum (by decide +kernel) (pa_cons (pe_lc (own := [("row", 12)]) (wi := iList K _) (g := gName 12) (tt := tYes) rfl sc_unwhole.nd (pi_list (pv 2)) (blkOk_by (N := ["table", "found", "rows", "columns", "_", "wide", "rests", "x", "bounds", "gains", "total", "column", "row"]) (sc := (relS ({ kind := .function, names := [(".0", .local), ("column", .cell), ("sum", .globalImplicit), ("columns", .free), ("rows", .free), ("table", .free)], isGenerator := false, isCoroutine := false } : Scope) (defScope s_unwhole))) (by decide +kernel)) (fun _ _ _ _ _ => pg_name (i := 12) sc_unwhole.nd rfl (Or.inl rfl)) (fun _ _ _ _ _ => pts_nil) (fun _ _ _ _ _ => (pe_ix (r := rIxL K) ix_list (pe_ix (r := rIxL K) ix_list (pv 0) (pv 12) (fun _ _ => rfl)) (pv 11) (fun _ _ => rfl)))) pa_nil)) (pe_ifExp (pt_cmpR (r := rIn K false) op_in_seq (pv 11) (pv 3) (by rfl)) pe_int pe_int))))
      (pss_one (ps_ret (pe_tup (pa_cons (pv 8) (pa_cons (pv 9) (pa_cons (pv 7) pa_nil)))))))))))))), ?_⟩
    obtain ⟨p, as, R, m, w, rfl, hT, m6, hb, k⟩ := h
    have hd := hT.b
    refine ⟨_, rfl, p, as, R, m, w, rfl, hT, hb, fun v H1 e1 hv => ?_⟩
    obtain ⟨hv, hbd⟩ := hv
    cases ho : Bs.bad R m w with
    | none =>
      rw [ho] at hv k
      have hv : v = .non := hv
      subst hv
      dsimp only
      refine q_when (σ := [some (.ref p), some .non, none, none, none, none, none, none, none, none, none, none, none]) (b := true) (et_is (et_test (ev_op (ev_var (i := 1) rfl) ev_c (fun G e Q' q' => ⟨rfl, q' G (Ex.refl _)⟩))) rfl) (fun _ H2 e2 => ?_) (fun z => nomatch z)
      exact s_ret (v := .non) ev_c fun H3 e3 => k .non H3 (e1.trans (e2.trans e3)) rfl
    | some x =>
      obtain ⟨rs, cs⟩ := x
      have B := bad_f ho
      have hbd := hbd _ ho
      rw [ho] at hv k
      obtain ⟨t, a, b, rfl, ht, ha, hbb, na, nb, ab⟩ := hv
      have rl := len_lt35 B.ur B.mr
      have cl := len_lt35 B.uc B.mc
      have r1 : 1 ≤ rs.length := List.length_pos_iff.mpr B.r0
      have c0 : cs ≠ [] := fun z => B.r0 (List.length_eq_zero_iff.mp (by rw [← B.cl, z]; rfl))
      have bD : Bd 700 (Bs.val R rs cs) := hbd.mono (by show rs.length * 112 + 1 ≤ 700; omega)
      dsimp only
      refine q_when (σ := [some (.ref p), some (.ref t), none, none, none, none, none, none, none, none, none, none, none]) (b := false) (et_is (et_test (ev_op (ev_var (i := 1) rfl) ev_c (fun G e Q' q' => ⟨rfl, q' G (Ex.refl _)⟩))) (decide_eq_false fun z => nomatch z)) (fun z => nomatch z) fun _ H2 e2 => ?_
      refine ⟨_, rfl, t, _, rfl, SqT.of (e2 _ _ ht), rfl, _, _, rfl, _, _, rfl, _, _, rfl, rfl, ?_⟩
      have e02 := e1.trans e2
      have T2 := hT.ex e02
      have ha2 := e2 _ _ ha
      have hb2 := e2 _ _ hbb
      obtain ⟨a0, r0, _, _, hh0, hl0, at0⟩ := T2.row0
      refine ⟨fun σ' H' => σ' = [some (.ref p), some (.ref t), some (.ref a), some (.ref b), some (.int (Bs.val R rs cs)), some (.int w), none, none, none, none, none, none, none] ∧ Ex H2 H', ?_, ?_⟩
      · exact (ev_is (ev_len (K := K) (ev_op (ev_var (i := 0) rfl) ev_c (rv_ixL (SqL.of T2.tab.1) at0)) (SqL.of hh0)) (show V.int ((r0.map V.int).length : Nat) = .int (w : Nat) by rw [List.length_map, hl0])) H2 (Ex.refl _) _ fun H3 e3 => ⟨rfl, e3⟩
      rintro _ H3 ⟨rfl, e3⟩
      have e03 := e02.trans e3
      have sl : (Bs.sub R rs cs).length = rs.length := sub_len R rs cs
      have sw : ∀ r ∈ Bs.sub R rs cs, r.length = rs.length := fun r hr => by rw [sub_wid R rs cs r hr, B.cl]
      have hv0 := Bs.val_eq R B.cl
      -- rests
      refine ⟨fun σ' H' => ∃ (q : Addr) (qs : List Addr), σ' = [some (.ref p), some (.ref t), some (.ref a), some (.ref b), some (.int (Bs.val R rs cs)), some (.int w), some (.ref q), none, none, none, none, none, none] ∧ FrL H' q qs (restsQ (Bs.sub R rs cs) rs.length) ∧ Ex H3 H', ?_, ?_⟩
      · refine ⟨_, rfl, _, rfl, _, rfl, p, a, b, as, R, m, w, Sg.zs rs, Sg.zs cs, rfl, hT.ex e03, e3 _ _ ha2, rising_zs B.ur B.mr, zs_ne B.r0, e3 _ _ hb2, rising_zs B.uc B.mc, zs_ne c0, by rw [zs_len]; omega, by rw [zs_len]; omega, fun u us H4 nu nus ndu nuu e4 h4 => ?_⟩
        rw [piece_sub] at h4
        exact ⟨u, us, _, rs.length, Bs.val R rs cs, rfl, ⟨h4, sl, sw, by omega, by omega, by omega, by omega⟩, by omega, sub_bd35 hb, hv0, B.bad, bD, fun q qs H5 nq e5 hq => ⟨q, qs, rfl, hq, e4.trans e5⟩⟩
      rintro _ H4 ⟨q, qs, rfl, hq, e4⟩
      have rlen : (restsQ (Bs.sub R rs cs) rs.length).length = rs.length := restsQ_len sl sw hv0 B.bad
      -- x
      refine ⟨fun σ' H' => ∃ (x : Addr) (es : List Addr), σ' = [some (.ref p), some (.ref t), some (.ref a), some (.ref b), some (.int (Bs.val R rs cs)), some (.int w), some (.ref q), some (.ref x), none, none, none, none, none] ∧ FrL H' x es (xQ R w rs cs) ∧ H4 x = none ∧ Ex H4 H', ?_, ?_⟩
      · exact ⟨_, rfl, _, rfl, _, rfl, q, b, qs, _, cs, w, rfl, hq, (e3.trans e4) _ _ hb2, by rw [rlen, B.cl], by rw [rlen]; omega, by omega, B.mc, fun x es H5 nx e5 hx => ⟨x, es, rfl, hx, nx, e5⟩⟩
      rintro _ H5 ⟨x, es, rfl, hx, nx, e5⟩
      have xb := xQ_bd B (by omega) hb bD
      have xl : (xQ R w rs cs).length = w := sprd_len _ _ _
      have e05 := e03.trans (e4.trans e5)
      have b110 : ∀ r ∈ R, ∀ y ∈ r, Bd 110 y := fun r hr y hy => (hb r hr y hy).mono (by decide)
      have b210 : ∀ r ∈ R, ∀ y ∈ r, Bd 210 y := fun r hr y hy => (hb r hr y hy).mono (by decide)
      -- bounds
      refine ⟨fun σ' H' => ∃ bo : Addr, σ' = [some (.ref p), some (.ref t), some (.ref a), some (.ref b), some (.int (Bs.val R rs cs)), some (.int w), some (.ref q), some (.ref x), some (.ref bo), none, none, none, none] ∧ H' bo = some (.lst ((boundL R (xQ R w rs cs)).map V.int)) ∧ H5 bo = none ∧ Ex H5 H', ?_, ?_⟩
      · refine s_asgL (xs := (boundL R (xQ R w rs cs)).map V.int) ?_ fun bo H6 nbo e6 hbo => ⟨bo, rfl, hbo, nbo, e6⟩
        have eb : boundL R (xQ R w rs cs) = (R.map fun r => fsum r (xQ R w rs cs)).map fun q => -((-q.num) / (q.den : Int)) := by
          unfold boundL
          rw [List.map_map]
          rfl
        rw [eb]
        refine el_frI (K := K) (fun q => -((-q.num) / (q.den : Int))) (fun H6 e6 Q6 q6 => ⟨_, rfl, _, rfl, p, x, as, es, R, m, w, _, rfl, hT.ex (e05.trans e6), hx.ex e6, xl, b210, fun q hq => ⟨(xb q hq).1.mono (by decide), (xb q hq).2.mono (by decide)⟩, fun c cs' H7 nc e7 hc => q6 c cs' H7 e7 hc⟩) (by rw [List.length_map, hT.m_]; omega) (fun u => rfl) fun c y H6 hy hc e6 => ?_
        obtain ⟨r, hr, rfl⟩ := List.mem_map.mp hy
        exact ev_fn (sp := sp_ceiling_of K) (ea_cons (ev_var (i := 10) rfl) ea_nil) fun H7 e7 Q7 q7 => ⟨c, _, _, rfl, e7 _ _ hc, Fq.dpos _, sum_bd35 (b110 r hr) xb (by omega), q7 H7 (Ex.refl _)⟩
      rintro _ H6 ⟨bo, rfl, hbo, nbo, e6⟩
      have e06 := e05.trans e6
      have T6 := hT.ex e06
      have ha6 := (e3.trans (e4.trans (e5.trans e6))) _ _ ha2
      have hb6 := (e3.trans (e4.trans (e5.trans e6))) _ _ hb2
      -- gains
      refine ⟨fun σ' H' => ∃ g : Addr, σ' = [some (.ref p), some (.ref t), some (.ref a), some (.ref b), some (.int (Bs.val R rs cs)), some (.int w), some (.ref q), some (.ref x), some (.ref bo), some (.ref g), none, none, none] ∧ H' g = some (.lst (((List.range w).map (gainF R rs cs)).map V.int)) ∧ H6 g = none ∧ Ex H6 H', ?_, ?_⟩
      · refine s_asgL (xs := ((List.range w).map (gainF R rs cs)).map V.int) (el_rng (m := w) (gainF R rs cs) (ea_cons (ev_var (i := 5) rfl) ea_nil) (by omega) (fun x => rfl) (fun j H7 e7 hj => ?_)) fun g H7 ng e7 hg => ⟨g, rfl, hg, ng, e7⟩
        refine ev_op (x := .int ((rs.map fun i => Dt.at_ R i j).sum)) (y := .int (if (Sg.zs cs).contains (j : Int) = true then 0 else 1)) ?_ ?_ rv_I0
        · have es : (rs.map fun i => Dt.at_ R i j) = (Sg.zs rs).map fun y => Dt.at_ R y.toNat j := by
            unfold Sg.zs
            rw [List.map_map]
            rfl
          rw [es]
          refine ev_sumL (el_mapI (K := K) (n := 2) (fun y => Dt.at_ R y.toNat j) rfl (e7 _ _ ha6) (by rw [zs_len]; omega) (fun u => rfl) fun y H8 hy e8 => ?_)
          unfold Sg.zs at hy
          obtain ⟨i, hi, rfl⟩ := List.mem_map.mp hy
          have T8 := T6.ex (e7.trans e8)
          obtain ⟨ai, ri, h1, h2, h3, h4⟩ := T8.row (i := (i : Int)) (by omega) (by have := B.mr i hi; omega)
          rw [Int.toNat_natCast] at h2
          rw [Int.toNat_natCast]
          have ent : Dt.at_ R i j = ri[j]?.getD 0 := by
            show (R[i]?.getD [])[j]?.getD 0 = _
            rw [h2]
            rfl
          rw [ent]
          exact ev_op (ev_op (ev_var (i := 0) rfl) (ev_var (i := 12) rfl) (rv_ixL (SqL.of T8.tab.1) h1)) (ev_var (i := 11) rfl) (rv_ixL (SqL.of h3) (atI_row (by omega)))
        · refine ev_if (b := (Sg.zs cs).contains (j : Int)) (et_is (et_test (ev_op (ev_var (i := 11) rfl) (ev_var (i := 3) rfl) (rv_isL (SqL.of (e7 _ _ hb6)) rfl (flat_ints _)))) inV_has) (fun h => ?_) (fun h => ?_)
          · rw [if_pos h]
            exact ev_c
          · rw [if_neg (by rw [h]; decide)]
            exact ev_c
      rintro _ H7 ⟨g, rfl, hg, ng, e7⟩
      have e07 := e06.trans e7
      refine s_retU (eu_tup (ea_cons (ev_var (i := 8) rfl) (ea_cons (ev_var (i := 9) rfl) (ea_cons (ev_var (i := 7) rfl) ea_nil))) (Nat.le_of_ble_eq_true rfl)) fun r H8 nr e8 hr => k _ H8 (e07.trans e8) ?_
      have e48 := e6.trans (e7.trans e8)
      exact ⟨r, bo, g, x, es, rfl, hr, (e7.trans e8) _ _ hbo, e8 _ _ hg, hx.ex e48, fresh_back e05 nbo, fresh_back e06 ng, fresh_back (e03.trans e4) nx⟩
-- DEF _law_minor
theorem at_row_ {rows : List (List Int)} {i : Nat} {r : List Int} (h : rows[i]? = some r) (b : Nat) : Dt.at_ rows i b = r[b]?.getD 0 := by
  unfold Dt.at_
  rw [h]
  rfl
theorem get_i {ns : List Int} {i : Nat} {y : Int} (h : ns[i]? = some y) : ns[i]?.getD 0 = y := by rw [h]; rfl
theorem mem_i {ns : List Int} {j : Nat} (h : j < ns.length) : ns[j]?.getD 0 ∈ ns := by
  rw [List.getElem?_eq_getElem h]
  exact List.getElem_mem _

theorem six_at {n j : Nat} (hj : j < n) (h8 : n ≤ 8) : HT.sIx n n (some (j : Int)) = j := by
  have hn : n = 1 ∨ n = 2 ∨ n = 3 ∨ n = 4 ∨ n = 5 ∨ n = 6 ∨ n = 7 ∨ n = 8 := by omega
  have hm : j = 0 ∨ j = 1 ∨ j = 2 ∨ j = 3 ∨ j = 4 ∨ j = 5 ∨ j = 6 ∨ j = 7 := by omega
  rcases hn with rfl | rfl | rfl | rfl | rfl | rfl | rfl | rfl <;> rcases hm with rfl | rfl | rfl | rfl | rfl | rfl | rfl | rfl <;> first | rfl | omega
theorem six_at1 {n j : Nat} (hj : j < n) (h8 : n ≤ 8) : HT.sIx n 0 (some ((j : Int) + 1)) = j + 1 := by
  have hn : n = 1 ∨ n = 2 ∨ n = 3 ∨ n = 4 ∨ n = 5 ∨ n = 6 ∨ n = 7 ∨ n = 8 := by omega
  have hm : j = 0 ∨ j = 1 ∨ j = 2 ∨ j = 3 ∨ j = 4 ∨ j = 5 ∨ j = 6 ∨ j = 7 := by omega
  rcases hn with rfl | rfl | rfl | rfl | rfl | rfl | rfl | rfl <;> rcases hm with rfl | rfl | rfl | rfl | rfl | rfl | rfl | rfl <;> first | rfl | omega
theorem lc_rowsE {K : PySem.W.Frag} {tl te : TE} {vs : List Nat} {j : Nat} {σ : L2.St} {Hz : Hp} {Q : VK} {as0 : List Addr} {rows : List (List Int)} (F : List Int → List Int) (hl : EvL tl σ Hz (as0.map V.ref)) (ht0 : RowsAt Hz as0 rows) (hm : rows.length ≤ 1000) (hw : ∀ u, wipe ((wipe σ vs).set j (some u)) vs = wipe σ vs)
    (he : ∀ c r H1, r ∈ rows → H1 c = some (.lst (r.map V.int)) → Ex Hz H1 → EvL te ((wipe σ vs).set j (some (.ref c))) H1 ((F r).map V.int))
    (k : ∀ p as H2, Hz p = none → (∀ a ∈ as, Hz a = none) → as.Nodup → p ∉ as → Ex Hz H2 → Tab H2 p as (rows.map F) → Q (.ref p) H2) : tLc (iList K tl) (gName j) tYes te vs σ Hz Q := by
  refine hl Hz (Ex.refl Hz) _ fun a H na e0 ha => ⟨a, rfl, ⟨_, SqL.of ha⟩, fun D hD => ?_⟩
  have ht : Tab H a as0 rows := ⟨ha, ht0.ex e0⟩
  replace he : ∀ c r H1, r ∈ rows → H c = some (.lst (r.map V.int)) → Ex H H1 → EvL te ((wipe σ vs).set j (some (.ref c))) H1 ((F r).map V.int) := fun c r H1 hr hc e1 => he c r H1 hr (e1 _ _ hc) (e0.trans e1)
  replace k : ∀ p as H2, H p = none → (∀ a ∈ as, H a = none) → as.Nodup → p ∉ as → Ex H H2 → Tab H2 p as (rows.map F) → Q (.ref p) H2 := fun p as H2 np nas nd npas e t => k p as H2 (fresh_back e0 np) (fun a ha => fresh_back e0 (nas a ha)) nd npas (e0.trans e) t
  refine lc_list (K := K) (a := a) (xs := as0.map V.ref) (fun i H' => ∃ as, Ex H H' ∧ H' D = some (.lst (as.map V.ref)) ∧ RowsAt H' as ((rows.take i).map F) ∧ (∀ a ∈ as, H a = none) ∧ as.Nodup ∧ D ∉ as) ⟨[], Ex.new hD, upd_same, .nil, fun a ha => by simp at ha, List.nodup_nil, by simp⟩ (fun i H' _ ⟨_, p1, _⟩ => SqL.of (p1 _ _ ht.1)) (fun i x H' gx p => ?_) (fun H' p => ?_)
  · obtain ⟨as, p1, p2, p3, p4, p5, p6⟩ := p
    rw [List.getElem?_map] at gx
    obtain ⟨c0, hc0, rfl⟩ := Option.map_eq_some_iff.mp gx
    obtain ⟨y, hy, hh⟩ := paired_get ht.2 hc0
    have hi := (List.getElem?_eq_some_iff.mp hy).1
    have el : as.length = i := by rw [Paired.length p3, List.length_map, List.length_take]; omega
    refine ⟨hw _, ?_⟩
    show te _ H' _
    refine he c0 y H' (List.mem_of_getElem? hy) hh p1 H' (Ex.refl _) _ fun r H4 nr e4 hr => ?_
    have nrD : r ≠ D := fun z => by
      rw [z, p2] at nr
      cases nr
    refine ⟨_, e4 _ _ p2, ?_, as ++ [r], Ex.mut (p1.trans e4) hD, ?_, ?_, ?_, ?_, ?_⟩
    · rw [List.length_map, el]
      exact small1000 (by omega)
    · rw [upd_same, List.map_append]
      rfl
    · rw [take_snoc hy, List.map_append]
      refine paired_snoc (rows_but p3 fun b hb o g => ?_) ?_
      · rw [upd_ne (fun z => p6 (by rw [← z]; exact hb))]
        exact e4 _ _ g
      · rw [upd_ne nrD]
        exact hr
    · intro b hb
      rcases List.mem_append.mp hb with h | h
      · exact p4 b h
      · rw [show b = r by simpa using h]
        exact fresh_back p1 nr
    · refine List.nodup_append.mpr ⟨p5, by simp, fun b hb c hc z => ?_⟩
      have : c = r := by simpa using hc
      have hb' : r ∈ as := by rw [← this, ← z]; exact hb
      obtain ⟨x, _, hx'⟩ := paired_mem p3 hb'
      rw [nr] at hx'
      cases hx'
    · intro hb
      rcases List.mem_append.mp hb with h | h
      · exact p6 h
      · exact nrD (by simpa using h : D = r).symm
  · obtain ⟨as, p1, p2, p3, p4, p5, p6⟩ := p
    rw [List.length_map, Paired.length ht.2, List.take_length] at p3
    exact k D as H' hD p4 p5 p6 p1 ⟨p2, p3⟩
theorem at_bd {B : Nat} {rows : List (List Int)} {a b : Nat} (h : ∀ r ∈ rows, ∀ y ∈ r, Bd B y) : Bd B (Dt.at_ rows a b) := by
  unfold Dt.at_
  cases e : rows[a]? with
  | none => exact bd_zero
  | some r =>
    show Bd B (r[b]?.getD 0)
    cases e2 : r[b]? with
    | none => exact bd_zero
    | some y => exact h r (List.mem_of_getElem? e) y (List.mem_of_getElem? e2)
theorem cut_outV (ns : List Int) {j : Nat} (hj : j < ns.length) (h8 : ns.length ≤ 8) : cutV (ns.map V.int) none (some (j : Int)) ++ cutV (ns.map V.int) (some ((j : Int) + 1)) none = (ns.take j ++ ns.drop (j + 1)).map V.int := by
  have e0 : HT.sIx (ns.map V.int).length 0 none = 0 := rfl
  have e1 : HT.sIx (ns.map V.int).length (ns.map V.int).length none = (ns.map V.int).length := rfl
  have e2 : HT.sIx (ns.map V.int).length (ns.map V.int).length (some (j : Int)) = j := by
    rw [List.length_map]
    exact six_at hj h8
  have e3 : HT.sIx (ns.map V.int).length 0 (some ((j : Int) + 1)) = j + 1 := by
    rw [List.length_map]
    exact six_at1 hj h8
  unfold cutV
  rw [e0, e1, e2, e3, List.drop_zero, Nat.sub_zero, List.map_append, List.map_take, List.map_drop]
  congr 1
  exact List.take_of_length_le (by rw [List.length_drop, List.length_map]; exact Nat.le_refl _)
theorem paired_drop {α β : Type} {R : α → β → Prop} : ∀ {xs : List α} {ys : List β} (n : Nat), Paired R xs ys → Paired R (xs.drop n) (ys.drop n)
  | _, _, 0, h => h
  | _, _, n + 1, .nil => by rw [List.drop_nil, List.drop_nil]; exact .nil
  | _, _, n + 1, .cons a t => paired_drop n t
theorem sign_at {i j : Nat} : atI [V.int 1, .int (-1)] (((i : Int) + (j : Int)) % 2) = some (.int (Dt.sgn2 i j)) := by
  have h : (((i : Int) + (j : Int)) % 2) = (((i + j) % 2 : Nat) : Int) := by omega
  rw [h]
  unfold Dt.sgn2
  rcases (show (i + j) % 2 = 0 ∨ (i + j) % 2 = 1 by omega) with g | g
  · rw [g, if_pos rfl]
    rfl
  · rw [g, if_neg (by decide)]
    rfl

theorem sign_at1 {j : Nat} : atI [V.int 1, .int (-1)] ((j : Int) % 2) = some (.int (Dt.sgn2 0 j)) := by
  have h := sign_at (i := 0) (j := j)
  rw [show ((0 : Nat) : Int) + (j : Int) = (j : Int) by omega] at h
  exact h
theorem sgn0 (j : Nat) : ((Dt.sgn2 0 j : Int) : Rat) = Dt.sg j := by
  rw [Dt.sgn2_eq]
  show 1 * Dt.sg j = _
  exact Rat.one_mul _
theorem bd_sgn2 (i j : Nat) : Bd 1 (Dt.sgn2 i j) := by unfold Dt.sgn2; split <;> unfold Bd <;> decide
theorem rest0 (R : List (List Int)) (j : Nat) : Dt.restT R 0 j = (R.drop 1).map fun r => r.take j ++ r.drop (j + 1) := rfl
theorem minor_rest {R : List (List Int)} {n j : Nat} (hl : R.length = n + 1) (hw : ∀ r ∈ R, r.length = n + 1) (hj : j < n + 1) : Dt.det n (Dt.minor (Dt.mx R) j) = Dt.det n (Dt.mx (Dt.restT R 0 j)) := Dt.det_congr fun a b ha hb => by
  show ((Dt.at_ R (a + 1) (Dt.skip j b) : Int) : Rat) = ((Dt.at_ (Dt.restT R 0 j) a b : Int) : Rat)
  have e := Dt.rest_at hl hw (i := 0) (by omega) hj a b (by unfold Dt.skip; split <;> omega)
  rw [e, show Dt.skip 0 a = a + 1 from Dt.skip_ge (Nat.zero_le _)]
theorem cut_drop1 (l : List Addr) (h : 1 ≤ l.length) (h8 : l.length ≤ 8) : cutV (l.map V.ref) (some 1) none = (l.drop 1).map V.ref := by
  have e1 : HT.sIx (l.map V.ref).length (l.map V.ref).length none = (l.map V.ref).length := rfl
  have e3 : HT.sIx (l.map V.ref).length 0 (some (1 : Int)) = 1 := by
    rw [List.length_map]
    exact six_at1 (j := 0) (by omega) h8
  unfold cutV
  rw [e1, e3, List.map_drop]
  exact List.take_of_length_le (by rw [List.length_drop]; exact Nat.le_refl _)



def lolD (rows : List (List Int)) : PyData := .list (rows.map fun r => .list (r.map .int))
theorem eqv_lol (rows : List (List Int)) : PyData.eqv (lolD rows) (.list []) = rows.isEmpty := by
  unfold lolD
  rw [eqv_nil]
  cases rows <;> rfl
theorem ev_eqNilT {K : PySem.W.Frag} {ta : TE} {σ : L2.St} {H : Hp} {p : Addr} {as : List Addr} {rows : List (List Int)} (ha : Ev ta σ H (.ref p)) (hT : Tab H p as rows) : Ev (tOp (rEqD K) ta (tLst tNil)) σ H (.bl rows.isEmpty) := fun H1 e Q k =>
  ha H1 e _ fun H2 e2 => (el_lst (σ := σ) ea_nil (Nat.zero_le _)) H2 (Ex.refl _) _ fun p' H3 np e3 hp => by
    have eA := (e.trans e2).trans e3
    refine ⟨lolD rows, _, .lst (SqL.of (eA _ _ hT.1)) (dp_rows (hT.2.ex eA)), .lst (SqL.of hp) .nil, shaped_list (canLay_rows rows) (Nat.le_trans (depth_rows rows) (by decide)), rfl, ?_⟩
    rw [eqv_lol]
    exact k H3 (e2.trans e3)

def sp__law_minor (K : PySem.W.Frag) (N : Nat) : Sp := fun vs H Q _ => ∃ (p : Addr) (as : List Addr) (rows : List (List Int)) (n b : Nat), vs = [.ref p] ∧ Tab H p as rows ∧ rows.length = n ∧ (∀ r ∈ rows, r.length = n) ∧ n < N ∧ n ≤ 8 ∧ (0 < b ∧ b ≤ 200) ∧ (∀ r ∈ rows, ∀ y ∈ r, Bd b y) ∧
  ∀ (d : Int) H', ((d : Int) : Rat) = Dt.det n (Dt.mx rows) → Bd (n * (b + 12) + 1) d → Ex H H' → Q (.int d) H'
theorem zero__law_minor {K : PySem.W.Frag} {vs : List V} {H : Hp} {Q : VK} {E : XK} (h : sp__law_minor K 0 vs H Q E) : False := by
  obtain ⟨_, _, _, _, _, _, _, _, _, hn, _⟩ := h
  omega

theorem okr__law_minor (T : Txt K mg) : ∀ n : Nat, FnOk P w K mg base CX0 (n + 1) T.f__law_minor T.fd__law_minor ["_law_rows"] (sp__law_minor K n)
  | 0 => ⟨fun vs H Q E h => (zero__law_minor h).elim, fun A outer s H args us vs Q E hr e0 hb r h => (zero__law_minor h).elim⟩
  | n + 1 => by
    have ih := okr__law_minor T n
    refine Fun.ok T.F__law_minor sc__law_minor (fun vs H Q E h => ?_) (fun cdv A outer s H vs Q E hr h => ?_)
    · obtain ⟨_, _, _, _, _, rfl, _⟩ := h; rfl
    · refine ⟨_, (pss_cons (ps_if (pt_cmpR (r := rEqD K) (op_eqD hr.units) (pv 0) (pe_lst pa_nil) (nomark _))
        (pss_one (ps_ret pe_int))
        pss_nil)
      (pss_cons (ps_set (i := 1) sc__law_minor.nd rfl (by first | exact Or.inl rfl | exact Or.inr rfl) pe_int)
      (pss_cut (ps_for PassesOwn.never rfl (pi_range1 (by rfl) T.n_range (pa_cons (pe_callB (id := "len") (r := rLenS K) call_len_seq (by rfl) T.n_len PySem.boot_len (pa_cons (pv 0) pa_nil)) pa_nil)) (pg_name (i := 2) sc__law_minor.nd rfl (by first | exact Or.inl rfl | exact Or.inr rfl))
        (pss_one (ps_if (pt_cmpR op_ne (pe_ix (r := rIxL K) ix_list (pe_ix (r := rIxL K) ix_list (pv 0) pe_int (fun _ _ => rfl)) (pv 2) (fun _ _ => rfl)) pe_int (nomark _))
            (pss_cut (ps_setLc (i := 3) (own := [("_law_row", 4)]) (wi := iList K _) (g := gName 4) (tt := tYes) rfl sc__law_minor.nd rfl rfl (sw_true rfl rfl rfl (by decide +kernel)) (pi_list (pe_slice (r := rSlL K) sl_list (pv 0) (po_some pe_int) po_none)) (blkOk_by (N := ["_law_rows", "_law_found", "_law_k", "_law_rest", "_law_row"]) (sc := (defScope s__law_minor)) (by decide +kernel)) (fun _ _ _ _ _ => pg_name (i := 4) sc__law_minor.nd rfl (Or.inl rfl)) (fun _ _ _ _ _ => pts_nil) (fun _ _ _ _ _ => (pe_op op_cat (pe_slice (r := rSlL K) sl_list (pv 4) po_none (po_some (pv 2))) (pe_slice (r := rSlL K) sl_list (pv 4) (po_some (pe_op op_add (pv 2) pe_int)) po_none))))
              (pss_one (ps_set (i := 1) sc__law_minor.nd rfl (by first | exact Or.inl rfl | exact Or.inr rfl) (pe_op op_add (pv 1) (pe_op op_mulW (pe_op op_mulW (pe_op op_sub pe_int (pe_op op_mulW pe_int (pe_op op_mod (pv 2) pe_int))) (pe_ix (r := rIxL K) ix_list (pe_ix (r := rIxL K) ix_list (pv 0) pe_int (fun _ _ => rfl)) (pv 2) (fun _ _ => rfl))) (pe_call ih hr (by rfl) T.g__law_minor T.k__law_minor T.b__law_minor .nil pass0 (pa_cons (pv 3) pa_nil)))))))
            pss_nil)))
      (pss_one (ps_ret (pv 1)))))), ?_⟩
      obtain ⟨p, as, rows, m, b, rfl, hT0, hm, hw, hn, h8, hbb, hb, k⟩ := h
      refine q_when (b := rows.isEmpty) (et_test (ev_eqNilT (ev_var (i := 0) rfl) hT0)) (fun z H1 e1 => ?_) (fun z H1 e1 => ?_)
      · have z : rows = [] := List.isEmpty_iff.mp z
        rw [z] at hm
        have hm : m = 0 := hm.symm
        subst hm
        refine s_ret (v := .int 1) ev_c fun H2 e2 => k 1 H2 rfl ?_ (e1.trans e2)
        rw [Nat.zero_mul]
        unfold Bd
        decide
      have rne : rows ≠ [] := fun y => by rw [y] at z; cases z
      have m1 : 1 ≤ m := by rw [← hm]; exact List.length_pos_iff.mpr rne
      obtain ⟨n', rfl⟩ : ∃ n', m = n' + 1 := ⟨m - 1, by omega⟩
      have hT : TabOk H p as rows (n' + 1) (n' + 1) := ⟨hT0, hm, hw, by omega, h8, by omega, h8⟩
      have hd := hT.b
      obtain ⟨a0, r0, ha0, hr0, hh0, hl0, at0⟩ := hT.row0
      have b0 : ∀ y ∈ r0, Bd b y := hb _ (List.mem_of_getElem? hr0)
      refine q_asg (v := .int 0) ev_c fun H2 e2 => ?_
      have hT2 := hT.ex (e1.trans e2)
      refine ⟨fun σ' H' => ∃ (wth : Int) (y2 y3 : Option V), σ' = [some (.ref p), some (.int wth), y2, y3, none] ∧ Ex H2 H' ∧ ((wth : Int) : Rat) = Dt.det (n' + 1) (Dt.mx rows) ∧ Bd (n' * (b + 12) + b + 4 + (n' + 1)) wth, ?_, ?_⟩
      rotate_left
      · rintro σ' H3 ⟨wth, y2, y3, rfl, e3, h1, h2⟩
        refine s_ret (ev_var rfl) fun H4 e4 => k wth H4 h1 (h2.mono ?_) ((e1.trans e2).trans (e3.trans e4))
        rw [Nat.add_mul]
        omega
      have e3 : Ex H2 H2 := Ex.refl _
      have hh3 := (e1.trans e2) _ _ hh0
      refine s_forR1 (n := ((n' + 1 : Nat) : Int)) (ea_cons (ev_is (ev_len (ev_var (i := 0) rfl) (SqL.of hT2.tab.1)) (by rw [List.length_map, hT2.al])) ea_nil) (by omega) (fun i σ H' => ∃ (wth : Int) (y2 y3 : Option V), σ = [some (.ref p), some (.int wth), y2, y3, none] ∧ Ex H2 H' ∧ ((wth : Int) : Rat) = Dt.sm i (fun j => Dt.sg j * Dt.mx rows 0 j * Dt.det n' (Dt.minor (Dt.mx rows) j)) ∧ Bd (n' * (b + 12) + b + 4 + i) wth) (fun H3 e3' => ⟨0, _, _, rfl, e3', rfl, bd_zero⟩) ?_ ?_
      rotate_left
      · rintro σ H4 ⟨wth, y2, y3, rfl, e4, h1, h2⟩
        rw [Int.toNat_natCast] at h1 h2
        exact ⟨wth, y2, y3, rfl, e3.trans e4, h1, h2⟩
      rintro i σ H4 hilt ⟨wth, y2, y3, rfl, e4, h1, h2⟩
      have hi : i < r0.length := by rw [hl0]; omega
      obtain ⟨e, he⟩ : ∃ e, r0[i]? = some e := ⟨_, List.getElem?_eq_getElem hi⟩
      have me : Dt.mx rows 0 i = ((e : Int) : Rat) := by
        show ((Dt.at_ rows 0 i : Int) : Rat) = _
        rw [at_row_ hr0, get_i he]
      have e5 := e4
      have step : Dt.sm (i + 1) (fun j => Dt.sg j * Dt.mx rows 0 j * Dt.det n' (Dt.minor (Dt.mx rows) j)) = ((wth : Int) : Rat) + Dt.sg i * ((e : Int) : Rat) * Dt.det n' (Dt.minor (Dt.mx rows) i) := by
        show Dt.sm i _ + Dt.sg i * Dt.mx rows 0 i * _ = _
        rw [← h1, me]
      have hT4 := hT2.ex e4
      have hh4 := e4 _ _ hh3
      have ate : atI (r0.map V.int) (i : Int) = some (.int e) := by
        rw [atI_row hi, he]
        rfl
      have evE : ∀ {G : Hp} {σ : L2.St}, σ[0]? = some (some (.ref p)) → σ[2]? = some (some (.int (i : Int))) → Ex H4 G → Ev (tOp (rIxL K) (tOp (rIxL K) (tVar 0) (tC (.int 0))) (tVar 2)) σ G (.int e) := fun h0 h2' eG => ev_op (ev_op (ev_var h0) ev_c (rv_ixL (SqL.of (hT4.ex eG).tab.1) at0)) (ev_var h2') (rv_ixL (SqL.of (eG _ _ hh4)) ate)
      refine s_when (b := !decide (e = 0)) (et_is (et_test (ev_op (evE rfl rfl (Ex.refl _)) ev_c (rv_ne rfl))) ?_) (fun c H5 e6 => ?_) (fun c H5 e6 => ?_)
      · congr 1
        exact decide_eq_decide.mpr ⟨fun z => V.int.inj z, fun z => by rw [z]⟩
      rotate_left
      · have c : e = 0 := by
          by_cases c1 : e = 0
          · exact c1
          · rw [decide_eq_false c1] at c
            cases c
        refine ⟨wth, _, _, rfl, e5.trans e6, ?_, h2.mono (by omega)⟩
        rw [step, c]
        show _ = _ + Dt.sg i * (0 : Rat) * _
        grind
      have hT5 := (hT2.ex e3).ex (e5.trans e6)
      have al := hT5.al
      have rr := hT5.m_
      refine ⟨fun σ' H' => ∃ (q : Addr) (qs : List Addr), σ' = [some (.ref p), some (.int wth), some (.int (i : Int)), some (.ref q), none] ∧ Ex H5 H' ∧ Tab H' q qs (Dt.restT rows 0 i), ?_, ?_⟩
      · have sl := el_sl (K := K) (te := tVar 0) (tl := tPart (tC (.int 1))) (th := tNoPart) (σ := [some (.ref p), some (.int wth), some (.int (i : Int)), y3, none]) (ev_var rfl) (eo_some ev_c) eo_none (SqL.of hT5.tab.1)
        rw [cut_drop1 as (by omega) (by omega)] at sl
        refine lc_rowsE (K := K) (F := fun r => r.take i ++ r.drop (i + 1)) sl (paired_drop 1 hT5.tab.2) (by rw [List.length_drop]; omega) (fun u => rfl) (fun c r H6 hr hc e7 => ?_) (fun q qs H6 _ _ _ _ e7 h => ⟨q, qs, rfl, e7, h⟩)
        have lr := hT.w_ r (List.mem_of_mem_drop hr)
        have c3 := cutV_length (r.map V.int) none (some (i : Int))
        have c4 := cutV_length (r.map V.int) (some ((i : Int) + 1)) none
        rw [List.length_map] at c3 c4
        rw [← cut_outV r (by omega) (by omega)]
        exact el_cat (el_sl (K := K) (ev_var rfl) eo_none (eo_some (ev_var rfl)) (SqL.of hc)) (el_sl (K := K) (ev_var rfl) (eo_some (ev_op (ev_var rfl) ev_c rv_I0)) eo_none (SqL.of hc)) (by omega)
      rintro σ' H6 ⟨q, qs, rfl, e7, hR⟩
      have rl : (Dt.restT rows 0 i).length = n' := by rw [Dt.rest_len hT.m_ (by omega), Nat.add_sub_cancel]
      have rw_ : ∀ r ∈ Dt.restT rows 0 i, r.length = n' := fun r hr => by rw [Dt.rest_wid hT.w_ (by omega) r hr, Nat.add_sub_cancel]
      have be : Bd b e := b0 e (List.mem_of_getElem? he)
      refine ⟨_, rfl, ?_⟩
      have sv : (1 : Int) - 2 * ((i : Int) % 2) = Dt.sgn2 0 i := by
        unfold Dt.sgn2
        split <;> omega
      have sc : Ev (tOp (rI CMulW fun i j => .int (i * j)) (tOp (rI0 fun i j => .int (i - j)) (tC (.int 1)) (tOp (rI CMulW fun i j => .int (i * j)) (tC (.int 2)) (tOp (rI (fun _ j => 0 < j) fun i j => .int (i % j)) (tVar 2) (tC (.int 2))))) (tOp (rIxL K) (tOp (rIxL K) (tVar 0) (tC (.int 0))) (tVar 2))) [some (.ref p), some (.int wth), some (.int (i : Int)), some (.ref q), none] H6 (.int (Dt.sgn2 0 i * e)) := ev_op (ev_is (ev_op (x := .int 1) (y := .int (2 * ((i : Int) % 2))) ev_c (ev_op (x := .int 2) (y := .int ((i : Int) % 2)) ev_c (ev_op (x := .int (i : Int)) (y := .int 2) (ev_var rfl) ev_c (rv_I (by decide))) (rv_I (Bd.mulOk (a := 2) (b := 1) (by unfold Bd; decide) (by unfold Bd; omega)))) rv_I0) (congrArg V.int sv)) (evE rfl rfl (e6.trans e7)) (rv_I ((bd_sgn2 0 i).mulOk be (by decide) hbb.1 (by omega)))
      refine sc H6 (Ex.refl _) _ fun H7 e8 => ?_
      refine ⟨_, rfl, q, qs, _, n', b, rfl, hR.ex e8, rl, rw_, by omega, by omega, hbb, Dt.rest_mem hb, fun d H8 hdd bd e9 => ?_⟩
      have nb : n' * (b + 12) ≤ 8 * 212 := Nat.mul_le_mul (by omega) (by have := hbb.2; omega)
      refine ⟨_, _, rfl, rfl, ((bd_sgn2 0 i).mul be).mulOk bd (by omega) (by omega) (by omega), ?_⟩
      refine ⟨_, _, rfl, rfl, ?_⟩
      refine ⟨wth + Dt.sgn2 0 i * e * d, _, _, rfl, (e5.trans e6).trans (e7.trans (e8.trans e9)), ?_, ?_⟩
      · rw [step, Rat.intCast_add, Rat.intCast_mul, Rat.intCast_mul, sgn0, hdd, minor_rest hT.m_ hT.w_ (by omega)]
      · exact (Bd.add (h2 : Bd (n' * (b + 12) + b + 4 + i) wth) ((((bd_sgn2 0 i).mul be).mul bd).mono (by omega))).mono (by omega)
theorem ok__law_minor (T : Txt K mg) : FnOk P w K mg base CX0 7 T.f__law_minor T.fd__law_minor ["_law_rows"] (sp__law_minor K 6) := okr__law_minor T 6
-- DEF _law_solution

def sp__law_solution (K : PySem.W.Frag) : Sp := fun vs H Q _ => ∃ (p b : Addr) (as : List Addr) (S : List (List Int)) (t : List Int) (n : Nat) (D : Int), vs = [.ref p, .ref b] ∧ TabOk H p as S n n ∧ n ≤ 5 ∧ (∀ r ∈ S, ∀ y ∈ r, Bd 100 y) ∧ H b = some (.lst (t.map V.int)) ∧ t.length = n ∧ (∀ y ∈ t, Bd 100 y) ∧ ((D : Int) : Rat) = Dt.det n (Dt.mx S) ∧ D ≠ 0 ∧ Bd 700 D ∧
  ∀ q qs H', H q = none → Ex H H' → FrL H' q qs (solQ S n t) → Q (.ref q) H'

theorem ok__law_solution (T : Txt K mg) : FnOk P w K mg base CX0 8 T.f__law_solution T.fd__law_solution ["_law_rows", "_law_sides"] (sp__law_solution K) := by
  refine Fun.ok T.F__law_solution sc__law_solution (fun vs H Q E h => ?_) (fun cdv A outer s H vs Q E hr h => ?_)
  · obtain ⟨_, _, _, _, _, _, _, rfl, _⟩ := h; rfl
  · refine ⟨_, (pss_cut (ps_set (i := 2) sc__law_solution.nd rfl (by first | exact Or.inl rfl | exact Or.inr rfl) (pe_call (ok__law_minor T) hr (by rfl) T.g__law_minor T.k__law_minor T.b__law_minor .nil pass0 (pa_cons (pv 0) pa_nil)))
      (pss_cons (ps_if (pt_cmpR op_eq (pv 2) pe_int (nomark _))
        (pss_one (ps_ret pe_non))
        pss_nil)
      (pss_cons (ps_set (i := 3) sc__law_solution.nd rfl (by first | exact Or.inl rfl | exact Or.inr rfl) (pe_lst pa_nil))
      (pss_cons (ps_for PassesOwn.never rfl (pi_range1 (by rfl) T.n_range (pa_cons (pe_callB (id := "len") (r := rLenS K) call_len_seq (by rfl) T.n_len PySem.boot_len (pa_cons (pv 0) pa_nil)) pa_nil)) (pg_name (i := 4) sc__law_solution.nd rfl (by first | exact Or.inl rfl | exact Or.inr rfl))
        (pss_cut (ps_setLc (i := 5) (own := [("_law_row", 6), ("_law_side", 7)]) (wi := iZip K _) (g := gTup K 2 (gCons (gName 6) (gCons (gName 7) gNil))) (tt := tYes) rfl sc__law_solution.nd rfl rfl (sw_true rfl rfl rfl (by decide +kernel)) (pi_zip (by rfl) T.n_zip (pa_cons (pv 0) (pa_cons (pv 1) pa_nil))) (blkOk_by (N := ["_law_rows", "_law_sides", "_law_whole", "_law_found", "_law_k", "_law_other", "_law_row", "_law_side"]) (sc := (defScope s__law_solution)) (by decide +kernel)) (fun _ _ _ _ _ => (pg_tup rfl (pgs_cons (pg_name (i := 6) sc__law_solution.nd rfl (Or.inl rfl)) (pgs_cons (pg_name (i := 7) sc__law_solution.nd rfl (Or.inl rfl)) pgs_nil)))) (fun _ _ _ _ _ => pts_nil) (fun _ _ _ _ _ => (pe_op op_cat (pe_op op_cat (pe_slice (r := rSlL K) sl_list (pv 6) po_none (po_some (pv 4))) (pe_lst (pa_cons (pv 7) pa_nil))) (pe_slice (r := rSlL K) sl_list (pv 6) (po_some (pe_op op_add (pv 4) pe_int)) po_none))))
          (pss_one (ps_expr (pe_bm PySem.F.plainAttrs_list PySem.F.slot_list_append PySem.F.type_list_append mt_append (pv 3) (pa_cons (pe_call (ok__law_lowest T) (hr.mono (by decide)) (by rfl) T.g__law_lowest T.k__law_lowest T.b__law_lowest .nil pass0 (pa_cons (pe_call (ok__law_minor T) hr (by rfl) T.g__law_minor T.k__law_minor T.b__law_minor .nil pass0 (pa_cons (pv 5) pa_nil)) (pa_cons (pv 2) pa_nil))) pa_nil))))))
      (pss_one (ps_ret (pv 3))))))), ?_⟩
    obtain ⟨p, b, as, S, t, n, D, rfl, hT, n5, hb, hbt, ht, htb, hD, h0, bD, k⟩ := h
    have hd := hT.b
    refine ⟨fun σ' H' => σ' = [some (.ref p), some (.ref b), some (.int D), none, none, none, none, none] ∧ Ex H H', ?_, ?_⟩
    · refine ⟨_, rfl, p, as, S, n, 100, rfl, hT.tab, hT.m_, hT.w_, by omega, by omega, by decide, hb, fun d H1 hd _ e1 => ?_⟩
      have : d = D := Rat.intCast_inj.mp (hd.trans hD.symm)
      rw [this]
      exact ⟨rfl, e1⟩
    rintro _ H1 ⟨rfl, e1⟩
    refine q_when (b := false) (et_is (et_test (ev_op (ev_var (i := 2) rfl) ev_c (rv_eq rfl))) (decide_eq_false fun z => h0 (V.int.inj z))) (fun z => nomatch z) fun _ H2 e2 => ?_
    have e02 := e1.trans e2
    refine ⟨Nat.zero_le _, fun f nf => ?_⟩
    have xf := Ex.new (o := .lst []) nf
    have nfH := fresh_back e02 nf
    have T3 := hT.ex (e02.trans xf)
    refine (ev_is (ev_len (K := K) (ev_var (i := 0) rfl) (SqL.of T3.tab.1)) (show V.int ((as.map V.ref).length : Nat) = .int (n : Nat) by rw [List.length_map, T3.al])) _ (Ex.refl _) _ fun H3 e3 => ⟨_, rfl, by omega, by omega, for_range (lo := 0) (n := (n : Int).toNat) (fun i σ' H' => ∃ (y4 y5 : Option V) (es : List Addr), σ' = [some (.ref p), some (.ref b), some (.int D), some (.ref f), y4, y5, none, none] ∧ FrL H' f es ((List.range i).map fun k => Dt.det n (Dt.mx (repl S k t)) / Dt.det n (Dt.mx S)) ∧ Ex H H') ?_ ?_ ?_⟩
    · exact ⟨_, _, [], rfl, ⟨e3 _ _ upd_same, .nil⟩, (e02.trans xf).trans e3⟩
    · rintro i σ' H4 hi ⟨y4, y5, es, rfl, hF, e4⟩
      rw [Int.toNat_natCast] at hi
      rw [Int.zero_add]
      have T4 := hT.ex e4
      have el : es.length = i := by rw [Paired.length hF.2, List.length_map, List.length_range]
      refine ⟨fun σ' H' => ∃ (o : Addr) (os : List Addr), σ' = [some (.ref p), some (.ref b), some (.int D), some (.ref f), some (.int (i : Int)), some (.ref o), none, none] ∧ Tab H' o os (repl S i t) ∧ Ex H4 H', ?_, ?_⟩
      · refine lc_rowsZ2 (K := K) (xs := t) (rows := S) (fun r x => r.take i ++ [x] ++ r.drop (i + 1)) (ea_cons (ev_var (i := 0) rfl) (ea_cons (ev_var (i := 1) rfl) ea_nil)) (e4 _ _ hbt) T4.tab (by rw [ht, hT.m_]) (by omega) (fun u v => rfl) (fun x c r H5 hx hr hc e5 => ?_) fun o os H5 no nos ndo nDo e5 hT1 => ⟨o, os, rfl, hT1, e5⟩
        have rl := hT.w_ r hr
        have c1 := cut_to35 (xs := r.map V.int) (n := i) (by rw [List.length_map]; omega)
        have c2 := cut_fr35 (xs := r.map V.int) (n := i + 1) (by rw [List.length_map]; omega)
        rw [List.map_append, List.map_append, List.map_take, List.map_drop, ← c1, ← c2]
        exact ec_cat (ec_cat (el_sl35 (K := K) (lo := none) (hi := some (i : Int)) (ev_var (i := 6) rfl) eo_none (eo_some (ev_var (i := 4) rfl)) (e5 _ _ hc)) (el_lst (ea_cons (ev_var (i := 7) rfl) ea_nil) (Nat.le_of_ble_eq_true rfl)) (by rw [c1, List.length_take, List.length_map]; show min i r.length + 1 ≤ 100000; omega)) (el_sl35 (K := K) (lo := some ((i + 1 : Nat) : Int)) (hi := none) (ev_var (i := 6) rfl) (eo_some (ev_is (ev_op (ev_var (i := 4) rfl) ev_c rv_I0) (by rw [Int.natCast_add]; rfl))) eo_none (e5 _ _ hc)) (by rw [List.length_append, c1, c2, List.length_take, List.length_drop, List.length_map]; show min i r.length + 1 + (r.length - (i + 1)) ≤ 100000; omega)
      rintro _ H5 ⟨o, os, rfl, hO, e5⟩
      have hf5 := e5 _ _ hF.1
      refine ⟨_, rfl, .inl ⟨rfl, _, SqL.of hf5⟩, _, rfl, o, os, repl S i t, n, 100, rfl, hO, repl_len hT.m_ ht, repl_wid hT.w_ hi, by omega, by omega, by decide, repl_bd hb htb, fun d H6 hdt _ e6 => ?_⟩
      refine ⟨_, rfl, d, D, rfl, h0, bD.mono (by decide), fun r H7 nr e7 hr => ?_⟩
      rw [hdt, hD] at hr
      have e57 := e6.trans e7
      have hf7 := e57 _ _ hf5
      refine ⟨f, es.map V.ref, _, rfl, rfl, hf7, by rw [List.length_map, el]; exact small1000 (by omega), ?_⟩
      refine ⟨_, _, es ++ [r], rfl, ⟨by rw [upd_same, List.map_append]; rfl, ?_⟩, Ex.mut (e4.trans (e5.trans e57)) nfH⟩
      rw [List.range_succ, List.map_append]
      exact frs_upd35 (paired_snoc (hF.2.ex (e5.trans e57)) hr) hf7
    · rintro σ' H4 ⟨y4, y5, es, rfl, hF, e4⟩
      rw [Int.toNat_natCast] at hF
      exact s_ret (v := .ref f) (ev_var (i := 3) rfl) fun H5 e5 => k f es H5 nfH (e4.trans e5) (hF.ex e5)
-- DEF _law_bad
theorem ev_fnT {sp : Sp} {E : XK} {ta : TE} {σ : L2.St} {H : Hp} {rows : List (List Int)} {z : V} (h : ∀ H1, Ex H H1 → ∀ Q : VK, (∀ p as H2, Ex H1 H2 → Tab H2 p as rows → Q (.ref p) H2) → ta σ H1 Q) (hs : ∀ p as H1, Ex H H1 → Tab H1 p as rows → ∀ Q : VK, (∀ H2, Ex H1 H2 → Q z H2) → sp [.ref p] H1 Q E) : Ev (tCall sp [] E (tCons ta tNil)) σ H z := fun H1 e Q q => h H1 e _ fun p as H2 e2 hp => hs p as H2 (e.trans e2) hp Q fun H3 e3 => q H3 (e2.trans e3)
theorem ev_absI {ta : TE} {σ : L2.St} {H : Hp} {i : Int} (h : Ev ta σ H (.int i)) : Ev (tCB (fun xs H Q => ∃ i, xs = [.int i] ∧ Q (.int (if i < 0 then -i else i)) H) (tCons ta tNil)) σ H (.int (if i < 0 then -i else i)) := fun H1 e Q q => h H1 e _ fun H2 e2 => ⟨i, rfl, q H2 e2⟩
theorem for_call2 {K : PySem.W.Frag} {sp : Sp} {E : XK} {ta te : TE} {g : TG} {tb : TS} {D : Ends} {σ : L2.St} {H : Hp} (h : ta σ H fun v H1 => te σ H1 fun u H2 => sp [v, u] H2 (fun v2 H3 => tFor (iList K (tC v2)) g tb D σ H3) E) : tFor (iList K (tCall sp [] E (tCons ta (tCons te tNil)))) g tb D σ H := h
theorem sub_row (R : List (List Int)) (i : Nat) (cs : List Nat) : (Sg.zs cs).map (fun y => Dt.at_ R i y.toNat) = cs.map fun j => Dt.at_ R i j := by
  unfold Sg.zs
  rw [List.map_map]
  rfl
theorem sub_zs (R : List (List Int)) (rs cs : List Nat) : (Sg.zs rs).map (fun x => (Sg.zs cs).map fun y => Dt.at_ R x.toNat y.toNat) = Bs.sub R rs cs := by
  unfold Bs.sub
  show (Sg.zs rs).map _ = _
  have e : Sg.zs rs = rs.map fun (i : Nat) => (i : Int) := rfl
  rw [e, List.map_map]
  refine List.map_congr_left fun i _ => ?_
  exact sub_row R i cs
/-- None, or a tuple of the rows' and the columns' numbers -/
def BadC (H : Hp) (v : V) : Option (List Nat × List Nat) → Prop
  | none => v = .non
  | some x => ∃ t a b, v = .ref t ∧ H t = some (.tup [.ref a, .ref b]) ∧ H a = some (.lst ((Sg.zs x.1).map V.int)) ∧ H b = some (.lst ((Sg.zs x.2).map V.int))
def sp__law_bad (K : PySem.W.Frag) : Sp := fun vs H Q _ => ∃ (p : Addr) (as : List Addr) (R : List (List Int)) (m wd : Nat), vs = [.ref p] ∧ TabOk H p as R m wd ∧ (∀ r ∈ R, ∀ y ∈ r, Bd 100 y) ∧ m ≤ 5 ∧ wd ≤ 5 ∧ ∀ v H', Ex H H' → BadC H' v (Bs.bad R m wd) → Q v H'

theorem ok__law_bad (T : Txt K mg) : FnOk P w K mg base CX0 8 T.f__law_bad T.fd__law_bad ["_law_table_here"] (sp__law_bad K) := by
  refine Fun.ok T.F__law_bad sc__law_bad (fun vs H Q E h => ?_) (fun cdv A outer s H vs Q E hr h => ?_)
  · obtain ⟨_, _, _, _, _, rfl, _⟩ := h; rfl
  · refine ⟨_, (pss_cons (ps_for PassesOwn.never rfl (pi_range2 (by rfl) T.n_range (pa_cons pe_int (pa_cons (pe_op op_add (pe_callB (call_min2 rfl) (by rfl) T.n_min (by decide +kernel) (pa_cons (pe_callB (id := "len") (r := rLenS K) call_len_seq (by rfl) T.n_len PySem.boot_len (pa_cons (pv 0) pa_nil)) (pa_cons (pe_callB (id := "len") (r := rLenS K) call_len_seq (by rfl) T.n_len PySem.boot_len (pa_cons (pe_ix (r := rIxL K) ix_list (pv 0) pe_int (fun _ _ => rfl)) pa_nil)) pa_nil))) pe_int) pa_nil))) (pg_name (i := 1) sc__law_bad.nd rfl (by first | exact Or.inl rfl | exact Or.inr rfl))
        (pss_one (ps_for PassesOwn.never rfl (pi_list (pe_call (ok__law_sized T) (hr.mono (by decide)) (by rfl) T.g__law_sized T.k__law_sized T.b__law_sized .nil pass0 (pa_cons (pe_callB (id := "len") (r := rLenS K) call_len_seq (by rfl) T.n_len PySem.boot_len (pa_cons (pv 0) pa_nil)) (pa_cons (pv 1) pa_nil)))) (pg_name (i := 2) sc__law_bad.nd rfl (by first | exact Or.inl rfl | exact Or.inr rfl))
            (pss_one (ps_for PassesOwn.never rfl (pi_list (pe_call (ok__law_sized T) (hr.mono (by decide)) (by rfl) T.g__law_sized T.k__law_sized T.b__law_sized .nil pass0 (pa_cons (pe_callB (id := "len") (r := rLenS K) call_len_seq (by rfl) T.n_len PySem.boot_len (pa_cons (pe_ix (r := rIxL K) ix_list (pv 0) pe_int (fun _ _ => rfl)) pa_nil)) (pa_cons (pv 1) pa_nil)))) (pg_name (i := 3) sc__law_bad.nd rfl (by first | exact Or.inl rfl | exact Or.inr rfl))
                (pss_one (ps_if (pt_cmpR op_gt (pe_callB (id := "abs") call_abs (by rfl) T.n_abs (by decide +kernel) (pa_cons (pe_call (ok__law_minor T) hr (by rfl) T.g__law_minor T.k__law_minor T.b__law_minor .nil pass0 (pa_cons (pe_lc (own := [("_law_i", 4)]) (wi := iList K _) (g := gName 4) (tt := tYes) rfl sc__law_bad.nd (pi_list (pv 2)) (blkOk_by (N := ["_law_table_here", "_law_size", "_law_rows", "_law_columns", "_law_i", "_law_j"]) (sc := (defScope s__law_bad)) (by decide +kernel)) (fun _ _ _ _ _ => pg_name (i := 4) sc__law_bad.nd rfl (Or.inr rfl)) (fun _ _ _ _ _ => pts_nil) (fun _ _ _ _ _ => (pe_lc (own := [("_law_j", 5)]) (wi := iList K _) (g := gName 5) (tt := tYes) rfl sc__law_bad.nd (pi_list (pv 3)) (blkOk_by (N := ["_law_table_here", "_law_size", "_law_rows", "_law_columns", "_law_i", "_law_j"]) (sc := (relS ({ kind := .function, names := [(".0", .local), ("_law_i", .cell), ("_law_columns", .free), ("_law_table_here", .free)], isGenerator := false, isCoroutine := false } : Scope) (defScope s__law_bad))) (by decide +kernel)) (fun _ _ _ _ _ => pg_name (i := 5) sc__law_bad.nd rfl (Or.inl rfl)) (fun _ _ _ _ _ => pts_nil) (fun _ _ _ _ _ => (pe_ix (r := rIxL K) ix_list (pe_ix (r := rIxL K) ix_list (pv 0) (pv 4) (fun _ _ => rfl)) (pv 5) (fun _ _ => rfl)))))) pa_nil)) pa_nil)) pe_int (nomark _))
                    (pss_one (ps_ret (pe_tup (pa_cons (pv 2) (pa_cons (pv 3) pa_nil)))))
                    pss_nil)))))))
      (pss_one (ps_ret pe_non))), ?_⟩
    obtain ⟨p, as, R, m, wd, rfl, hT, hb, m5, w5, k⟩ := h
    have hdm := hT.b
    obtain ⟨a0, r0, _, _, hh0, hl0, at0⟩ := hT.row0
    have lenT : ∀ {σ : L2.St} {G : Hp}, σ[0]? = some (some (.ref p)) → Ex H G → Ev (tCB (rLenS K) (tCons (tVar 0) tNil)) σ G (.int (m : Int)) := fun hσ e => ev_is (ev_len (ev_var hσ) (SqL.of (e _ _ hT.tab.1))) (by rw [List.length_map, hT.al])
    have lenR : ∀ {σ : L2.St} {G : Hp}, σ[0]? = some (some (.ref p)) → Ex H G → Ev (tCB (rLenS K) (tCons (tOp (rIxL K) (tVar 0) (tC (.int 0))) tNil)) σ G (.int (wd : Int)) := fun hσ e => ev_is (ev_len (ev_op (ev_var hσ) ev_c (rv_ixL (SqL.of (e _ _ hT.tab.1)) at0)) (SqL.of (e _ _ hh0))) (by rw [List.length_map, hl0])
    refine q_forR2 (lo := 1) (n := ((min m wd : Nat) : Int) + 1) (ea_cons ev_c (ea_cons (ev_op (ev_is (ev_min2 (lenT rfl (Ex.refl _)) (lenR rfl (Ex.refl _))) ?_) ev_c rv_I0) ea_nil)) (by omega)
      (fun s σ' H' => ∃ (y1 y2 y3 : Option V), σ' = [some (V.ref p), y1, y2, y3, none, none] ∧ Ex H H' ∧ (∀ x ∈ Bs.sqs m wd s, Bs.isBad (Bs.val R x.1 x.2) = false)) (fun H3 e3 => ⟨_, _, _, rfl, e3, fun x hx => (nomatch hx)⟩) (fun s σ' H3 hs hP => ?_) (fun σ' H3 hP => ?_)
    · exact congrArg V.int (by split <;> omega)
    rotate_left
    · obtain ⟨y1, y2, y3, rfl, e3, hno⟩ := hP
      have en : (((min m wd : Nat) : Int) + 1 - 1).toNat = min m wd := by omega
      rw [en] at hno
      refine s_ret (v := .non) ev_c fun H4 e4 => k _ H4 (e3.trans e4) ?_
      have hn : Bs.bad R m wd = none := List.find?_eq_none.mpr fun x hx => by rw [hno x hx]; exact Bool.false_ne_true
      rw [hn]
      rfl
    obtain ⟨y1, y2, y3, rfl, e3, hno⟩ := hP
    have hsm : s + 1 ≤ min m wd := by omega
    have esz : V.int ((1 : Int) + (s : Int)) = .int ((s + 1 : Nat) : Int) := congrArg V.int (by push_cast; omega)
    refine for_call2 (σ := [some (V.ref p), some (.int (1 + (s : Int))), y2, y3, none, none]) ?_
    refine lenT rfl e3 H3 (Ex.refl _) _ fun H4a e4a => (ev_is (ev_var (i := 1) rfl) esz) H4a (Ex.refl _) _ fun H4 e4b => ?_
    have e4 := e4a.trans e4b
    have e04 := e3.trans e4
    refine ⟨m, s + 1, rfl, by omega, by omega, fun D1 bs1 H5 nD1 e5 hP1 => ?_⟩
    have e05 := e04.trans e5
    refine ⟨D1, rfl, ⟨_, SqL.of hP1.1⟩, for_list (K := K) (a := D1) (xs := bs1.map V.ref) (fun i σ' H' => ∃ (y2 y3 : Option V), σ' = [some (V.ref p), some (.int (1 + (s : Int))), y2, y3, none, none] ∧ Ex H5 H' ∧ (∀ x ∈ Bs.upto m wd (s + 1) i 0, Bs.isBad (Bs.val R x.1 x.2) = false)) ⟨_, _, rfl, Ex.refl _, fun x hx => (by rw [Bs.upto_zero] at hx; exact nomatch hx)⟩ (fun i σ' H' _ ⟨_, _, _, e, _⟩ => SqL.of (e _ _ hP1.1)) (fun i x σ' H6 hx hP => ?_) (fun σ' H6 hP => ?_)⟩
    rotate_left
    · obtain ⟨y2, y3, rfl, e6, hno2⟩ := hP
      have bl : (bs1.map V.ref).length = (Cb.all m (s + 1)).length := by rw [List.length_map, Paired.length hP1.2, List.length_map]
      rw [bl, Bs.upto_all] at hno2
      refine ⟨_, _, _, rfl, e05.trans e6, fun x hx => ?_⟩
      rw [Bs.sqs_succ] at hx
      rcases List.mem_append.mp hx with h | h
      · exact hno x h
      · exact hno2 x h
    obtain ⟨y2, y3, rfl, e6, hno2⟩ := hP
    rw [List.getElem?_map] at hx
    obtain ⟨b1, hb1, rfl⟩ := Option.map_eq_some_iff.mp hx
    obtain ⟨zr, hzr, hbz⟩ := paired_get hP1.2 hb1
    rw [List.getElem?_map] at hzr
    obtain ⟨rs, hrs, rfl⟩ := Option.map_eq_some_iff.mp hzr
    obtain ⟨hr1, hr2, hr3⟩ := Cb.mem_all.mp (List.mem_of_getElem? hrs)
    have e06 := e05.trans e6
    refine for_call2 (σ := [some (V.ref p), some (.int (1 + (s : Int))), some (.ref b1), y3, none, none]) ?_
    refine lenR rfl e06 H6 (Ex.refl _) _ fun H7a e7a => (ev_is (ev_var (i := 1) rfl) esz) H7a (Ex.refl _) _ fun H7 e7b => ?_
    have e7 := e7a.trans e7b
    refine ⟨wd, s + 1, rfl, by omega, by omega, fun D2 bs2 H8 nD2 e8 hP2 => ?_⟩
    have e68 := e7.trans e8
    have e08 := e06.trans e68
    refine ⟨D2, rfl, ⟨_, SqL.of hP2.1⟩, for_list (K := K) (a := D2) (xs := bs2.map V.ref) (fun j σ' H' => ∃ (y3 : Option V), σ' = [some (V.ref p), some (.int (1 + (s : Int))), some (.ref b1), y3, none, none] ∧ Ex H8 H' ∧ (∀ x ∈ Bs.upto m wd (s + 1) i j, Bs.isBad (Bs.val R x.1 x.2) = false)) ⟨_, rfl, Ex.refl _, hno2⟩ (fun j σ' H' _ ⟨_, _, e, _⟩ => SqL.of (e _ _ hP2.1)) (fun j x σ' H9 hx2 hP => ?_) (fun σ' H9 hP => ?_)⟩
    rotate_left
    · obtain ⟨y3, rfl, e9, hno3⟩ := hP
      have bl : (bs2.map V.ref).length = (Cb.all wd (s + 1)).length := by rw [List.length_map, Paired.length hP2.2, List.length_map]
      rw [bl, Bs.upto_full (List.getElem?_eq_some_iff.mp hrs).1] at hno3
      exact ⟨_, _, rfl, e6.trans (e68.trans e9), hno3⟩
    obtain ⟨y3, rfl, e9, hno3⟩ := hP
    rw [List.getElem?_map] at hx2
    obtain ⟨b2, hb2, rfl⟩ := Option.map_eq_some_iff.mp hx2
    obtain ⟨zc, hzc, hbc⟩ := paired_get hP2.2 hb2
    rw [List.getElem?_map] at hzc
    obtain ⟨cs, hcs, rfl⟩ := Option.map_eq_some_iff.mp hzc
    obtain ⟨hc1, hc2, hc3⟩ := Cb.mem_all.mp (List.mem_of_getElem? hcs)
    have e09 := e08.trans e9
    have hr9 := (e6.trans (e68.trans e9)) _ _ hbz
    have hc9 := e9 _ _ hbc
    have zl : ∀ ns : List Nat, (Sg.zs ns).length = ns.length := fun ns => by unfold Sg.zs; rw [List.length_map]
    have nexts : ∀ {y3 : Option V} {G : Hp}, Ex H9 G → Bs.isBad (Bs.val R rs cs) = false → ∃ z3 : Option V, [some (V.ref p), some (.int (1 + (s : Int))), some (.ref b1), y3, none, none] = [some (V.ref p), some (.int (1 + (s : Int))), some (.ref b1), z3, none, none] ∧ Ex H8 G ∧ ∀ x ∈ Bs.upto m wd (s + 1) i (j + 1), Bs.isBad (Bs.val R x.1 x.2) = false := fun eG z => ⟨_, rfl, e9.trans eG, fun x hx => by
      rw [Bs.upto_succ hrs hcs] at hx
      rcases List.mem_append.mp hx with h | h
      · exact hno3 x h
      · rw [List.mem_singleton.mp h]
        exact z⟩
    have hT9 := hT.ex e09
    have hcl : cs.length = rs.length := by rw [hc1, hr1]
    have hdv := Bs.val_eq R hcl
    have hsq := Bs.sub_sq R (rows := rs) (cols := cs) hcl
    have big : decide ((if Bs.val R rs cs < 0 then -Bs.val R rs cs else Bs.val R rs cs) > 1) = Bs.isBad (Bs.val R rs cs) := by
      unfold Bs.isBad
      rw [Bool.eq_iff_iff, decide_eq_true_eq, Bool.not_eq_true', Bool.or_eq_false_iff, Bool.or_eq_false_iff, decide_eq_false_iff_not, decide_eq_false_iff_not, decide_eq_false_iff_not]
      split <;> omega
    refine s_when (b := Bs.isBad (Bs.val R rs cs)) (et_is (et_test (ev_op (x := .int (if Bs.val R rs cs < 0 then -Bs.val R rs cs else Bs.val R rs cs)) (ev_absI (ev_fnT (sp := sp__law_minor K 6) (rows := Bs.sub R rs cs) (fun G eG Q q => ?_) fun q' qs G2 e2 ht2 Q q => ⟨q', qs, _, rs.length, 100, rfl, ht2, hsq.1, hsq.2, by omega, by omega, by decide, fun r hr y hy => ?_, fun d G3 hd2 _ e3 => ?_⟩)) ev_c rv_I0)) big) (fun z H10 e10 => ?_) (fun z H10 e10 => nexts e10 z)
    · refine lc_rowsL (K := K) (nn := 2) (ys := Sg.zs rs) (F := fun x => (Sg.zs cs).map fun y => Dt.at_ R x.toNat y.toNat) (vs := [4]) (j := 4) rfl (eG _ _ hr9) (by rw [zl]; omega) (fun u => rfl) (fun x G2 hx e2 => ?_) (fun q' qs G2 nq nqs _ _ e2 hq => ?_)
      · unfold Sg.zs at hx
        obtain ⟨ir, hir, rfl⟩ := List.mem_map.mp hx
        have him := hr3 ir hir
        obtain ⟨ai, ri, ati, hri, hhi, hli⟩ : ∃ a r, atI (as.map V.ref) (ir : Int) = some (.ref a) ∧ R[ir]? = some r ∧ H a = some (.lst (r.map V.int)) ∧ r.length = wd := by
          obtain ⟨a, r, h1, h2, h3, h4⟩ := hT.row (i := (ir : Int)) (by omega) (by omega)
          rw [Int.toNat_natCast] at h2
          exact ⟨a, r, h1, h2, h3, h4⟩
        refine el_mapI (K := K) (n := 3) (j := 5) (vs := [5]) (fun y => Dt.at_ R (ir : Int).toNat y.toNat) rfl ((eG.trans e2) _ _ hc9) (by rw [zl]; omega) (fun u => rfl) fun y G3 hy e3 => ?_
        unfold Sg.zs at hy
        obtain ⟨jc, hjc, rfl⟩ := List.mem_map.mp hy
        have hjw := hc3 jc hjc
        have e011 := e09.trans ((eG.trans e2).trans e3)
        rw [Int.toNat_natCast, Int.toNat_natCast]
        have ent : Dt.at_ R ir jc = ri[jc]?.getD 0 := by
          show (R[ir]?.getD [])[jc]?.getD 0 = _
          rw [hri]
          rfl
        rw [ent]
        exact ev_op (ev_op (ev_var (i := 0) rfl) (ev_var (i := 4) rfl) (rv_ixL (SqL.of (e011 _ _ hT.tab.1)) ati)) (ev_var (i := 5) rfl) (rv_ixL (SqL.of (e011 _ _ hhi)) (atI_row (by omega)))
      · rw [sub_zs] at hq
        exact q q' qs G2 e2 hq
    · unfold Bs.sub at hr
      obtain ⟨ir, hir, rfl⟩ := List.mem_map.mp hr
      obtain ⟨jc, hjc, rfl⟩ := List.mem_map.mp hy
      obtain ⟨a, ri, h1, h2, h3, h4⟩ := hT.row (i := (ir : Int)) (by omega) (by have := hr3 ir hir; omega)
      rw [Int.toNat_natCast] at h2
      show Bd 100 ((R[ir]?.getD [])[jc]?.getD 0)
      rw [h2]
      show Bd 100 (ri[jc]?.getD 0)
      have := hc3 jc hjc
      rw [List.getElem?_eq_getElem (show jc < ri.length by omega)]
      exact hb ri (List.mem_of_getElem? h2) _ (List.getElem_mem _)
    · have : d = Bs.val R rs cs := by
        rw [← hd2] at hdv
        exact (Rat.intCast_inj.mp hdv).symm
      rw [this]
      exact q G3 e3
    refine s_retU (eu_tup (ea_cons (ev_var (i := 2) rfl) (ea_cons (ev_var (i := 3) rfl) ea_nil)) (Nat.le_of_ble_eq_true rfl)) fun t H13 nt e13 ht => k _ H13 (e09.trans (e10.trans e13)) ?_
    have hbad : Bs.bad R m wd = some (rs, cs) := by
      obtain ⟨B1, hB1⟩ := Bs.sqs_split (m := m) (w := wd) (n := min m wd) (s := s) (by omega)
      obtain ⟨B2, hB2⟩ := Bs.sq_split hrs hcs
      unfold Bs.bad
      rw [hB1, hB2]
      have e : Bs.sqs m wd s ++ (Bs.upto m wd (s + 1) i j ++ (rs, cs) :: B2 ++ B1) = (Bs.sqs m wd s ++ Bs.upto m wd (s + 1) i j) ++ (rs, cs) :: (B2 ++ B1) := by simp [List.append_assoc]
      rw [e]
      refine Bs.find_split (fun y hy => ?_) z
      rcases List.mem_append.mp hy with h | h
      · exact hno y h
      · exact hno3 y h
    rw [hbad]
    exact ⟨t, b1, b2, rfl, ht, (e10.trans e13) _ _ hr9, (e10.trans e13) _ _ hc9⟩
-- DEF _law_due
def qD (q : Rat) : PyData := .tuple [.int q.num, .int (q.den : Int)]
theorem dp_qs {K : PySem.W.Frag} {H : Hp} {bs : List Addr} {qs : List Rat} (h : FrsAt H bs qs) : DpAll K H (bs.map V.ref) (qs.map qD) := by
  induction h with
  | nil => exact .nil
  | cons r t ih => exact .cons (.tup (SqT.of r) (.cons (.int _) (.cons (.int _) .nil))) ih
theorem lay_qs : ∀ qs : List Rat, PyData.canLayAll0 (qs.map qD) = true
  | [] => rfl
  | q :: qs => by
    show ((qD q).canLay0 && PyData.canLayAll0 (qs.map qD)) = true
    rw [lay_qs qs]
    rfl
theorem depth_qs : ∀ qs : List Rat, PyData.depthAll (qs.map qD) ≤ 1
  | [] => Nat.zero_le _
  | q :: qs => by
    have := depth_qs qs
    have h : (qD q).depth = 1 := rfl
    show max (qD q).depth (PyData.depthAll (qs.map qD)) ≤ 1
    omega

theorem det_int35 {b : Nat} : ∀ (n : Nat) (M : Dt.Mx), n ≤ 8 → (∀ i j, i < n → j < n → ∃ e : Int, M i j = ((e : Int) : Rat) ∧ Bd b e) → ∃ d : Int, ((d : Int) : Rat) = Dt.det n M ∧ Bd (n * (b + 12) + 1) d := by
  intro n
  induction n with
  | zero => exact fun M _ _ => ⟨1, rfl, by unfold Bd; rw [Nat.zero_mul]; decide⟩
  | succ n ih =>
    intro M n8 h
    have part : ∀ i, i ≤ n + 1 → ∃ w : Int, ((w : Int) : Rat) = Dt.sm i (fun j => Dt.sg j * M 0 j * Dt.det n (Dt.minor M j)) ∧ Bd (n * (b + 12) + b + 2 + i) w := by
      intro i
      induction i with
      | zero => exact fun _ => ⟨0, rfl, bd_zero⟩
      | succ i ih2 =>
        intro hi
        obtain ⟨w, w1, w2⟩ := ih2 (by omega)
        obtain ⟨e, e1, e2⟩ := h 0 i (by omega) (by omega)
        obtain ⟨d, d1, d2⟩ := ih (Dt.minor M i) (by omega) (fun x y hx hy => h (x + 1) (Dt.skip i y) (by omega) (by unfold Dt.skip; split <;> omega))
        refine ⟨w + (if i % 2 = 0 then e * d else -(e * d)), ?_, ?_⟩
        · show _ = Dt.sm i _ + Dt.sg i * M 0 i * Dt.det n (Dt.minor M i)
          rw [← w1, ← d1, e1]
          unfold Dt.sg
          split
          · rw [Rat.intCast_add, Rat.intCast_mul]
            grind
          · rw [Rat.intCast_add, Rat.intCast_neg, Rat.intCast_mul]
            grind
        · have h1 : Bd (b + (n * (b + 12) + 1)) (e * d) := e2.mul d2
          have h2 : Bd (b + (n * (b + 12) + 1)) (if i % 2 = 0 then e * d else -(e * d)) := by
            split
            · exact h1
            · exact h1.neg
          exact (Bd.add w2 (h2.mono (by omega))).mono (by omega)
    obtain ⟨w, w1, w2⟩ := part (n + 1) (Nat.le_refl _)
    exact ⟨w, w1, w2.mono (by rw [Nat.add_mul]; omega)⟩
theorem val_bd35 {R : List (List Int)} {m w : Nat} {rs cs : List Nat} (B : BadF R m w rs cs) (n6 : rs.length ≤ 6) (hb : ∀ r ∈ R, ∀ y ∈ r, Bd 100 y) : Bd 700 (Bs.val R rs cs) := by
  obtain ⟨d, d1, d2⟩ := det_int35 (b := 100) rs.length (Dt.mx (Bs.sub R rs cs)) (by omega) (fun i j _ _ => ⟨Dt.at_ (Bs.sub R rs cs) i j, rfl, at_bd35 (sub_bd35 hb)⟩)
  rw [← Bs.val_eq R B.cl] at d1
  rw [← Rat.intCast_inj.mp d1]
  exact d2.mono (by omega)
def firstK (S : List (List Int)) (n i : Nat) : List Rat := ((((List.range i).map fun a => solQ S n (unitL n a)).filter broke)[0]?.getD []).map restQ
theorem firstK_succ {S : List (List Int)} {n i : Nat} (n1 : 1 ≤ n) : firstK S n (i + 1) = if ((firstK S n i).isEmpty && broke (solQ S n (unitL n i))) = true then (solQ S n (unitL n i)).map restQ else firstK S n i := by
  unfold firstK
  rw [List.range_succ, List.map_append, List.filter_append]
  cases e : ((List.range i).map fun a => solQ S n (unitL n a)).filter broke with
  | nil =>
    cases hb : broke (solQ S n (unitL n i)) <;> simp [hb]
  | cons y t =>
    have hy : y ∈ ((List.range i).map fun a => solQ S n (unitL n a)).filter broke := by rw [e]; exact List.mem_cons_self ..
    obtain ⟨a, _, rfl⟩ := List.mem_map.mp (List.mem_filter.mp hy).1
    have yl : (solQ S n (unitL n a)).length = n := by unfold solQ; rw [List.length_map, List.length_range]
    have ne : solQ S n (unitL n a) ≠ [] := fun z => by rw [z] at yl; simp at yl; omega
    simp [ne]
theorem ev_eqNilQ {K : PySem.W.Frag} {ta : TE} {σ : L2.St} {H : Hp} {p : Addr} {es : List Addr} {qs : List Rat} (ha : Ev ta σ H (.ref p)) (hF : FrL H p es qs) : Ev (tOp (rEqD K) ta (tLst tNil)) σ H (.bl qs.isEmpty) := fun H1 e Q k =>
  ha H1 e _ fun H2 e2 => (el_lst (σ := σ) ea_nil (Nat.zero_le _)) H2 (Ex.refl _) _ fun p' H3 np e3 hp => by
    have eA := (e.trans e2).trans e3
    have f := hF.ex eA
    refine ⟨.list (qs.map qD), _, .lst (SqL.of f.1) (dp_qs f.2), .lst (SqL.of hp) .nil, shaped_list (lay_qs _) (Nat.le_trans (depth_qs _) (by decide)), rfl, ?_⟩
    rw [eqv_nil, show (qs.map qD).isEmpty = qs.isEmpty by cases qs <;> rfl]
    exact k H3 (e2.trans e3)
/-- [f(a, b) for a, b in fractions]: new fractions -/
theorem lc_frMap2 {K : PySem.W.Frag} {n : Nat} {te : TE} {vs : List Nat} {j1 j2 : Nat} {σ : L2.St} {H : Hp} {Q : VK} {a : Addr} {bs : List Addr} {qs : List Rat} (F : Rat → Rat) (hσ : σ[n]? = some (some (.ref a))) (hF : FrL H a bs qs) (hm : qs.length ≤ 1000) (hw : ∀ u v, wipe (((wipe σ vs).set j1 (some u)).set j2 (some v)) vs = wipe σ vs)
    (he : ∀ q H1, q ∈ qs → Ex H H1 → EvU te (((wipe σ vs).set j1 (some (.int q.num))).set j2 (some (.int (q.den : Int)))) H1 (frV (F q)))
    (k : ∀ p es H2, H p = none → Ex H H2 → FrL H2 p es (qs.map F) → Q (.ref p) H2) : tLc (iList K (tVar n)) (g2 K j1 j2) tYes te vs σ H Q := by
  have bl : bs.length = qs.length := Paired.length hF.2
  refine ⟨_, hσ, a, rfl, ⟨_, SqL.of hF.1⟩, fun D hD => ?_⟩
  refine lc_list (K := K) (a := a) (xs := bs.map V.ref) (fun i H' => ∃ es, Ex H H' ∧ H' D = some (.lst (es.map V.ref)) ∧ FrsAt H' es ((qs.take i).map F)) ⟨[], Ex.new hD, upd_same, .nil⟩ (fun i H' _ ⟨_, p1, _⟩ => SqL.of (p1 _ _ hF.1)) (fun i x H' gx p => ?_) (fun H' p => ?_)
  · obtain ⟨es, p1, p2, p3⟩ := p
    rw [List.getElem?_map] at gx
    obtain ⟨c, hc, rfl⟩ := Option.map_eq_some_iff.mp gx
    obtain ⟨q, hq, hcq⟩ := paired_get hF.2 hc
    have hi := (List.getElem?_eq_some_iff.mp hq).1
    have el : es.length = i := by rw [Paired.length p3, List.length_map, List.length_take]; omega
    refine ⟨c, _, rfl, SqT.of (p1 _ _ hcq), rfl, _, _, rfl, _, _, rfl, rfl, hw _ _, ?_⟩
    show te _ _ _
    refine he q H' (List.mem_of_getElem? hq) p1 H' (Ex.refl _) _ fun r H4 nr e4 hr => ?_
    have p2' := e4 _ _ p2
    refine ⟨_, p2', by rw [List.length_map, el]; exact small1000 (by omega), es ++ [r], Ex.mut (p1.trans e4) hD, by rw [upd_same, List.map_append]; rfl, ?_⟩
    rw [take_snoc hq, List.map_append]
    refine frs_upd35 (paired_snoc (p3.ex e4) hr) p2'
  · obtain ⟨es, p1, p2, p3⟩ := p
    rw [List.length_map, bl, List.take_length] at p3
    exact k D es H' hD p1 ⟨p2, p3⟩
theorem paired_rep35 {α β : Type} {R : α → β → Prop} {a : α} {b : β} (h : R a b) : ∀ n : Nat, Paired R (List.replicate n a) (List.replicate n b)
  | 0 => .nil
  | n + 1 => .cons h (paired_rep35 h n)
theorem frs_rep35 {H : Hp} {t : Addr} (h : H t = some (.tup [V.int 0, .int 1])) : ∀ n : Nat, FrsAt H (List.replicate n t) (List.replicate n 0)
  | 0 => .nil
  | n + 1 => .cons h (frs_rep35 h n)
theorem flat_rep35 (v : V) : ∀ n : Nat, (List.replicate n [v]).flatten = List.replicate n v
  | 0 => rfl
  | n + 1 => by
    rw [List.replicate_succ, List.flatten_cons, flat_rep35 v n]
    rfl
/-- what the law's own reckoning tells -/
def DueAt (H : Hp) (R : List (List Int)) (w : Nat) (v : V) : Option (List Nat × List Nat) → Prop
  | none => v = .non
  | some x => ∃ t b g p es, v = .ref t ∧ H t = some (.tup [.ref b, .ref g, .ref p]) ∧ H b = some (.lst ((boundL R (xQ R w x.1 x.2)).map V.int)) ∧ H g = some (.lst (((List.range w).map (gainF R x.1 x.2)).map V.int)) ∧ FrL H p es (xQ R w x.1 x.2)

def sp__law_due (K : PySem.W.Frag) : Sp := fun vs H Q _ => ∃ (p : Addr) (as : List Addr) (R : List (List Int)) (m w : Nat), vs = [.ref p] ∧ TabOk H p as R m w ∧ (∀ r ∈ R, ∀ y ∈ r, Bd 100 y) ∧ m ≤ 5 ∧ w ≤ 5 ∧ ∀ v H', Ex H H' → DueAt H' R w v (Bs.bad R m w) → Q v H'

theorem ok__law_due (T : Txt K mg) : FnOk P w K mg base CX0 9 T.f__law_due T.fd__law_due ["_law_table_here"] (sp__law_due K) := by
  refine Fun.ok T.F__law_due sc__law_due (fun vs H Q E h => ?_) (fun cdv A outer s H vs Q E hr h => ?_)
  · obtain ⟨_, _, _, _, _, rfl, _⟩ := h; rfl
  · refine ⟨_, (pss_cons (ps_set (i := 1) sc__law_due.nd rfl (by first | exact Or.inl rfl | exact Or.inr rfl) (pe_call (ok__law_bad T) hr (by rfl) T.g__law_bad T.k__law_bad T.b__law_bad .nil pass0 (pa_cons (pv 0) pa_nil)))
      (pss_cons (ps_if (pt_cmpR op_isN (pv 1) pe_non (nomark _))
        (pss_one (ps_ret pe_non))
        pss_nil)
      (pss_cons (ps_asg (pv 1) (pg_tup rfl (pgs_cons (pg_name (i := 2) sc__law_due.nd rfl (by first | exact Or.inl rfl | exact Or.inr rfl)) (pgs_cons (pg_name (i := 3) sc__law_due.nd rfl (by first | exact Or.inl rfl | exact Or.inr rfl)) pgs_nil))))
      (pss_cut (ps_setLc (i := 4) (own := [("_law_i", 15)]) (wi := iList K _) (g := gName 15) (tt := tYes) rfl sc__law_due.nd rfl rfl (sw_true rfl rfl rfl (by decide +kernel)) (pi_list (pv 2)) (blkOk_by (N := ["_law_table_here", "_law_bad_here", "_law_rows", "_law_columns", "_law_square", "_law_found", "_law_k", "_law_us", "_law_xs", "_law_j", "_law_one_here", "_law_bottom", "_law_tops", "_law_bounds", "_law_gains", "_law_i", "_law_top"]) (sc := (defScope s__law_due)) (by decide +kernel)) (fun _ _ _ _ _ => pg_name (i := 15) sc__law_due.nd rfl (Or.inr rfl)) (fun _ _ _ _ _ => pts_nil) (fun _ _ _ _ _ => (pe_lc (own := [("_law_j", 9)]) (wi := iList K _) (g := gName 9) (tt := tYes) rfl sc__law_due.nd (pi_list (pv 3)) (blkOk_by (N := ["_law_table_here", "_law_bad_here", "_law_rows", "_law_columns", "_law_square", "_law_found", "_law_k", "_law_us", "_law_xs", "_law_j", "_law_one_here", "_law_bottom", "_law_tops", "_law_bounds", "_law_gains", "_law_i", "_law_top"]) (sc := (relS ({ kind := .function, names := [(".0", .local), ("_law_i", .cell), ("_law_columns", .free), ("_law_table_here", .free)], isGenerator := false, isCoroutine := false } : Scope) (defScope s__law_due))) (by decide +kernel)) (fun _ _ _ _ _ => pg_name (i := 9) sc__law_due.nd rfl (Or.inl rfl)) (fun _ _ _ _ _ => pts_nil) (fun _ _ _ _ _ => (pe_ix (r := rIxL K) ix_list (pe_ix (r := rIxL K) ix_list (pv 0) (pv 15) (fun _ _ => rfl)) (pv 9) (fun _ _ => rfl))))))
      (pss_cons (ps_set (i := 5) sc__law_due.nd rfl (by first | exact Or.inl rfl | exact Or.inr rfl) (pe_lst pa_nil))
      (pss_cons (ps_for PassesOwn.never rfl (pi_range1 (by rfl) T.n_range (pa_cons (pe_callB (id := "len") (r := rLenS K) call_len_seq (by rfl) T.n_len PySem.boot_len (pa_cons (pv 2) pa_nil)) pa_nil)) (pg_name (i := 6) sc__law_due.nd rfl (by first | exact Or.inl rfl | exact Or.inr rfl))
        (pss_cut (ps_set (i := 7) sc__law_due.nd rfl (by first | exact Or.inl rfl | exact Or.inr rfl) (pe_call (ok__law_solution T) hr (by rfl) T.g__law_solution T.k__law_solution T.b__law_solution .nil pass0 (pa_cons (pv 4) (pa_cons (pe_lc (own := [("_law_i", 15)]) (g := gName 15) (tt := tYes) rfl sc__law_due.nd (pi_range1 (by rfl) T.n_range (pa_cons (pe_callB (id := "len") (r := rLenS K) call_len_seq (by rfl) T.n_len PySem.boot_len (pa_cons (pv 2) pa_nil)) pa_nil)) (blkOk_by (N := ["_law_table_here", "_law_bad_here", "_law_rows", "_law_columns", "_law_square", "_law_found", "_law_k", "_law_us", "_law_xs", "_law_j", "_law_one_here", "_law_bottom", "_law_tops", "_law_bounds", "_law_gains", "_law_i", "_law_top"]) (sc := (defScope s__law_due)) (by decide +kernel)) (fun _ _ _ _ _ => pg_name (i := 15) sc__law_due.nd rfl (Or.inl rfl)) (fun _ _ _ _ _ => pts_nil) (fun _ _ _ _ _ => (pe_callTy (T := "int") call_int1 (by rfl) T.n_int (by decide +kernel) (pa_cons (pe_cmpR op_eq (pv 6) (pv 15) (nomark _)) pa_nil)))) pa_nil))))
          (pss_one (ps_if (PW.pt (pw_and (pt_cmpR (r := rEqD K) (op_eqD hr.units) (pv 5) (pe_lst pa_nil) (nomark _)) (pw_and1 (pt_not (pt_val (pe_callB (id := "all") (r := rAll K) (cr_all rfl) (by rfl) T.n_all (by decide +kernel) (pa_cons (pe_lc (own := [("_law_top", 16), ("_law_bottom", 11)]) (wi := iList K _) (g := gTup K 2 (gCons (gName 16) (gCons (gName 11) gNil))) (tt := tYes) rfl sc__law_due.nd (pi_list (pv 7)) (blkOk_by (N := ["_law_table_here", "_law_bad_here", "_law_rows", "_law_columns", "_law_square", "_law_found", "_law_k", "_law_us", "_law_xs", "_law_j", "_law_one_here", "_law_bottom", "_law_tops", "_law_bounds", "_law_gains", "_law_i", "_law_top"]) (sc := (defScope s__law_due)) (by decide +kernel)) (fun _ _ _ _ _ => (pg_tup rfl (pgs_cons (pg_name (i := 16) sc__law_due.nd rfl (Or.inl rfl)) (pgs_cons (pg_name (i := 11) sc__law_due.nd rfl (Or.inl rfl)) pgs_nil)))) (fun _ _ _ _ _ => pts_nil) (fun _ _ _ _ _ => (pe_cmpR op_eq (pv 11) pe_int (nomark _)))) pa_nil)))))))
            (pss_one (ps_setLc (i := 5) (own := [("_law_top", 16), ("_law_bottom", 11)]) (wi := iList K _) (g := gTup K 2 (gCons (gName 16) (gCons (gName 11) gNil))) (tt := tYes) rfl sc__law_due.nd rfl rfl (sw_true rfl rfl rfl (by decide +kernel)) (pi_list (pv 7)) (blkOk_by (N := ["_law_table_here", "_law_bad_here", "_law_rows", "_law_columns", "_law_square", "_law_found", "_law_k", "_law_us", "_law_xs", "_law_j", "_law_one_here", "_law_bottom", "_law_tops", "_law_bounds", "_law_gains", "_law_i", "_law_top"]) (sc := (defScope s__law_due)) (by decide +kernel)) (fun _ _ _ _ _ => (pg_tup rfl (pgs_cons (pg_name (i := 16) sc__law_due.nd rfl (Or.inl rfl)) (pgs_cons (pg_name (i := 11) sc__law_due.nd rfl (Or.inl rfl)) pgs_nil)))) (fun _ _ _ _ _ => pts_nil) (fun _ _ _ _ _ => (pe_tup (pa_cons (pe_op op_mod (pv 16) (pv 11)) (pa_cons (pv 11) pa_nil))))))
            pss_nil))))
      (pss_cut (ps_set (i := 8) sc__law_due.nd rfl (by first | exact Or.inl rfl | exact Or.inr rfl) (pe_op op_rep (pe_lst (pa_cons (pe_tup (pa_cons pe_int (pa_cons pe_int pa_nil))) pa_nil)) (pe_callB (id := "len") (r := rLenS K) call_len_seq (by rfl) T.n_len PySem.boot_len (pa_cons (pe_ix (r := rIxL K) ix_list (pv 0) pe_int (fun _ _ => rfl)) pa_nil))))
      (pss_cons (ps_for PassesOwn.never rfl (pi_zip (by rfl) T.n_zip (pa_cons (pv 3) (pa_cons (pv 5) pa_nil))) (pg_tup rfl (pgs_cons (pg_name (i := 9) sc__law_due.nd rfl (by first | exact Or.inl rfl | exact Or.inr rfl)) (pgs_cons (pg_name (i := 10) sc__law_due.nd rfl (by first | exact Or.inl rfl | exact Or.inr rfl)) pgs_nil)))
        (pss_one (ps_asg (pv 10) (pg_sub (pv 8) (pv 9) set_list))))
      (pss_cons (ps_asg (pe_call (ok__law_sums T) (hr.mono (by decide)) (by rfl) T.g__law_sums T.k__law_sums T.b__law_sums .nil pass0 (pa_cons (pv 0) (pa_cons (pv 8) pa_nil))) (pg_tup rfl (pgs_cons (pg_name (i := 11) sc__law_due.nd rfl (by first | exact Or.inl rfl | exact Or.inr rfl)) (pgs_cons (pg_name (i := 12) sc__law_due.nd rfl (by first | exact Or.inl rfl | exact Or.inr rfl)) pgs_nil))))
      (pss_cut (ps_setLc (i := 13) (own := [("_law_top", 16)]) (wi := iList K _) (g := gName 16) (tt := tYes) rfl sc__law_due.nd rfl rfl (sw_true rfl rfl rfl (by decide +kernel)) (pi_list (pv 12)) (blkOk_by (N := ["_law_table_here", "_law_bad_here", "_law_rows", "_law_columns", "_law_square", "_law_found", "_law_k", "_law_us", "_law_xs", "_law_j", "_law_one_here", "_law_bottom", "_law_tops", "_law_bounds", "_law_gains", "_law_i", "_law_top"]) (sc := (defScope s__law_due)) (by decide +kernel)) (fun _ _ _ _ _ => pg_name (i := 16) sc__law_due.nd rfl (Or.inl rfl)) (fun _ _ _ _ _ => pts_nil) (fun _ _ _ _ _ => (pe_op op_sub pe_int (pe_op op_fdivW (pe_op op_sub pe_int (pv 16)) (pv 11)))))
      (pss_cut (ps_setLc (i := 14) (own := [("_law_j", 9)]) (g := gName 9) (tt := tYes) rfl sc__law_due.nd rfl rfl (sw_true rfl rfl rfl (by decide +kernel)) (pi_range1 (by rfl) T.n_range (pa_cons (pe_callB (id := "len") (r := rLenS K) call_len_seq (by rfl) T.n_len PySem.boot_len (pa_cons (pe_ix (r := rIxL K) ix_list (pv 0) pe_int (fun _ _ => rfl)) pa_nil)) pa_nil)) (blkOk_by (N := ["_law_table_here", "_law_bad_here", "_law_rows", "_law_columns", "_law_square", "_law_found", "_law_k", "_law_us", "_law_xs", "_law_j", "_law_one_here", "_law_bottom", "_law_tops", "_law_bounds", "_law_gains", "_law_i", "_law_top"]) (sc := (defScope s__law_due)) (by decide +kernel)) (fun _ _ _ _ _ => pg_name (i := 9) sc__law_due.nd rfl (Or.inr rfl)) (fun _ _ _ _ _ => pts_nil) (fun _ _ _ _ _ => (pe_op op_sub (pe_callB (id := "sum") (r := rSum K) (cr_sum rfl) (by rfl) T.n_sum (by decide +kernel) (pa_cons (pe_lc (own := [("_law_i", 15)]) (wi := iList K _) (g := gName 15) (tt := tYes) rfl sc__law_due.nd (pi_list (pv 2)) (blkOk_by (N := ["_law_table_here", "_law_bad_here", "_law_rows", "_law_columns", "_law_square", "_law_found", "_law_k", "_law_us", "_law_xs", "_law_j", "_law_one_here", "_law_bottom", "_law_tops", "_law_bounds", "_law_gains", "_law_i", "_law_top"]) (sc := (relS ({ kind := .function, names := [(".0", .local), ("_law_j", .cell), ("sum", .globalImplicit), ("int", .globalImplicit), ("_law_columns", .free), ("_law_rows", .free), ("_law_table_here", .free)], isGenerator := false, isCoroutine := false } : Scope) (defScope s__law_due))) (by decide +kernel)) (fun _ _ _ _ _ => pg_name (i := 15) sc__law_due.nd rfl (Or.inl rfl)) (fun _ _ _ _ _ => pts_nil) (fun _ _ _ _ _ => (pe_ix (r := rIxL K) ix_list (pe_ix (r := rIxL K) ix_list (pv 0) (pv 15) (fun _ _ => rfl)) (pv 9) (fun _ _ => rfl)))) pa_nil)) (pe_callTy (T := "int") call_int1 (by rfl) T.n_int (by decide +kernel) (pa_cons (pe_cmpR (r := rIn K true) op_notIn_seq (pv 9) (pv 3) (by rfl)) pa_nil)))))
      (pss_one (ps_ret (pe_tup (pa_cons (pv 13) (pa_cons (pv 14) (pa_cons (pv 8) pa_nil))))))))))))))))), ?_⟩
    obtain ⟨p, as, R, m, w, rfl, hT, hb, m5, w5, k⟩ := h
    have hd := hT.b
    refine ⟨_, rfl, p, as, R, m, w, rfl, hT, hb, m5, w5, fun v H1 e1 hv => ?_⟩
    cases ho : Bs.bad R m w with
    | none =>
      rw [ho] at hv k
      have hv : v = .non := hv
      subst hv
      dsimp only
      refine q_when (σ := [some (.ref p), some .non, none, none, none, none, none, none, none, none, none, none, none, none, none, none, none]) (b := true) (et_is (et_test (ev_op (ev_var (i := 1) rfl) ev_c (fun G e Q' q' => ⟨rfl, q' G (Ex.refl _)⟩))) rfl) (fun _ H2 e2 => ?_) (fun z => nomatch z)
      exact s_ret (v := .non) ev_c fun H3 e3 => k .non H3 (e1.trans (e2.trans e3)) rfl
    | some x =>
      obtain ⟨rs, cs⟩ := x
      have B := bad_f ho
      rw [ho] at hv k
      obtain ⟨t, a, b, rfl, ht, ha, hbb⟩ := hv
      have rl := len_lt35 B.ur B.mr
      have cl := len_lt35 B.uc B.mc
      have r1 : 1 ≤ rs.length := List.length_pos_iff.mpr B.r0
      have bD : Bd 700 (Bs.val R rs cs) := val_bd35 B (by omega) hb
      have h0 : Bs.val R rs cs ≠ 0 := fun y => by have := B.bad; rw [y] at this; cases this
      have mr := B.mr
      have mc := B.mc
      dsimp only
      refine q_when (σ := [some (.ref p), some (.ref t), none, none, none, none, none, none, none, none, none, none, none, none, none, none, none]) (b := false) (et_is (et_test (ev_op (ev_var (i := 1) rfl) ev_c (fun G e Q' q' => ⟨rfl, q' G (Ex.refl _)⟩))) (decide_eq_false fun z => nomatch z)) (fun z => nomatch z) fun _ H2 e2 => ?_
      refine ⟨_, rfl, t, _, rfl, SqT.of (e2 _ _ ht), rfl, _, _, rfl, _, _, rfl, rfl, ?_⟩
      have e02 := e1.trans e2
      have T2 := hT.ex e02
      have ha2 := e2 _ _ ha
      have hb2 := e2 _ _ hbb
      have sl : (Bs.sub R rs cs).length = rs.length := sub_len R rs cs
      have sw : ∀ r ∈ Bs.sub R rs cs, r.length = rs.length := fun r hr => by rw [sub_wid R rs cs r hr, B.cl]
      have hv0 := Bs.val_eq R B.cl
      have sb := sub_bd35 (rs := rs) (cs := cs) hb
      have zl : (Sg.zs rs).length = rs.length := zs_len _
      have zc : (Sg.zs cs).length = rs.length := by rw [zs_len, B.cl]
      -- square
      refine ⟨fun σ' H' => ∃ (u : Addr) (us : List Addr), σ' = [some (.ref p), some (.ref t), some (.ref a), some (.ref b), some (.ref u), none, none, none, none, none, none, none, none, none, none, none, none] ∧ Tab H' u us (Bs.sub R rs cs) ∧ Ex H2 H', ?_, ?_⟩
      · refine lc_rowsL (K := K) (nn := 2) (ys := Sg.zs rs) (fun x => (Sg.zs cs).map fun y => Dt.at_ R x.toNat y.toNat) rfl ha2 (by omega) (fun u => rfl) (fun x G hx eG => ?_) (fun q1 qs H6 nq nqs nd nqq e6 h6 => ?_)
        · unfold Sg.zs at hx
          obtain ⟨ir, hir, rfl⟩ := List.mem_map.mp hx
          have hTG := T2.ex eG
          obtain ⟨ai, ri, h1, h2, h3, h4⟩ := hTG.row (i := (ir : Int)) (by omega) (by have := mr ir hir; omega)
          rw [Int.toNat_natCast] at h2
          refine el_mapI (K := K) (n := 3) (fun y => Dt.at_ R (ir : Int).toNat y.toNat) rfl (eG _ _ hb2) (by omega) (fun u => rfl) fun y G2 hy eG2 => ?_
          unfold Sg.zs at hy
          obtain ⟨jc, hjc, rfl⟩ := List.mem_map.mp hy
          have hjw := mc jc hjc
          rw [Int.toNat_natCast, Int.toNat_natCast]
          have ent : Dt.at_ R ir jc = ri[jc]?.getD 0 := by
            show (R[ir]?.getD [])[jc]?.getD 0 = _
            rw [h2]
            rfl
          rw [ent]
          exact ev_op (ev_op (ev_var (i := 0) rfl) (ev_var (i := 15) rfl) (rv_ixL (SqL.of (eG2 _ _ hTG.tab.1)) h1)) (ev_var (i := 9) rfl) (rv_ixL (SqL.of (eG2 _ _ h3)) (atI_row (by omega)))
        · rw [sub_zs] at h6
          exact ⟨q1, qs, rfl, h6, e6⟩
      rintro _ H3 ⟨u, us, rfl, hU, e3⟩
      have U3 : TabOk H3 u us (Bs.sub R rs cs) rs.length rs.length := ⟨hU, sl, sw, by omega, by omega, by omega, by omega⟩
      refine ⟨Nat.zero_le _, fun f0 nf => ?_⟩
      have xf := Ex.new (o := .lst []) nf
      have uq : ∀ k, ∀ y ∈ unitL rs.length k, Bd 100 y := fun k y hy => by
        unfold unitL at hy
        obtain ⟨i, _, rfl⟩ := List.mem_map.mp hy
        unfold Bd
        split <;> decide +kernel
      refine (ev_is (ev_len (K := K) (ev_var (i := 2) rfl) (SqL.of ((e3.trans xf) _ _ ha2))) (show V.int (((Sg.zs rs).map V.int).length : Nat) = .int (rs.length : Nat) by rw [List.length_map, zl])) _ (Ex.refl _) _ fun H4 e4 => ⟨_, rfl, by omega, by omega, for_range (lo := 0) (n := (rs.length : Int).toNat) (fun i σ' H' => ∃ (y6 y7 : Option V) (f : Addr) (es : List Addr), σ' = [some (.ref p), some (.ref t), some (.ref a), some (.ref b), some (.ref u), some (.ref f), y6, y7, none, none, none, none, none, none, none, none, none] ∧ FrL H' f es (firstK (Bs.sub R rs cs) rs.length i) ∧ Ex H3 H') ?_ ?_ ?_⟩
      · exact ⟨_, _, f0, [], rfl, ⟨e4 _ _ upd_same, .nil⟩, xf.trans e4⟩
      · rintro i σ' H5 hi ⟨y6, y7, f, es, rfl, hF, e5⟩
        rw [Int.toNat_natCast] at hi
        rw [Int.zero_add]
        refine ⟨fun σ' H' => ∃ (q : Addr) (qs : List Addr), σ' = [some (.ref p), some (.ref t), some (.ref a), some (.ref b), some (.ref u), some (.ref f), some (.int (i : Int)), some (.ref q), none, none, none, none, none, none, none, none, none] ∧ FrL H' q qs (solQ (Bs.sub R rs cs) rs.length (unitL rs.length i)) ∧ Ex H5 H', ?_, ?_⟩
        · refine ⟨_, rfl, ?_⟩
          refine (el_rng (m := rs.length) (fun j => if j = i then 1 else 0) (ea_cons (ev_is (ev_len (K := K) (ev_var (i := 2) rfl) (SqL.of ((e3.trans e5) _ _ ha2))) (show V.int (((Sg.zs rs).map V.int).length : Nat) = .int (rs.length : Nat) by rw [List.length_map, zl])) ea_nil) (by omega) (fun x => rfl) (fun j H6 e6 hj => ?_)) H5 (Ex.refl _) _ fun l H6 nl e6 hl => ?_
          · refine ev_is (ev_int1 (ev_op (ev_var (i := 6) rfl) (ev_var (i := 15) rfl) (rv_eq rfl))) ?_
            by_cases c : j = i
            · rw [if_pos c, if_pos (decide_eq_true (by rw [c]))]
            · rw [if_neg c, if_neg (fun z => c (by have := V.int.inj (of_decide_eq_true z); omega))]
          · exact ⟨u, l, us, Bs.sub R rs cs, unitL rs.length i, rs.length, Bs.val R rs cs, rfl, U3.ex (e5.trans e6), by omega, sb, hl, unitL_len _ i, uq i, hv0, h0, bD, fun q qs H7 nq e7 hq => ⟨q, qs, rfl, hq, e6.trans e7⟩⟩
        rintro _ H6 ⟨q, qs, rfl, hq, e6⟩
        have hF6 := hF.ex e6
        have ql : (solQ (Bs.sub R rs cs) rs.length (unitL rs.length i)).length = rs.length := by unfold solQ; rw [List.length_map, List.length_range]
        have qb := sol_bd sl sw (unitL_len rs.length i) (by omega) sb (uq i) hv0 h0 bD
        have step := firstK_succ (S := Bs.sub R rs cs) (i := i) r1
        refine s_when (b := (firstK (Bs.sub R rs cs) rs.length i).isEmpty && broke (solQ (Bs.sub R rs cs) rs.length (unitL rs.length i))) (et_and (et_test (ev_eqNilQ (ev_var (i := 5) rfl) hF6)) fun _ => et_is (et_not (et_B (ev_allB (el_pairsB (K := K) (n := 7) (fun e => decide (e.2 = 1)) rfl hq.1 (fedges35 hq.2) (by rw [List.length_map]; omega) (fun u v => rfl) fun e H7 he e7 => ev_is (ev_op (ev_var (i := 11) rfl) ev_c (rv_eq rfl)) ?_)))) ?_) (fun z H7 e7 => ?_) (fun z H7 e7 => ?_)
        · exact congrArg V.bl (decide_eq_decide.mpr ⟨fun z => V.int.inj z, fun z => by rw [z]⟩)
        · unfold broke
          rw [List.map_map, List.all_map, List.not_all_eq_any_not]
          congr 1
          funext q
          show (!decide ((q.den : Int) = 1)) = decide (q.den ≠ 1)
          rw [← decide_not]
          exact decide_eq_decide.mpr (by omega)
        · rw [if_pos z] at step
          refine lc_frMap2 (K := K) (n := 7) restQ rfl (hq.ex e7) (by omega) (fun u v => rfl) (fun y G hy eG => ?_) fun f2 es2 G nf2 eG hf2 => ⟨_, _, f2, es2, rfl, by rw [step]; exact hf2, e5.trans (e6.trans (e7.trans eG))⟩
          have dp := Fq.dpos y
          have ef : frV (restQ y) = [V.int (y.num % (y.den : Int)), .int (y.den : Int)] := by
            unfold frV
            rw [(rest_facts y).1, (rest_facts y).2]
          rw [ef]
          exact eu_tup (ea_cons (ev_op (ev_var (i := 16) rfl) (ev_var (i := 11) rfl) (rv_I dp)) (ea_cons (ev_var (i := 11) rfl) ea_nil)) (Nat.le_of_ble_eq_true rfl)
        · rw [if_neg (by rw [z]; decide)] at step
          rw [← step] at hF6
          exact ⟨_, _, f, es, rfl, hF6.ex e7, e5.trans (e6.trans e7)⟩
      rintro σ' H5 ⟨y6, y7, f, es, rfl, hF, e5⟩
      rw [Int.toNat_natCast] at hF
      have hF : FrL H5 f es (restsQ (Bs.sub R rs cs) rs.length) := hF
      have rlen : (restsQ (Bs.sub R rs cs) rs.length).length = rs.length := restsQ_len sl sw hv0 B.bad
      have e05 := e02.trans (e3.trans e5)
      have T5 := hT.ex e05
      have ha5 := (e3.trans e5) _ _ ha2
      have hb5 := (e3.trans e5) _ _ hb2
      obtain ⟨a0, r0, _, _, hh0, hl0, at0⟩ := T5.row0
      -- xs
      refine ⟨fun σ' H' => ∃ (x : Addr) (es : List Addr), σ' = [some (.ref p), some (.ref t), some (.ref a), some (.ref b), some (.ref u), some (.ref f), y6, y7, some (.ref x), none, none, none, none, none, none, none, none] ∧ FrL H' x es (List.replicate w 0) ∧ H5 x = none ∧ Ex H5 H', ?_, ?_⟩
      · refine ⟨(by show 2 ≤ sizeLine; decide), fun t1 nt1 => ⟨(by show 1 ≤ sizeLine; decide), fun l nl => ?_⟩⟩
        have x1 := Ex.new (o := .tup [V.int 0, .int 1]) nt1
        have x2 := Ex.new (o := .lst [V.ref t1]) nl
        refine (ev_is (ev_len (K := K) (ev_op (ev_var (i := 0) rfl) ev_c (rv_ixL (SqL.of ((x1.trans x2) _ _ T5.tab.1)) at0)) (SqL.of ((x1.trans x2) _ _ hh0))) (show V.int ((r0.map V.int).length : Nat) = .int (w : Nat) by rw [List.length_map, hl0])) _ (Ex.refl _) _ fun H6 e6 => ⟨l, (w : Int), [V.ref t1], rfl, rfl, e6 _ _ upd_same, by omega, by omega, sz_of (by rw [Int.toNat_natCast]; show 1 * w ≤ 100000; omega), fun x nx => ?_⟩
        have x3 := Ex.new (o := .lst (List.replicate (w : Int).toNat [V.ref t1]).flatten) nx
        have ht1 := (x2.trans (e6.trans x3)) _ _ (show (upd H5 t1 (.tup [V.int 0, .int 1])) t1 = _ from upd_same)
        refine ⟨x, List.replicate w t1, rfl, ⟨?_, frs_rep35 ht1 w⟩, fresh_back (x1.trans (x2.trans e6)) nx, x1.trans (x2.trans (e6.trans x3))⟩
        rw [upd_same, Int.toNat_natCast, flat_rep35, List.map_replicate]
      rintro _ H6 ⟨x, es0, rfl, hx0, nx, e6⟩
      have bl : es.length = rs.length := by rw [Paired.length hF.2, rlen]
      -- the places
      refine q_forZ (K := K) (xs := (Sg.zs cs).map V.int) (ys := es.map V.ref) (ea_cons (ev_var (i := 3) rfl) (ea_cons (ev_var (i := 5) rfl) ea_nil)) (SqL.of (e6 _ _ hb5)) (SqL.of (e6 _ _ hF.1)) (by rw [List.length_map, List.length_map, zc, bl]) (fun i σ' H' => ∃ (y9 y10 : Option V) (es : List Addr), σ' = [some (.ref p), some (.ref t), some (.ref a), some (.ref b), some (.ref u), some (.ref f), y6, y7, some (.ref x), y9, y10, none, none, none, none, none, none] ∧ FrL H' x es ((((restsQ (Bs.sub R rs cs) rs.length).zip cs).take i).foldl (fun l p => l.set p.2 p.1) (List.replicate w 0)) ∧ Ex H5 H') (fun H7 e7 => ⟨_, _, es0, rfl, hx0.ex e7, e6.trans e7⟩) (fun i σ' H' ⟨_, _, _, _, _, e⟩ => ⟨SqL.of (e _ _ hb5), SqL.of (e _ _ hF.1)⟩) (fun i vx vy T σ' H7 hvx hvy hP nT => ?_) (fun σ' H7 hP => ?_)
      · obtain ⟨y9, y10, es1, rfl, h2, e2'⟩ := hP
        have xT := Ex.new (o := .tup [vx, vy]) nT
        rw [List.getElem?_map] at hvy
        obtain ⟨c, hcx, rfl⟩ := Option.map_eq_some_iff.mp hvy
        obtain ⟨r, hr, hcr⟩ := paired_get hF.2 hcx
        unfold Sg.zs at hvx
        rw [List.getElem?_map, List.getElem?_map] at hvx
        obtain ⟨z, hz, rfl⟩ := Option.map_eq_some_iff.mp hvx
        obtain ⟨jc, hj, rfl⟩ := Option.map_eq_some_iff.mp hz
        have h3 := h2.ex xT
        have el : es1.length = w := by rw [Paired.length h3.2, fold_len, List.length_replicate]
        have jw := mc jc (List.mem_of_getElem? hj)
        refine ⟨T, _, rfl, SqT.of upd_same, rfl, _, _, rfl, _, _, rfl, rfl, _, rfl, _, rfl, _, rfl, x, es1.map V.ref, (jc : Int), jc, rfl, rfl, h3.1, ?_, ?_⟩
        · exact Evl.ixN_nat (n := (es1.map V.ref).length) (j := jc) (by rw [List.length_map]; omega)
        · have hcr3 := (e2'.trans xT) _ _ hcr
          have zz : ((restsQ (Bs.sub R rs cs) rs.length).zip cs)[i]? = some (r, jc) := by rw [List.getElem?_zip_eq_some]; exact ⟨hr, hj⟩
          refine ⟨_, _, es1.set jc c, rfl, ⟨by rw [upd_same, List.map_set], ?_⟩, Ex.mut (e2'.trans xT) nx⟩
          rw [take_snoc zz, List.foldl_append]
          exact frs_upd35 (paired_set35 h3.2 hcr3) h3.1
      obtain ⟨y9, y10, es1, rfl, h2, e7⟩ := hP
      rw [List.length_map, zc, List.take_of_length_le (by rw [List.length_zip]; omega)] at h2
      have h2 : FrL H7 x es1 (xQ R w rs cs) := h2
      have xb := xQ_bd B (by omega) hb bD
      have xl : (xQ R w rs cs).length = w := sprd_len _ _ _
      have b110 : ∀ r ∈ R, ∀ y ∈ r, Bd 110 y := fun r hr y hy => (hb r hr y hy).mono (by decide)
      have e07 := e05.trans e7
      have T7 := hT.ex e07
      -- sums
      refine ⟨_, rfl, _, rfl, p, x, as, es1, R, xQ R w rs cs, rfl, T7.tab, by rw [hT.m_]; omega, fun r hr => ⟨by rw [hT.w_ r hr, xl], b110 r hr⟩, h2, by omega, xb, fun tt pt H8 ntt e8 htt hpt => ⟨tt, _, rfl, SqT.of htt, rfl, _, _, rfl, _, _, rfl, rfl, ?_⟩⟩
      have c0 := (Fq.com_all (xQ R w rs cs)).1
      have cb : Bd 9000 (Fq.comB (xQ R w rs cs)) := by
        have := Fq.com_bd (k := 700) (xQ R w rs cs) 1 1 (by decide) (by unfold Bd; decide) fun q h => (xb q h).2
        exact this.mono (by omega)
      -- bounds
      refine ⟨fun σ' H' => ∃ bo : Addr, σ' = [some (.ref p), some (.ref t), some (.ref a), some (.ref b), some (.ref u), some (.ref f), y6, y7, some (.ref x), y9, y10, some (.int (Fq.comB (xQ R w rs cs))), some (.ref pt), some (.ref bo), none, none, none] ∧ H' bo = some (.lst ((boundL R (xQ R w rs cs)).map V.int)) ∧ Ex H8 H', ?_, ?_⟩
      · have eb : boundL R (xQ R w rs cs) = (Ls.totals R (Fq.tops (xQ R w rs cs))).map fun y => 0 - (0 - y) / Fq.comB (xQ R w rs cs) := by
          unfold boundL Ls.totals
          rw [List.map_map]
          refine List.map_congr_left fun r _ => ?_
          show Fq.ce (fsum r (xQ R w rs cs)) = 0 - (0 - Ls.dot r (Fq.tops (xQ R w rs cs))) / Fq.comB (xQ R w rs cs)
          rw [Fq.fsum_mk, Fq.ce_mk c0, Int.zero_sub, Int.zero_sub]
        rw [eb]
        refine s_asgL (el_mapI (K := K) (n := 12) (fun y => 0 - (0 - y) / Fq.comB (xQ R w rs cs)) rfl hpt (by unfold Ls.totals; rw [List.length_map, hT.m_]; omega) (fun u => rfl) fun y H9 hy e9 => ?_) fun bo H9 nbo e9 hbo => ⟨bo, rfl, hbo, e9⟩
        exact ev_op ev_c (ev_op (ev_op ev_c (ev_var (i := 16) rfl) rv_I0) (ev_var (i := 11) rfl) (rv_I (Bd.divOk c0 cb))) rv_I0
      rintro _ H9 ⟨bo, rfl, hbo, e9⟩
      have e79 := e8.trans e9
      have e09 := e07.trans e79
      have T9 := hT.ex e09
      have ha9 := (e7.trans e79) _ _ ha5
      have hb9 := (e7.trans e79) _ _ hb5
      have hh9 := (e7.trans e79) _ _ hh0
      -- gains
      refine ⟨fun σ' H' => ∃ g : Addr, σ' = [some (.ref p), some (.ref t), some (.ref a), some (.ref b), some (.ref u), some (.ref f), y6, y7, some (.ref x), y9, y10, some (.int (Fq.comB (xQ R w rs cs))), some (.ref pt), some (.ref bo), some (.ref g), none, none] ∧ H' g = some (.lst (((List.range w).map (gainF R rs cs)).map V.int)) ∧ Ex H9 H', ?_, ?_⟩
      · refine s_asgL (xs := ((List.range w).map (gainF R rs cs)).map V.int) (el_rng (m := w) (gainF R rs cs) (ea_cons (ev_is (ev_len (K := K) (ev_op (ev_var (i := 0) rfl) ev_c (rv_ixL (SqL.of T9.tab.1) at0)) (SqL.of hh9)) (show V.int ((r0.map V.int).length : Nat) = .int (w : Nat) by rw [List.length_map, hl0])) ea_nil) (by omega) (fun x => rfl) (fun j H10 e10 hj => ?_)) fun g H10 ng e10 hg => ⟨g, rfl, hg, e10⟩
        refine ev_op (x := .int ((rs.map fun i => Dt.at_ R i j).sum)) (y := .int (if (Sg.zs cs).contains (j : Int) = true then 0 else 1)) ?_ ?_ rv_I0
        · have es : (rs.map fun i => Dt.at_ R i j) = (Sg.zs rs).map fun y => Dt.at_ R y.toNat j := by
            unfold Sg.zs
            rw [List.map_map]
            rfl
          rw [es]
          refine ev_sumL (el_mapI (K := K) (n := 2) (fun y => Dt.at_ R y.toNat j) rfl (e10 _ _ ha9) (by omega) (fun u => rfl) fun y H11 hy e11 => ?_)
          unfold Sg.zs at hy
          obtain ⟨i, hi, rfl⟩ := List.mem_map.mp hy
          have T11 := T9.ex (e10.trans e11)
          obtain ⟨ai, ri, h1, h2, h3, h4⟩ := T11.row (i := (i : Int)) (by omega) (by have := mr i hi; omega)
          rw [Int.toNat_natCast] at h2
          rw [Int.toNat_natCast]
          have ent : Dt.at_ R i j = ri[j]?.getD 0 := by
            show (R[i]?.getD [])[j]?.getD 0 = _
            rw [h2]
            rfl
          rw [ent]
          exact ev_op (ev_op (ev_var (i := 0) rfl) (ev_var (i := 15) rfl) (rv_ixL (SqL.of T11.tab.1) h1)) (ev_var (i := 9) rfl) (rv_ixL (SqL.of h3) (atI_row (by omega)))
        · refine ev_is (ev_int1 (ev_op (ev_var (i := 9) rfl) (ev_var (i := 3) rfl) (rv_niL (SqL.of (e10 _ _ hb9)) rfl (flat_ints _)))) ?_
          rw [inV_has]
          cases (Sg.zs cs).contains (j : Int) <;> rfl
      rintro _ H10 ⟨g, rfl, hg, e10⟩
      refine s_retU (eu_tup (ea_cons (ev_var (i := 13) rfl) (ea_cons (ev_var (i := 14) rfl) (ea_cons (ev_var (i := 8) rfl) ea_nil))) (Nat.le_of_ble_eq_true rfl)) fun r H11 nr e11 hr => k _ H11 (e09.trans (e10.trans e11)) ?_
      exact ⟨r, bo, g, x, es1, rfl, hr, (e10.trans e11) _ _ hbo, e11 _ _ hg, h2.ex (e79.trans (e10.trans e11))⟩
-- DEF law
theorem tf_le {M : Nat} : ∀ (ts : List Str) (k : Nat) (acc : Str), (∀ t ∈ ts, t.length ≤ M) → (PySem.textFrom k acc ts).length ≤ acc.length + ts.length * (M + 2)
  | [], _, acc, _ => by show acc.length ≤ _; omega
  | t :: ts, k, acc, h => by
    have ih := tf_le ts (k + 1) (acc ++ (if k > 0 then ", " else "" : String) ++ t) (fun u hu => h u (.tail _ hu))
    have h1 := h t (.head _)
    have e : (acc ++ (if k > 0 then ", " else "" : String) ++ t).length ≤ acc.length + 2 + t.length := by
      rw [PySem.strLen_append, PySem.strLen_append]
      by_cases c : k > 0
      · rw [if_pos c]
        have : (Str.ofString ", ").length = 2 := by decide +kernel
        omega
      · rw [if_neg c]
        have : (Str.ofString "").length = 0 := by decide +kernel
        omega
    show (PySem.textFrom (k + 1) (acc ++ (if k > 0 then ", " else "" : String) ++ t) ts).length ≤ _
    rw [List.length_cons, Nat.add_mul]
    omega
theorem lt_le {M n : Nat} {ts : List Str} (h : ∀ t ∈ ts, t.length ≤ M) (hn : ts.length ≤ n) : (PySem.listText ts).length ≤ 2 + n * (M + 2) := by
  have h1 := tf_le ts 0 "[" h
  have e : (PySem.listText ts).length = (PySem.textFrom 0 "[" ts).length + 1 := by
    show (PySem.textFrom 0 "[" ts ++ "]").length = _
    rw [PySem.strLen_append]
    rfl
  have e2 : (Str.ofString "[").length = 1 := by decide +kernel
  have := Nat.mul_le_mul_right (M + 2) hn
  omega
theorem all_shown {M : Nat} : ∀ {ds : List PyData}, (∀ d ∈ ds, d.shown.length ≤ M) → (∀ t ∈ PyData.shownAll ds, t.length ≤ M) ∧ (PyData.shownAll ds).length = ds.length
  | [], _ => ⟨fun t ht => (nomatch ht), rfl⟩
  | d :: ds, h => by
    obtain ⟨i1, i2⟩ := all_shown (ds := ds) fun x hx => h x (.tail _ hx)
    refine ⟨fun t ht => ?_, congrArg (· + 1) i2⟩
    rcases List.mem_cons.mp ht with rfl | ht
    · exact h d (.head _)
    · exact i1 t ht
theorem list_shown {M n : Nat} {ds : List PyData} (h : ∀ d ∈ ds, d.shown.length ≤ M) (hn : ds.length ≤ n) : (PyData.list ds).shown.length ≤ 2 + n * (M + 2) := by
  obtain ⟨i1, i2⟩ := all_shown h
  exact lt_le i1 (by rw [i2]; exact hn)
theorem all_showable : ∀ {ds : List PyData}, (∀ d ∈ ds, d.showable = true) → PyData.showableAll ds = true
  | [], _ => rfl
  | d :: ds, h => by
    show (d.showable && PyData.showableAll ds) = true
    rw [h d (.head _), all_showable fun x hx => h x (.tail _ hx)]
    rfl
theorem int_text {i : Int} (h : i.natAbs.log2 < 1920) : (Str.ofString (toString i)).length ≤ 1000 := by
  have h2 : i.natAbs < 10 ^ 600 := by
    by_cases z : i.natAbs = 0
    · rw [z]; decide +kernel
    · exact Nat.lt_of_lt_of_le ((Nat.log2_lt z).mp h) (by decide +kernel)
  have e := PySem.int_text_length_le10 (k := 600) (by decide) h2
  rw [PySem.ofString_length]
  omega
theorem bd_log {n : Nat} {i : Int} (h : Bd n i) (hn : n ≤ 1900) : i.natAbs.log2 < 1920 := by
  by_cases z : i.natAbs = 0
  · rw [z]
    decide
  · exact (Nat.log2_lt z).mpr (Nat.lt_of_lt_of_le h (Nat.pow_le_pow_right (by decide) (by omega)))
def tabD (rows : List (List Int)) : PyData := .list (rows.map fun r => .list (r.map .int))
theorem tabD_ok {n : Nat} {rows : List (List Int)} (hb : ∀ r ∈ rows, ∀ y ∈ r, Bd n y) (hn : n ≤ 1900) (hm : rows.length ≤ 8) (hw : ∀ r ∈ rows, r.length ≤ 8) : (tabD rows).showable = true ∧ (tabD rows).shown.length ≤ 70000 := by
  have row : ∀ d ∈ rows.map (fun r => PyData.list (r.map .int)), d.showable = true ∧ d.shown.length ≤ 8018 := fun d hd => by
    obtain ⟨r, hr, rfl⟩ := List.mem_map.mp hd
    refine ⟨all_showable fun x hx => ?_, list_shown (M := 1000) (n := 8) (fun x hx => ?_) (by rw [List.length_map]; exact hw r hr)⟩
    · obtain ⟨y, hy, rfl⟩ := List.mem_map.mp hx
      exact decide_eq_true (bd_log (hb r hr y hy) hn)
    · obtain ⟨y, hy, rfl⟩ := List.mem_map.mp hx
      exact int_text (bd_log (hb r hr y hy) hn)
  refine ⟨all_showable fun d hd => (row d hd).1, ?_⟩
  have := list_shown (M := 8018) (n := 8) (fun d hd => (row d hd).2) (by rw [List.length_map]; exact hm)
  exact Nat.le_trans this (by decide)
theorem tab_dp {K : PySem.W.Frag} {H : Hp} {p : Addr} {as : List Addr} {rows : List (List Int)} (h : Tab H p as rows) : Dp K H (.ref p) (tabD rows) := .lst (SqL.of h.1) (dp_rows h.2)
theorem tabD_lay (rows : List (List Int)) : (tabD rows).canLay0 = true := canLay_rows rows
theorem tabD_depth (rows : List (List Int)) : (tabD rows).depth ≤ 2 := by
  have := depth_rows rows
  show PyData.depthAll _ + 1 ≤ 2
  omega
def Small (n : Nat) (rows : List (List Int)) : Prop := (∀ r ∈ rows, ∀ y ∈ r, Bd n y) ∧ rows.length ≤ 8 ∧ ∀ r ∈ rows, r.length ≤ 8
theorem tup_shown (a b : PyData) : (PyData.tuple [a, b]).shown.length ≤ a.shown.length + b.shown.length + 7 := by
  have h := PySem.tupleText_len_le [a.shown, b.shown]
  have e : (([a.shown, b.shown] : List Str).map (·.length)).sum = a.shown.length + b.shown.length := by simp
  rw [e] at h
  exact Nat.le_trans h (by show _ + 2 * 2 + 3 ≤ _; omega)
theorem qs_ok {qs : List Rat} (hb : ∀ q ∈ qs, BdQ 700 700 q) (h8 : qs.length ≤ 8) : (PyData.list (qs.map qD)).showable = true ∧ (PyData.list (qs.map qD)).shown.length ≤ 70000 := by
  have one : ∀ q ∈ qs, (qD q).showable = true ∧ (qD q).shown.length ≤ 2007 := fun q hq => by
    obtain ⟨b1, b2⟩ := hb q hq
    refine ⟨all_showable fun d hd => ?_, ?_⟩
    · rcases List.mem_cons.mp hd with rfl | hd
      · exact decide_eq_true (bd_log b1 (by decide))
      · rw [List.mem_singleton.mp hd]
        exact decide_eq_true (bd_log b2 (by decide))
    · have t1 : (PyData.int q.num).shown.length ≤ 1000 := int_text (bd_log b1 (by decide))
      have t2 : (PyData.int (q.den : Int)).shown.length ≤ 1000 := int_text (bd_log b2 (by decide))
      exact Nat.le_trans (tup_shown _ _) (by omega)
  refine ⟨all_showable fun d hd => ?_, Nat.le_trans (list_shown (M := 2007) (n := 8) (fun d hd => ?_) (by rw [List.length_map]; exact h8)) (by decide)⟩
  · obtain ⟨y, hy, rfl⟩ := List.mem_map.mp hd
    exact (one y hy).1
  · obtain ⟨y, hy, rfl⟩ := List.mem_map.mp hd
    exact (one y hy).2
theorem ev_reprT41 {K : PySem.W.Frag} {ta : TE} {σ : L2.St} {H : Hp} {p : Addr} {as : List Addr} {A : List (List Int)} (ha : Ev ta σ H (.ref p)) (hA : Tab H p as A) (sA : Small 110 A) :
    Ev (tCB (Own2.rShown2 K) (tCons ta tNil)) σ H (.str (tabD A).shown) := fun H1 e Q k => ha H1 e _ fun H2 e2 => by
  have a1 := tabD_ok sA.1 (by decide) sA.2.1 sA.2.2
  refine .inl ⟨p, _, rfl, tab_dp (hA.ex (e.trans e2)), a1.1, PyData.hasDict_of_canLay _ (tabD_lay A), ?_, ?_, k _ e2⟩
  · have d1 := tabD_depth A
    show (tabD A).depth ≤ 50
    omega
  · exact Nat.le_trans a1.2 (by decide)
theorem shaped_tuple35 {ds : List PyData} (h : PyData.canLayAll0 ds = true) (h2 : PyData.depthAll ds ≤ 60) : SeqAt.shaped (.tuple ds) = true := by
  unfold SeqAt.shaped
  have e1 : (PyData.tuple ds).canLay0 = true := h
  have e2 : (PyData.tuple ds).depth ≤ 64 := by
    show PyData.depthAll ds + 1 ≤ 64
    omega
  rw [e1, decide_eq_true e2]
  rfl
theorem le_num {q : Rat} {N : Int} (h : q ≤ (N : Rat)) : q.num ≤ N * (q.den : Int) := by
  have := (Rat.le_iff _ _).mp h
  rw [show ((N : Int) : Rat).den = 1 from rfl, show ((N : Int) : Rat).num = N from rfl] at this
  simpa using this
theorem ge_num {q : Rat} {N : Int} (h : (N : Rat) ≤ q) : N * (q.den : Int) ≤ q.num := by
  have := (Rat.le_iff _ _).mp h
  rw [show ((N : Int) : Rat).den = 1 from rfl, show ((N : Int) : Rat).num = N from rfl] at this
  simpa using this
/-- the least whole number not below, between the bounds -/
theorem ce_between {q : Rat} {N : Int} (h1 : ((-N : Int) : Rat) ≤ q) (h2 : q ≤ (N : Rat)) : -N ≤ -((-q.num) / (q.den : Int)) ∧ -((-q.num) / (q.den : Int)) ≤ N := by
  have dp := Fq.dpos q
  have a1 := ge_num h1
  have a2 := le_num h2
  have b1 : (-q.num) / (q.den : Int) ≤ N := by
    refine Int.ediv_le_of_le_mul dp ?_
    rw [Int.neg_mul] at a1
    omega
  have b2 : -N ≤ (-q.num) / (q.den : Int) := by
    refine Int.le_ediv_of_mul_le dp ?_
    rw [Int.neg_mul]
    omega
  omega
theorem bq_between {q : Rat} {a b : Nat} (h : BdQ a b q) : ((-(2 ^ a : Nat) : Int) : Rat) ≤ q ∧ q ≤ (((2 ^ a : Nat) : Int) : Rat) := by
  have dp := Fq.dpos q
  have h1 : q.num.natAbs < 2 ^ a := h.1
  have k0 : (((2 ^ a : Nat) : Int)) ≤ ((2 ^ a : Nat) : Int) * (q.den : Int) := by
    have := Int.mul_le_mul_of_nonneg_left (show (1 : Int) ≤ (q.den : Int) by omega) (show (0 : Int) ≤ ((2 ^ a : Nat) : Int) by omega)
    rwa [Int.mul_one] at this
  generalize 2 ^ a = A at *
  refine ⟨(Rat.le_iff _ _).mpr ?_, (Rat.le_iff _ _).mpr ?_⟩
  · rw [show (((-(A : Nat) : Int)) : Rat).den = 1 from rfl, show (((-(A : Nat) : Int)) : Rat).num = -(A : Int) from rfl, Int.neg_mul]
    show _ ≤ q.num * ((1 : Nat) : Int)
    rw [show (((1 : Nat) : Int)) = 1 from rfl, Int.mul_one]
    omega
  · rw [show ((((A : Nat) : Int)) : Rat).den = 1 from rfl, show ((((A : Nat) : Int)) : Rat).num = (A : Int) from rfl]
    show q.num * ((1 : Nat) : Int) ≤ _
    rw [show (((1 : Nat) : Int)) = 1 from rfl, Int.mul_one]
    omega
theorem fold_between {N : Int} (ts : List Rat) : ∀ (z : Rat) (k : Nat), (∀ t ∈ ts, ((-N : Int) : Rat) ≤ t ∧ t ≤ (N : Rat)) → ((-((k : Int) * N) : Int) : Rat) ≤ z → z ≤ (((k : Int) * N : Int) : Rat) → ((-(((k + ts.length : Nat) : Int) * N) : Int) : Rat) ≤ ts.foldl (· + ·) z ∧ ts.foldl (· + ·) z ≤ ((((k + ts.length : Nat) : Int) * N : Int) : Rat) := by
  induction ts with
  | nil => exact fun z k _ h1 h2 => ⟨h1, h2⟩
  | cons t ts ih =>
    intro z k h h1 h2
    obtain ⟨t1, t2⟩ := h t (List.mem_cons_self ..)
    have e : ((k + 1 : Nat) : Int) * N = (k : Int) * N + N := by
      rw [Int.natCast_add, Int.add_mul]
      show _ + 1 * N = _
      rw [Int.one_mul]
    have := ih (z + t) (k + 1) (fun x hx => h x (List.mem_cons_of_mem _ hx)) (by
      rw [e, Int.neg_add, Rat.intCast_add]
      grind) (by
      rw [e, Rat.intCast_add]
      grind)
    rw [List.foldl_cons, show k + (t :: ts).length = k + 1 + ts.length by rw [List.length_cons]; omega]
    exact this
theorem bound_bd {R : List (List Int)} {qs : List Rat} (hb : ∀ r ∈ R, ∀ y ∈ r, Bd 110 y) (hq : ∀ q ∈ qs, BdQ 700 700 q) (h8 : qs.length ≤ 8) : ∀ y ∈ boundL R qs, Bd 820 y := fun y hy => by
  unfold boundL at hy
  obtain ⟨r, hr, rfl⟩ := List.mem_map.mp hy
  have tb := terms_bd (hb r hr) hq
  have tl : (terms r qs).length ≤ 8 := by unfold terms; rw [List.length_zipWith]; omega
  have f := fold_between (N := ((2 ^ (110 + 700) : Nat) : Int)) (terms r qs) 0 0 (fun t ht => bq_between (tb t ht)) (by rw [show ((0 : Nat) : Int) * ((2 ^ (110 + 700) : Nat) : Int) = 0 from Int.zero_mul _]; exact Rat.le_refl) (by rw [show ((0 : Nat) : Int) * ((2 ^ (110 + 700) : Nat) : Int) = 0 from Int.zero_mul _]; exact Rat.le_refl)
  have g := ce_between f.1 f.2
  have h2 : (((0 + (terms r qs).length : Nat) : Int)) * ((2 ^ (110 + 700) : Nat) : Int) < ((2 ^ 820 : Nat) : Int) := by
    have h3 : (0 + (terms r qs).length) * 2 ^ (110 + 700) ≤ 8 * 2 ^ (110 + 700) := Nat.mul_le_mul_right _ (by omega)
    have h4 : 8 * 2 ^ (110 + 700) < 2 ^ 820 := by decide +kernel
    rw [← Int.natCast_mul]
    exact Int.ofNat_lt.mpr (Nat.lt_of_le_of_lt h3 h4)
  show (-((-(fsum r qs).num) / ((fsum r qs).den : Int))).natAbs < 2 ^ 820
  have e : fsum r qs = (terms r qs).foldl (· + ·) 0 := rfl
  rw [e]
  generalize (((0 + (terms r qs).length : Nat) : Int)) * ((2 ^ (110 + 700) : Nat) : Int) = X at *
  generalize 2 ^ 820 = Y at *
  omega
theorem sum_small {l : List Int} {M : Nat} : (∀ y ∈ l, y.natAbs < M) → l.sum.natAbs ≤ l.length * M := by
  induction l with
  | nil => exact fun _ => Nat.zero_le _
  | cons y l ih =>
    intro h
    have h1 := h y (List.mem_cons_self ..)
    have h2 := ih fun x hx => h x (List.mem_cons_of_mem _ hx)
    rw [List.sum_cons, List.length_cons, Nat.add_mul, Nat.one_mul]
    omega
theorem gain_bd {R : List (List Int)} {rs cs : List Nat} {j : Nat} (hb : ∀ r ∈ R, ∀ y ∈ r, Bd 100 y) (h8 : rs.length ≤ 8) : Bd 820 (gainF R rs cs j) := by
  have h1 := sum_small (l := rs.map fun i => Dt.at_ R i j) (M := 2 ^ 100) fun y hy => by
    obtain ⟨i, _, rfl⟩ := List.mem_map.mp hy
    exact at_bd35 hb
  rw [List.length_map] at h1
  have h2 : rs.length * 2 ^ 100 + 1 < 2 ^ 820 := Nat.lt_of_le_of_lt (Nat.add_le_add_right (Nat.mul_le_mul_right (2 ^ 100) h8) 1) (by decide +kernel)
  show (gainF R rs cs j).natAbs < 2 ^ 820
  unfold gainF
  generalize rs.length * 2 ^ 100 = X at *
  generalize 2 ^ 820 = Y at *
  split <;> omega
theorem intsW_ok {xs : List Int} (hb : ∀ x ∈ xs, Bd 820 x) (h8 : xs.length ≤ 8) : (PyData.list (xs.map .int)).showable = true ∧ (PyData.list (xs.map .int)).shown.length ≤ 70000 := by
  refine ⟨all_showable fun d hd => ?_, Nat.le_trans (list_shown (M := 1000) (n := 8) (fun d hd => ?_) (by rw [List.length_map]; exact h8)) (by decide)⟩
  · obtain ⟨y, hy, rfl⟩ := List.mem_map.mp hd
    exact decide_eq_true (bd_log (hb y hy) (by decide))
  · obtain ⟨y, hy, rfl⟩ := List.mem_map.mp hd
    exact int_text (bd_log (hb y hy) (by decide))
/-- what is told, as data -/
def dueD (bs gs : List Int) (qs : List Rat) : PyData := .tuple [.list (bs.map .int), .list (gs.map .int), .list (qs.map qD)]
theorem dueD_lay (bs gs : List Int) (qs : List Rat) : PyData.canLayAll0 [.list (bs.map .int), .list (gs.map .int), .list (qs.map qD)] = true := by
  show (PyData.canLayAll0 (bs.map .int) && (PyData.canLayAll0 (gs.map .int) && (PyData.canLayAll0 (qs.map qD) && true))) = true
  rw [canLay_ints, canLay_ints, lay_qs]
  rfl
theorem dueD_depth (bs gs : List Int) (qs : List Rat) : PyData.depthAll [.list (bs.map .int), .list (gs.map .int), .list (qs.map qD)] ≤ 2 := by
  have d1 := depth_ints bs
  have d2 := depth_ints gs
  have d3 := depth_qs qs
  show max (PyData.depthAll (bs.map .int) + 1) (max (PyData.depthAll (gs.map .int) + 1) (max (PyData.depthAll (qs.map qD) + 1) 0)) ≤ 2
  omega
theorem dueD_ok {bs gs : List Int} {qs : List Rat} (h1 : ∀ x ∈ bs, Bd 820 x) (l1 : bs.length ≤ 8) (h2 : ∀ x ∈ gs, Bd 820 x) (l2 : gs.length ≤ 8) (h3 : ∀ q ∈ qs, BdQ 700 700 q) (l3 : qs.length ≤ 8) : (dueD bs gs qs).showable = true ∧ (dueD bs gs qs).shown.length ≤ 210009 := by
  have a := intsW_ok h1 l1
  have b := intsW_ok h2 l2
  have c := qs_ok h3 l3
  refine ⟨all_showable fun d hd => ?_, ?_⟩
  · simp only [List.mem_cons, List.not_mem_nil, or_false] at hd
    rcases hd with rfl | rfl | rfl
    · exact a.1
    · exact b.1
    · exact c.1
  · have h := PySem.tupleText_len_le [(PyData.list (bs.map .int)).shown, (PyData.list (gs.map .int)).shown, (PyData.list (qs.map qD)).shown]
    have e : (([(PyData.list (bs.map .int)).shown, (PyData.list (gs.map .int)).shown, (PyData.list (qs.map qD)).shown] : List Str).map (·.length)).sum = (PyData.list (bs.map .int)).shown.length + ((PyData.list (gs.map .int)).shown.length + ((PyData.list (qs.map qD)).shown.length + 0)) := rfl
    rw [e] at h
    have h' : (dueD bs gs qs).shown.length ≤ (PyData.list (bs.map .int)).shown.length + ((PyData.list (gs.map .int)).shown.length + ((PyData.list (qs.map qD)).shown.length + 0)) + 2 * 3 + 3 := h
    omega
theorem due_ok {R : List (List Int)} {m w : Nat} {rs cs : List Nat} (B : BadF R m w rs cs) (m5 : m ≤ 5) (w5 : w ≤ 5) (hm : R.length = m) (hb : ∀ r ∈ R, ∀ y ∈ r, Bd 100 y) : (dueD (boundL R (xQ R w rs cs)) ((List.range w).map (gainF R rs cs)) (xQ R w rs cs)).showable = true ∧ (dueD (boundL R (xQ R w rs cs)) ((List.range w).map (gainF R rs cs)) (xQ R w rs cs)).shown.length ≤ 210009 := by
  have rl := len_lt35 B.ur B.mr
  have xb := xQ_bd B (by omega) hb (val_bd35 B (by omega) hb)
  have xl : (xQ R w rs cs).length = w := sprd_len _ _ _
  refine dueD_ok (bound_bd (fun r hr y hy => (hb r hr y hy).mono (by decide)) xb (by omega)) (by unfold boundL; rw [List.length_map]; omega) (fun y hy => ?_) (by rw [List.length_map, List.length_range]; omega) xb (by omega)
  obtain ⟨j, _, rfl⟩ := List.mem_map.mp hy
  exact gain_bd hb (by omega)
theorem due_dp {K : PySem.W.Frag} {H : Hp} {R : List (List Int)} {w : Nat} {x : List Nat × List Nat} {v : V} (h : DueAt H R w v (some x)) : Dp K H v (dueD (boundL R (xQ R w x.1 x.2)) ((List.range w).map (gainF R x.1 x.2)) (xQ R w x.1 x.2)) := by
  obtain ⟨t, b, g, p, es, rfl, ht, hb, hg, hx⟩ := h
  exact .tup (SqT.of ht) (.cons (.lst (SqL.of hb) (dpAll_ints _)) (.cons (.lst (SqL.of hg) (dpAll_ints _)) (.cons (.lst (SqL.of hx.1) (dp_qs hx.2)) .nil)))
theorem DueAt.ex {H H' : Hp} {R : List (List Int)} {w : Nat} {v : V} : ∀ {o : Option (List Nat × List Nat)}, DueAt H R w v o → Ex H H' → DueAt H' R w v o
  | none, h, _ => h
  | some _, ⟨t, b, g, p, es, e0, ht, hb, hg, hx⟩, e => ⟨t, b, g, p, es, e0, e _ _ ht, e _ _ hb, e _ _ hg, hx.ex e⟩
theorem UnwAt.due {H0 H : Hp} {R : List (List Int)} {w : Nat} {v : V} : ∀ {o : Option (List Nat × List Nat)}, UnwAt H0 H R w v o → DueAt H R w v o
  | none, h => h
  | some _, ⟨t, b, g, p, es, e0, ht, hb, hg, hx, _⟩ => ⟨t, b, g, p, es, e0, ht, hb, hg, hx⟩
theorem rv_neD35 {K : PySem.W.Frag} {x y : V} {D : PyData} {H : Hp} (h1 : ∀ G, Ex H G → Dp K G x D) (h2 : ∀ G, Ex H G → Dp K G y D) (sh : SeqAt.shaped D = true) : RV (rNeD K) x y H (.bl false) := fun G e Q k => by
  refine ⟨D, D, h1 G e, h2 G e, sh, sh, ?_⟩
  rw [SeqAt.eqv_refl _ (SeqAt.canLay_of_shaped sh)]
  exact k G (Ex.refl _)
theorem ev_reprD35 {K : PySem.W.Frag} {ta : TE} {σ : L2.St} {H : Hp} {p : Addr} {D : PyData} (ha : Ev ta σ H (.ref p)) (hd : ∀ G, Ex H G → Dp K G (.ref p) D) (h1 : D.showable = true) (h2 : D.canLay0 = true) (h3 : D.depth ≤ 50) (h4 : D.shown.length ≤ 210009) : Ev (tCB (Own2.rShown2 K) (tCons ta tNil)) σ H (.str D.shown) := fun H1 e Q k => ha H1 e _ fun H2 e2 => .inl ⟨p, _, rfl, hd H2 (e.trans e2), h1, PyData.hasDict_of_canLay _ h2, h3, Nat.le_trans h4 (by decide), k _ e2⟩
theorem ev_reprN35 {K : PySem.W.Frag} {ta : TE} {σ : L2.St} {H : Hp} (ha : Ev ta σ H .non) : Ev (tCB (Own2.rShown2 K) (tCons ta tNil)) σ H (.str "None") := fun H1 e Q k => ha H1 e _ fun H2 e2 => .inr ⟨rfl, k H2 e2⟩
def sp_law (K : PySem.W.Frag) : Sp := fun vs H Q _ => ∃ (a : Addr) (ns : List Int), vs = [.ref a] ∧ SqL K H a (ns.map V.int) ∧ ns.length ≤ 63 ∧ ∀ H', Q (.bl true) H'

theorem run_law (T : Txt K mg) {s : Shared} {H : Hp} {a : Addr} {Q : VK} {E : XK} (e0 : Env0 P w K mg base callerA [] s H) (h : sp_law K [.ref a] H Q E) : codeAny (model P w) callerA (.call (.ref T.f_law) ⟨[.ref a], []⟩) (CR CX0 [] P w H s Q E) s := by
  obtain ⟨oc_, od_, kV_, doc_, pm_, an_, cdv, ct_, osl_, e_, lk_, hc_⟩ := T.F_law.ex
  have hb_ := T.b_law
  rw [e_] at lk_ hb_
  have inK_ : K.In s.heap := e0.mod.kin.keeps fun b o look => (e0.bs b o look).1
  refine LamX.run_ofS (CX := CX0) (k := 9) (N := ["_law_script", "_law_cell", "_law_source", "_law_table_here", "_law_due_here", "_law_handed", "_law_turn", "_law_found"]) (ps := ["_law_script"]) (us := [.ref a]) (vs := [.ref a]) lk_ hc_ sc_law ⟨rfl, by decide, by decide⟩ e0 (hb_ s [.ref a] inK_ rfl) (.cons rfl .nil) rfl fun hr => ?_
  refine ⟨_, PSs.nox (pss_cons (ps_for PassesOwn.never rfl (pi_list (pe_op op_cat (pe_lst (pa_cons (pe_call (ok__law_cell_at T) (hr.mono (by decide)) (by rfl) T.g__law_cell_at T.k__law_cell_at T.b__law_cell_at .nil pass0 (pa_cons (pv 0) (pa_cons pe_int pa_nil))) pa_nil)) (pe_slice (r := rSlL K) sl_list (pv 0) (po_some pe_int) (po_some pe_int)))) (pg_name (i := 1) sc_law.nd rfl (by first | exact Or.inl rfl | exact Or.inr rfl))
        (pss_cons (ps_set (i := 2) sc_law.nd rfl (by first | exact Or.inl rfl | exact Or.inr rfl) (pe_call (ok__law_source_of T) (hr.mono (by decide)) (by rfl) T.g__law_source_of T.k__law_source_of T.b__law_source_of .nil pass0 (pa_cons (pv 1) pa_nil)))
          (pss_cut (ps_set (i := 3) sc_law.nd rfl (by first | exact Or.inl rfl | exact Or.inr rfl) (pe_call (ok__law_table T) (hr.mono (by decide)) (by rfl) T.g__law_table T.k__law_table T.b__law_table .nil pass0 (pa_cons (pv 2) (pa_cons pe_int pa_nil))))
          (pss_cut (ps_set (i := 4) sc_law.nd rfl (by first | exact Or.inl rfl | exact Or.inr rfl) (pe_call (ok__law_due T) hr (by rfl) T.g__law_due T.k__law_due T.b__law_due .nil pass0 (pa_cons (pv 3) pa_nil)))
          (pss_cut (ps_set (i := 5) sc_law.nd rfl (by first | exact Or.inl rfl | exact Or.inr rfl) (pe_callB (id := "repr") (r := Own2.rShown2 K) (Own2.repr_shown2 rfl hr.units) (by rfl) T.n_repr (by decide +kernel) (pa_cons (pv 3) pa_nil)))
          (pss_one (ps_for PassesOwn.never rfl (pi_range1 (by rfl) T.n_range (pa_cons pe_int pa_nil)) (pg_name (i := 6) sc_law.nd rfl (by first | exact Or.inl rfl | exact Or.inr rfl))
            (pss_cut (ps_set (i := 7) sc_law.nd rfl (by first | exact Or.inl rfl | exact Or.inr rfl) (pe_call (ok_unwhole T) (hr.mono (by decide)) (by rfl) T.g_unwhole T.k_unwhole T.b_unwhole .nil pass0 (pa_cons (pv 3) pa_nil)))
              (pss_cons (ps_if (PW.pt (pw_or (pt_cmpR (r := rNeD K) (op_neD hr.units) (pv 7) (pv 4) (nomark _)) (pw_or (pt_cmpR op_ne (pe_callB (id := "repr") (r := Own2.rShown2 K) (Own2.repr_shown2 rfl hr.units) (by rfl) T.n_repr (by decide +kernel) (pa_cons (pv 7) pa_nil)) (pe_callB (id := "repr") (r := Own2.rShown2 K) (Own2.repr_shown2 rfl hr.units) (by rfl) T.n_repr (by decide +kernel) (pa_cons (pv 4) pa_nil)) (nomark _)) (pw_or1 (pt_cmpR op_ne (pe_callB (id := "repr") (r := Own2.rShown2 K) (Own2.repr_shown2 rfl hr.units) (by rfl) T.n_repr (by decide +kernel) (pa_cons (pv 3) pa_nil)) (pv 5) (nomark _))))))
                (pss_one (ps_ret pe_bl))
                pss_nil)
              (pss_one (ps_if (pt_cmpR op_notN (pv 7) pe_non (nomark _))
                (pss_one (ps_expr (pe_call (ok__law_spent T) (hr.mono (by decide)) (by rfl) T.g__law_spent T.k__law_spent T.b__law_spent .nil pass0 (pa_cons (pv 7) pa_nil))))
                pss_nil)))))))))))
      (pss_one (ps_ret pe_bl))), ?_⟩
  obtain ⟨a0, ns, ev0, hS, hlen, q⟩ := h
  have ea : a0 = a := by cases ev0; rfl
  subst ea
  clear ev0
  refine ⟨_, rfl, a0, ns, 0, rfl, hS, by decide, fun c0 => ⟨(by show 1 ≤ sizeLine; decide), fun p0 np0 => ⟨_, rfl, ?_⟩⟩⟩
  have x0 := Ex.new (o := .lst [V.int c0]) np0
  refine ⟨1, rfl, 4, rfl, a0, _, rfl, ex_l x0 hS, fun p1 np1 => ?_⟩
  obtain ⟨ys, hys⟩ := cutV_ints ns (some 1) (some 4)
  have hyl : ys.length ≤ 63 := by
    have h1 := cutV_length (ns.map V.int) (some 1) (some 4)
    rw [hys, List.length_map, List.length_map] at h1
    omega
  rw [hys]
  have x1 := Ex.new (o := .lst (ys.map V.int)) np1
  refine ⟨p0, p1, _, _, rfl, rfl, x1 _ _ upd_same, upd_same, ?_, fun p2 np2 => ?_⟩
  · have : ([V.int c0].length + (ys.map V.int).length) ≤ 1000 := by
      rw [List.length_map]
      show 1 + ys.length ≤ 1000
      omega
    exact Nat.le_trans this (by decide)
  have x2 := Ex.new (o := .lst ([V.int c0] ++ ys.map V.int)) np2
  have x02 := (x0.trans x1).trans x2
  refine ⟨p2, rfl, ⟨_, SqL.of upd_same⟩, ?_⟩
  refine for_list (a := p2) (xs := [V.int c0] ++ ys.map V.int) (fun i σ H' => ∃ y1 y2 y3 y4 y5 y6 y7 : Option V, σ = [some (.ref a0), y1, y2, y3, y4, y5, y6, y7] ∧ H' p2 = some (.lst ([V.int c0] ++ ys.map V.int)))
    ⟨_, _, _, _, _, _, _, rfl, upd_same⟩ (fun i σ H' _ ⟨_, _, _, _, _, _, _, _, h⟩ => SqL.of h) (fun i x σ H0 hi hP => ?_) (fun σ H' _ => ?_)
  rotate_left
  · dsimp only
    refine s_ret (v := .bl true) ?_ ?_
    · exact ev_c
    · exact fun H2 _ => q H2
  obtain ⟨y1, y2, y3, y4, y5, y6, y7, rfl, hp2⟩ := hP
  obtain ⟨c, rfl⟩ : ∃ c : Int, x = .int c := by
    rcases List.mem_append.mp (List.mem_of_getElem? hi) with h | h
    · exact ⟨c0, by simpa using h⟩
    · obtain ⟨c, _, rfl⟩ := List.mem_map.mp h
      exact ⟨c, rfl⟩
  generalize p2 = pL at hp2 ⊢
  clear hi hyl hys hS hlen x0 x1
  -- source, table
  refine ⟨_, rfl, c, rfl, fun s H1 n1 e1 s1 => ?_⟩
  refine ⟨fun σ' H' => ∃ (p : Addr) (as : List Addr) (rows : List (List Int)) (m w : Nat), σ' = [some (.ref a0), some (.int c), some (.ref s), some (.ref p), y4, y5, y6, y7] ∧ TabOk H' p as rows m w ∧ m ≤ 5 ∧ w ≤ 5 ∧ (∀ r ∈ rows, ∀ y ∈ r, Bd 100 y) ∧ ExB s H1 H', ?_, ?_⟩
  · refine ⟨_, rfl, s, 0, 5, rfl, s1, by decide, by decide, by decide, fun as rows p H2 m w m1 m2 w1 w2 N hl e2 s2 => ⟨p, as, rows, m, w, rfl, ⟨N.tab, hl, fun r hr => (N.ok r hr).1, by omega, by omega, by omega, by omega⟩, m2, w2, fun r hr y hy => Nat.lt_of_le_of_lt ((N.ok r hr).2 y hy) (by decide +kernel), e2⟩⟩
  rintro σ' H3 ⟨p, as, rows, m, w, rfl, T, m5, w5, b100, e2⟩
  have dm := T.b
  have hL := (e2.ex n1 e1) _ _ hp2
  have b110 : ∀ r ∈ rows, ∀ y ∈ r, Bd 110 y := fun r hr y hy => (b100 r hr y hy).mono (by decide)
  have sA : Small 110 rows := ⟨b110, by have := T.m_; omega, fun r hr => by rw [T.w_ r hr]; omega⟩
  clear e2 s1 e1 n1 hp2
  -- due
  refine ⟨fun σ' H' => ∃ v : V, σ' = [some (.ref a0), some (.int c), some (.ref s), some (.ref p), some v, y5, y6, y7] ∧ DueAt H' rows w v (Bs.bad rows m w) ∧ Ex H3 H', ?_, ?_⟩
  · exact ⟨_, rfl, p, as, rows, m, w, rfl, T, b100, m5, w5, fun v H' e hv => ⟨v, rfl, hv, e⟩⟩
  rintro σ' H4 ⟨v, rfl, hv, e4⟩
  -- handed
  refine ⟨fun σ' H' => σ' = [some (.ref a0), some (.int c), some (.ref s), some (.ref p), some v, some (.str (PyData.shown (tabD rows))), y6, y7] ∧ Ex H4 H', ?_, ?_⟩
  · exact s_asg (ev_reprT41 (ev_var (i := 3) rfl) (T.ex e4).tab sA) fun H5 e5 => ⟨rfl, e5⟩
  rintro σ' H5 ⟨rfl, e5⟩
  have e45 := e4.trans e5
  -- the turns
  refine ⟨_, rfl, by decide, by decide, for_range (lo := 0) (n := (2 : Int).toNat) (fun i σ' H' => ∃ y6 y7 : Option V, σ' = [some (.ref a0), some (.int c), some (.ref s), some (.ref p), some v, some (.str (PyData.shown (tabD rows))), y6, y7] ∧ Ex H5 H') ⟨_, _, rfl, Ex.refl _⟩ ?_ ?_⟩
  rotate_left
  · rintro σ' H6 ⟨z6, z7, rfl, e6⟩
    exact ⟨_, _, _, _, _, _, _, rfl, (e45.trans e6) _ _ hL⟩
  rintro i σ' H6 hi ⟨z6, z7, rfl, e6⟩
  generalize ((0 : Int) + (i : Int)) = tn
  refine ⟨fun σ' H' => ∃ u : V, σ' = [some (.ref a0), some (.int c), some (.ref s), some (.ref p), some v, some (.str (PyData.shown (tabD rows))), some (.int tn), some u] ∧ UnwAt H6 H' rows w u (Bs.bad rows m w) ∧ Ex H6 H', ?_, ?_⟩
  · exact ⟨_, rfl, p, as, rows, m, w, rfl, T.ex (e45.trans e6), by omega, b100, fun u H' e hu => ⟨u, rfl, hu, e⟩⟩
  rintro σ' H7 ⟨u, rfl, hu, e67⟩
  have e7 := e6.trans e67
  have T7 := T.ex (e45.trans e7)
  have d1 := hu.due
  have d2 := hv.ex (e5.trans e7)
  cases ho : Bs.bad rows m w with
  | none =>
    rw [ho] at d1 d2
    have g1 : u = .non := d1
    have g2 : v = .non := d2
    subst g1 g2
    refine q_when (σ := [some (.ref a0), some (.int c), some (.ref s), some (.ref p), some .non, some (.str (PyData.shown (tabD rows))), some (.int tn), some .non]) (b := false) (et_is (et_or (a := false) (b := false) (et_test (ev_op (ev_var (i := 7) rfl) (ev_var (i := 4) rfl) (rv_neD35 (D := .none) (fun _ _ => .non) (fun _ _ => .non) rfl))) (fun _ => et_is (et_or (a := false) (b := false) (et_is (et_test (ev_op (ev_reprN35 (ev_var (i := 7) rfl)) (ev_reprN35 (ev_var (i := 4) rfl)) (rv_ne rfl))) (by rw [decide_eq_true rfl]; rfl)) (fun _ => et_is (et_test (ev_op (ev_reprT41 (ev_var (i := 3) rfl) T7.tab sA) (ev_var (i := 5) rfl) (rv_ne rfl))) (by rw [decide_eq_true rfl]; rfl))) rfl)) rfl) (fun z => nomatch z) (fun _ H8 e8 => ?_)
    exact s_when (b := false) (et_is (et_test (ev_op (ev_var (i := 7) rfl) ev_c (fun G g Q1 k1 => ⟨rfl, k1 G (Ex.refl _)⟩))) rfl) (fun z => nomatch z) (fun _ H9 e9 => ⟨_, _, rfl, e7.trans (e8.trans e9)⟩)
  | some x =>
    obtain ⟨rs, cs⟩ := x
    have B := bad_f ho
    have ok := due_ok B m5 w5 T.m_ b100
    rw [ho] at d1 d2 hu
    have q1 : ∀ {K : PySem.W.Frag} (G : Hp), Ex H7 G → Dp K G u (dueD (boundL rows (xQ rows w rs cs)) ((List.range w).map (gainF rows rs cs)) (xQ rows w rs cs)) := fun G e => due_dp (x := (rs, cs)) (d1.ex e)
    have q2 : ∀ {K : PySem.W.Frag} (G : Hp), Ex H7 G → Dp K G v (dueD (boundL rows (xQ rows w rs cs)) ((List.range w).map (gainF rows rs cs)) (xQ rows w rs cs)) := fun G e => due_dp (x := (rs, cs)) (d2.ex e)
    obtain ⟨tv, _, _, _, _, rfl, _⟩ := d2
    obtain ⟨t, bo, g, x, es, rfl, ht, hbo, hg, hx, nb, ng, nx⟩ := hu
    have sh := shaped_tuple35 (dueD_lay (boundL rows (xQ rows w rs cs)) ((List.range w).map (gainF rows rs cs)) (xQ rows w rs cs)) (Nat.le_trans (dueD_depth _ _ _) (by decide))
    have ly := dueD_lay (boundL rows (xQ rows w rs cs)) ((List.range w).map (gainF rows rs cs)) (xQ rows w rs cs)
    have dd := dueD_depth (boundL rows (xQ rows w rs cs)) ((List.range w).map (gainF rows rs cs)) (xQ rows w rs cs)
    refine q_when (σ := [some (.ref a0), some (.int c), some (.ref s), some (.ref p), some (.ref tv), some (.str (PyData.shown (tabD rows))), some (.int tn), some (.ref t)]) (b := false) (et_is (et_or (a := false) (b := false) (et_test (ev_op (ev_var (i := 7) rfl) (ev_var (i := 4) rfl) (rv_neD35 q1 q2 sh))) (fun _ => et_is (et_or (a := false) (b := false) (et_is (et_test (ev_op (ev_reprD35 (ev_var (i := 7) rfl) q1 ok.1 ly (Nat.le_trans (Nat.succ_le_succ dd) (by decide)) ok.2) (ev_reprD35 (ev_var (i := 4) rfl) q2 ok.1 ly (Nat.le_trans (Nat.succ_le_succ dd) (by decide)) ok.2) (rv_ne rfl))) (by rw [decide_eq_true rfl]; rfl)) (fun _ => et_is (et_test (ev_op (ev_reprT41 (ev_var (i := 3) rfl) T7.tab sA) (ev_var (i := 5) rfl) (rv_ne rfl))) (by rw [decide_eq_true rfl]; rfl))) rfl)) rfl) (fun z => nomatch z) (fun _ H8 e8 => ?_)
    refine s_when (b := true) (et_is (et_test (ev_op (ev_var (i := 7) rfl) ev_c (fun G g Q1 k1 => ⟨rfl, k1 G (Ex.refl _)⟩))) rfl) (fun _ H9 e9 => ?_) (fun z => nomatch z)
    have e79 := e8.trans e9
    have xl : (xQ rows w rs cs).length = w := sprd_len _ _ _
    refine ⟨_, rfl, t, bo, g, x, rfl, e79 _ _ ht, fun z hz => ?_, fun H10 keep => ?_⟩
    · rcases hz with rfl | rfl | rfl
      · exact ⟨_, e79 _ _ hbo, by unfold boundL; rw [List.length_map, List.length_map, T.m_]; omega⟩
      · exact ⟨_, e79 _ _ hg, by rw [List.length_map, List.length_map, List.length_range]; omega⟩
      · exact ⟨_, e79 _ _ hx.1, by rw [List.length_map, Paired.length hx.2, xl]; omega⟩
    · refine ⟨_, _, rfl, fun z o h => ?_⟩
      have h6 := e6 _ _ h
      exact keep z o (fun y => by rw [y, nb] at h6; cases h6) (fun y => by rw [y, ng] at h6; cases h6) (fun y => by rw [y, nx] at h6; cases h6) ((e7.trans e79) _ _ h)
end
/-! ### what the top has written; the end -/
theorem all_mk {P : Program} {w : World} {K : PySem.W.Frag} {h : Heap} {mg : Str → Option Value} {fa : Addr} (X : K.In h) (G : h.Ns mainGlobals mg) (hfa : mg "law" = some (.ref fa))
    {f1 : Addr} {od1 an1 : Option Addr} {sl1 : Array (Option Value)} {oc1 kV1 dc1 pm1 cd1 ct1 : Value}
    (a1 : PySem.W.nsIn K mainGlobals "is_whole" = some (some (.ref f1))) (l1 : K.lookup f1 = some ⟨oc1, od1, .func (PySem.W.fnOf "is_whole" "is_whole" (defArgs s_is_whole) (defBody s_is_whole) (defScope s_is_whole) (.none) kV1 dc1 pm1 an1 cd1 ct1), sl1⟩) (c1 : PySem.W.codeIn K cd1 "is_whole" = true) (k1 : PySem.W.keepIn K (.ref f1) = true)
    {f2 : Addr} {od2 an2 : Option Addr} {sl2 : Array (Option Value)} {oc2 kV2 dc2 pm2 cd2 ct2 : Value}
    (a2 : PySem.W.nsIn K mainGlobals "is_fraction" = some (some (.ref f2))) (l2 : K.lookup f2 = some ⟨oc2, od2, .func (PySem.W.fnOf "is_fraction" "is_fraction" (defArgs s_is_fraction) (defBody s_is_fraction) (defScope s_is_fraction) (.none) kV2 dc2 pm2 an2 cd2 ct2), sl2⟩) (c2 : PySem.W.codeIn K cd2 "is_fraction" = true) (k2 : PySem.W.keepIn K (.ref f2) = true)
    {f3 T3 : Addr} {od3 an3 : Option Addr} {sl3 : Array (Option Value)} {oc3 kV3 dc3 pm3 cd3 ct3 : Value} {oT3 : Obj} {its3 : List Value} {nT3 : Nat}
    (a3 : PySem.W.nsIn K mainGlobals "fraction" = some (some (.ref f3))) (l3 : K.lookup f3 = some ⟨oc3, od3, .func (PySem.W.fnOf "fraction" "fraction" (defArgs s_fraction) (defBody s_fraction) (defScope s_fraction) (.ref T3) kV3 dc3 pm3 an3 cd3 ct3), sl3⟩) (c3 : PySem.W.codeIn K cd3 "fraction" = true) (k3 : PySem.W.keepIn K (.ref f3) = true)
    (t3 : K.lookup T3 = some oT3) (u3 : oT3.data = .seq its3.toArray nT3) (v3 : its3.length = 1 ∧ Vals [.int 1] its3)
    {f4 : Addr} {od4 an4 : Option Addr} {sl4 : Array (Option Value)} {oc4 kV4 dc4 pm4 cd4 ct4 : Value}
    (a4 : PySem.W.nsIn K mainGlobals "plus" = some (some (.ref f4))) (l4 : K.lookup f4 = some ⟨oc4, od4, .func (PySem.W.fnOf "plus" "plus" (defArgs s_plus) (defBody s_plus) (defScope s_plus) (.none) kV4 dc4 pm4 an4 cd4 ct4), sl4⟩) (c4 : PySem.W.codeIn K cd4 "plus" = true) (k4 : PySem.W.keepIn K (.ref f4) = true)
    {f5 : Addr} {od5 an5 : Option Addr} {sl5 : Array (Option Value)} {oc5 kV5 dc5 pm5 cd5 ct5 : Value}
    (a5 : PySem.W.nsIn K mainGlobals "minus" = some (some (.ref f5))) (l5 : K.lookup f5 = some ⟨oc5, od5, .func (PySem.W.fnOf "minus" "minus" (defArgs s_minus) (defBody s_minus) (defScope s_minus) (.none) kV5 dc5 pm5 an5 cd5 ct5), sl5⟩) (c5 : PySem.W.codeIn K cd5 "minus" = true) (k5 : PySem.W.keepIn K (.ref f5) = true)
    {f6 : Addr} {od6 an6 : Option Addr} {sl6 : Array (Option Value)} {oc6 kV6 dc6 pm6 cd6 ct6 : Value}
    (a6 : PySem.W.nsIn K mainGlobals "times" = some (some (.ref f6))) (l6 : K.lookup f6 = some ⟨oc6, od6, .func (PySem.W.fnOf "times" "times" (defArgs s_times) (defBody s_times) (defScope s_times) (.none) kV6 dc6 pm6 an6 cd6 ct6), sl6⟩) (c6 : PySem.W.codeIn K cd6 "times" = true) (k6 : PySem.W.keepIn K (.ref f6) = true)
    {f7 : Addr} {od7 an7 : Option Addr} {sl7 : Array (Option Value)} {oc7 kV7 dc7 pm7 cd7 ct7 : Value}
    (a7 : PySem.W.nsIn K mainGlobals "floor_of" = some (some (.ref f7))) (l7 : K.lookup f7 = some ⟨oc7, od7, .func (PySem.W.fnOf "floor_of" "floor_of" (defArgs s_floor_of) (defBody s_floor_of) (defScope s_floor_of) (.none) kV7 dc7 pm7 an7 cd7 ct7), sl7⟩) (c7 : PySem.W.codeIn K cd7 "floor_of" = true) (k7 : PySem.W.keepIn K (.ref f7) = true)
    {f8 : Addr} {od8 an8 : Option Addr} {sl8 : Array (Option Value)} {oc8 kV8 dc8 pm8 cd8 ct8 : Value}
    (a8 : PySem.W.nsIn K mainGlobals "ceiling_of" = some (some (.ref f8))) (l8 : K.lookup f8 = some ⟨oc8, od8, .func (PySem.W.fnOf "ceiling_of" "ceiling_of" (defArgs s_ceiling_of) (defBody s_ceiling_of) (defScope s_ceiling_of) (.none) kV8 dc8 pm8 an8 cd8 ct8), sl8⟩) (c8 : PySem.W.codeIn K cd8 "ceiling_of" = true) (k8 : PySem.W.keepIn K (.ref f8) = true)
    {f9 : Addr} {od9 an9 : Option Addr} {sl9 : Array (Option Value)} {oc9 kV9 dc9 pm9 cd9 ct9 : Value}
    (a9 : PySem.W.nsIn K mainGlobals "is_long" = some (some (.ref f9))) (l9 : K.lookup f9 = some ⟨oc9, od9, .func (PySem.W.fnOf "is_long" "is_long" (defArgs s_is_long) (defBody s_is_long) (defScope s_is_long) (.none) kV9 dc9 pm9 an9 cd9 ct9), sl9⟩) (c9 : PySem.W.codeIn K cd9 "is_long" = true) (k9 : PySem.W.keepIn K (.ref f9) = true)
    {f10 : Addr} {od10 an10 : Option Addr} {sl10 : Array (Option Value)} {oc10 kV10 dc10 pm10 cd10 ct10 : Value}
    (a10 : PySem.W.nsIn K mainGlobals "is_fractions" = some (some (.ref f10))) (l10 : K.lookup f10 = some ⟨oc10, od10, .func (PySem.W.fnOf "is_fractions" "is_fractions" (defArgs s_is_fractions) (defBody s_is_fractions) (defScope s_is_fractions) (.none) kV10 dc10 pm10 an10 cd10 ct10), sl10⟩) (c10 : PySem.W.codeIn K cd10 "is_fractions" = true) (k10 : PySem.W.keepIn K (.ref f10) = true)
    {f11 : Addr} {od11 an11 : Option Addr} {sl11 : Array (Option Value)} {oc11 kV11 dc11 pm11 cd11 ct11 : Value}
    (a11 : PySem.W.nsIn K mainGlobals "is_table" = some (some (.ref f11))) (l11 : K.lookup f11 = some ⟨oc11, od11, .func (PySem.W.fnOf "is_table" "is_table" (defArgs s_is_table) (defBody s_is_table) (defScope s_is_table) (.none) kV11 dc11 pm11 an11 cd11 ct11), sl11⟩) (c11 : PySem.W.codeIn K cd11 "is_table" = true) (k11 : PySem.W.keepIn K (.ref f11) = true)
    {f12 : Addr} {od12 an12 : Option Addr} {sl12 : Array (Option Value)} {oc12 kV12 dc12 pm12 cd12 ct12 : Value}
    (a12 : PySem.W.nsIn K mainGlobals "is_row" = some (some (.ref f12))) (l12 : K.lookup f12 = some ⟨oc12, od12, .func (PySem.W.fnOf "is_row" "is_row" (defArgs s_is_row) (defBody s_is_row) (defScope s_is_row) (.none) kV12 dc12 pm12 an12 cd12 ct12), sl12⟩) (c12 : PySem.W.codeIn K cd12 "is_row" = true) (k12 : PySem.W.keepIn K (.ref f12) = true)
    {f13 : Addr} {od13 an13 : Option Addr} {sl13 : Array (Option Value)} {oc13 kV13 dc13 pm13 cd13 ct13 : Value}
    (a13 : PySem.W.nsIn K mainGlobals "check_table" = some (some (.ref f13))) (l13 : K.lookup f13 = some ⟨oc13, od13, .func (PySem.W.fnOf "check_table" "check_table" (defArgs s_check_table) (defBody s_check_table) (defScope s_check_table) (.none) kV13 dc13 pm13 an13 cd13 ct13), sl13⟩) (c13 : PySem.W.codeIn K cd13 "check_table" = true) (k13 : PySem.W.keepIn K (.ref f13) = true)
    {f14 : Addr} {od14 an14 : Option Addr} {sl14 : Array (Option Value)} {oc14 kV14 dc14 pm14 cd14 ct14 : Value}
    (a14 : PySem.W.nsIn K mainGlobals "check_pick" = some (some (.ref f14))) (l14 : K.lookup f14 = some ⟨oc14, od14, .func (PySem.W.fnOf "check_pick" "check_pick" (defArgs s_check_pick) (defBody s_check_pick) (defScope s_check_pick) (.none) kV14 dc14 pm14 an14 cd14 ct14), sl14⟩) (c14 : PySem.W.codeIn K cd14 "check_pick" = true) (k14 : PySem.W.keepIn K (.ref f14) = true)
    {f15 : Addr} {od15 an15 : Option Addr} {sl15 : Array (Option Value)} {oc15 kV15 dc15 pm15 cd15 ct15 : Value}
    (a15 : PySem.W.nsIn K mainGlobals "check_places" = some (some (.ref f15))) (l15 : K.lookup f15 = some ⟨oc15, od15, .func (PySem.W.fnOf "check_places" "check_places" (defArgs s_check_places) (defBody s_check_places) (defScope s_check_places) (.none) kV15 dc15 pm15 an15 cd15 ct15), sl15⟩) (c15 : PySem.W.codeIn K cd15 "check_places" = true) (k15 : PySem.W.keepIn K (.ref f15) = true)
    {f16 : Addr} {od16 an16 : Option Addr} {sl16 : Array (Option Value)} {oc16 kV16 dc16 pm16 cd16 ct16 : Value}
    (a16 : PySem.W.nsIn K mainGlobals "is_place" = some (some (.ref f16))) (l16 : K.lookup f16 = some ⟨oc16, od16, .func (PySem.W.fnOf "is_place" "is_place" (defArgs s_is_place) (defBody s_is_place) (defScope s_is_place) (.none) kV16 dc16 pm16 an16 cd16 ct16), sl16⟩) (c16 : PySem.W.codeIn K cd16 "is_place" = true) (k16 : PySem.W.keepIn K (.ref f16) = true)
    {f17 : Addr} {od17 an17 : Option Addr} {sl17 : Array (Option Value)} {oc17 kV17 dc17 pm17 cd17 ct17 : Value}
    (a17 : PySem.W.nsIn K mainGlobals "shape" = some (some (.ref f17))) (l17 : K.lookup f17 = some ⟨oc17, od17, .func (PySem.W.fnOf "shape" "shape" (defArgs s_shape) (defBody s_shape) (defScope s_shape) (.none) kV17 dc17 pm17 an17 cd17 ct17), sl17⟩) (c17 : PySem.W.codeIn K cd17 "shape" = true) (k17 : PySem.W.keepIn K (.ref f17) = true)
    {f18 : Addr} {od18 an18 : Option Addr} {sl18 : Array (Option Value)} {oc18 kV18 dc18 pm18 cd18 ct18 : Value}
    (a18 : PySem.W.nsIn K mainGlobals "piece" = some (some (.ref f18))) (l18 : K.lookup f18 = some ⟨oc18, od18, .func (PySem.W.fnOf "piece" "piece" (defArgs s_piece) (defBody s_piece) (defScope s_piece) (.none) kV18 dc18 pm18 an18 cd18 ct18), sl18⟩) (c18 : PySem.W.codeIn K cd18 "piece" = true) (k18 : PySem.W.keepIn K (.ref f18) = true)
    {f19 : Addr} {od19 an19 : Option Addr} {sl19 : Array (Option Value)} {oc19 kV19 dc19 pm19 cd19 ct19 : Value}
    (a19 : PySem.W.nsIn K mainGlobals "led" = some (some (.ref f19))) (l19 : K.lookup f19 = some ⟨oc19, od19, .func (PySem.W.fnOf "led" "led" (defArgs s_led) (defBody s_led) (defScope s_led) (.none) kV19 dc19 pm19 an19 cd19 ct19), sl19⟩) (c19 : PySem.W.codeIn K cd19 "led" = true) (k19 : PySem.W.keepIn K (.ref f19) = true)
    {f20 : Addr} {od20 an20 : Option Addr} {sl20 : Array (Option Value)} {oc20 kV20 dc20 pm20 cd20 ct20 : Value}
    (a20 : PySem.W.nsIn K mainGlobals "row_sum" = some (some (.ref f20))) (l20 : K.lookup f20 = some ⟨oc20, od20, .func (PySem.W.fnOf "row_sum" "row_sum" (defArgs s_row_sum) (defBody s_row_sum) (defScope s_row_sum) (.none) kV20 dc20 pm20 an20 cd20 ct20), sl20⟩) (c20 : PySem.W.codeIn K cd20 "row_sum" = true) (k20 : PySem.W.keepIn K (.ref f20) = true)
    {f21 : Addr} {od21 an21 : Option Addr} {sl21 : Array (Option Value)} {oc21 kV21 dc21 pm21 cd21 ct21 : Value}
    (a21 : PySem.W.nsIn K mainGlobals "square_value" = some (some (.ref f21))) (l21 : K.lookup f21 = some ⟨oc21, od21, .func (PySem.W.fnOf "square_value" "square_value" (defArgs s_square_value) (defBody s_square_value) (defScope s_square_value) (.none) kV21 dc21 pm21 an21 cd21 ct21), sl21⟩) (c21 : PySem.W.codeIn K cd21 "square_value" = true) (k21 : PySem.W.keepIn K (.ref f21) = true)
    {f22 : Addr} {od22 an22 : Option Addr} {sl22 : Array (Option Value)} {oc22 kV22 dc22 pm22 cd22 ct22 : Value}
    (a22 : PySem.W.nsIn K mainGlobals "cleared" = some (some (.ref f22))) (l22 : K.lookup f22 = some ⟨oc22, od22, .func (PySem.W.fnOf "cleared" "cleared" (defArgs s_cleared) (defBody s_cleared) (defScope s_cleared) (.none) kV22 dc22 pm22 an22 cd22 ct22), sl22⟩) (c22 : PySem.W.codeIn K cd22 "cleared" = true) (k22 : PySem.W.keepIn K (.ref f22) = true)
    {f23 : Addr} {od23 an23 : Option Addr} {sl23 : Array (Option Value)} {oc23 kV23 dc23 pm23 cd23 ct23 : Value}
    (a23 : PySem.W.nsIn K mainGlobals "cleared_row" = some (some (.ref f23))) (l23 : K.lookup f23 = some ⟨oc23, od23, .func (PySem.W.fnOf "cleared_row" "cleared_row" (defArgs s_cleared_row) (defBody s_cleared_row) (defScope s_cleared_row) (.none) kV23 dc23 pm23 an23 cd23 ct23), sl23⟩) (c23 : PySem.W.codeIn K cd23 "cleared_row" = true) (k23 : PySem.W.keepIn K (.ref f23) = true)
    {f24 : Addr} {od24 an24 : Option Addr} {sl24 : Array (Option Value)} {oc24 kV24 dc24 pm24 cd24 ct24 : Value}
    (a24 : PySem.W.nsIn K mainGlobals "bad_square" = some (some (.ref f24))) (l24 : K.lookup f24 = some ⟨oc24, od24, .func (PySem.W.fnOf "bad_square" "bad_square" (defArgs s_bad_square) (defBody s_bad_square) (defScope s_bad_square) (.none) kV24 dc24 pm24 an24 cd24 ct24), sl24⟩) (c24 : PySem.W.codeIn K cd24 "bad_square" = true) (k24 : PySem.W.keepIn K (.ref f24) = true)
    {f25 : Addr} {od25 an25 : Option Addr} {sl25 : Array (Option Value)} {oc25 kV25 dc25 pm25 cd25 ct25 : Value}
    (a25 : PySem.W.nsIn K mainGlobals "is_bad" = some (some (.ref f25))) (l25 : K.lookup f25 = some ⟨oc25, od25, .func (PySem.W.fnOf "is_bad" "is_bad" (defArgs s_is_bad) (defBody s_is_bad) (defScope s_is_bad) (.none) kV25 dc25 pm25 an25 cd25 ct25), sl25⟩) (c25 : PySem.W.codeIn K cd25 "is_bad" = true) (k25 : PySem.W.keepIn K (.ref f25) = true)
    {f26 : Addr} {od26 an26 : Option Addr} {sl26 : Array (Option Value)} {oc26 kV26 dc26 pm26 cd26 ct26 : Value}
    (a26 : PySem.W.nsIn K mainGlobals "unfolded" = some (some (.ref f26))) (l26 : K.lookup f26 = some ⟨oc26, od26, .func (PySem.W.fnOf "unfolded" "unfolded" (defArgs s_unfolded) (defBody s_unfolded) (defScope s_unfolded) (.none) kV26 dc26 pm26 an26 cd26 ct26), sl26⟩) (c26 : PySem.W.codeIn K cd26 "unfolded" = true) (k26 : PySem.W.keepIn K (.ref f26) = true)
    {f27 : Addr} {od27 an27 : Option Addr} {sl27 : Array (Option Value)} {oc27 kV27 dc27 pm27 cd27 ct27 : Value}
    (a27 : PySem.W.nsIn K mainGlobals "solved" = some (some (.ref f27))) (l27 : K.lookup f27 = some ⟨oc27, od27, .func (PySem.W.fnOf "solved" "solved" (defArgs s_solved) (defBody s_solved) (defScope s_solved) (.none) kV27 dc27 pm27 an27 cd27 ct27), sl27⟩) (c27 : PySem.W.codeIn K cd27 "solved" = true) (k27 : PySem.W.keepIn K (.ref f27) = true)
    {f28 : Addr} {od28 an28 : Option Addr} {sl28 : Array (Option Value)} {oc28 kV28 dc28 pm28 cd28 ct28 : Value}
    (a28 : PySem.W.nsIn K mainGlobals "replaced" = some (some (.ref f28))) (l28 : K.lookup f28 = some ⟨oc28, od28, .func (PySem.W.fnOf "replaced" "replaced" (defArgs s_replaced) (defBody s_replaced) (defScope s_replaced) (.none) kV28 dc28 pm28 an28 cd28 ct28), sl28⟩) (c28 : PySem.W.codeIn K cd28 "replaced" = true) (k28 : PySem.W.keepIn K (.ref f28) = true)
    {f29 : Addr} {od29 an29 : Option Addr} {sl29 : Array (Option Value)} {oc29 kV29 dc29 pm29 cd29 ct29 : Value}
    (a29 : PySem.W.nsIn K mainGlobals "spread_out" = some (some (.ref f29))) (l29 : K.lookup f29 = some ⟨oc29, od29, .func (PySem.W.fnOf "spread_out" "spread_out" (defArgs s_spread_out) (defBody s_spread_out) (defScope s_spread_out) (.none) kV29 dc29 pm29 an29 cd29 ct29), sl29⟩) (c29 : PySem.W.codeIn K cd29 "spread_out" = true) (k29 : PySem.W.keepIn K (.ref f29) = true)
    {f30 : Addr} {od30 an30 : Option Addr} {sl30 : Array (Option Value)} {oc30 kV30 dc30 pm30 cd30 ct30 : Value}
    (a30 : PySem.W.nsIn K mainGlobals "unwhole" = some (some (.ref f30))) (l30 : K.lookup f30 = some ⟨oc30, od30, .func (PySem.W.fnOf "unwhole" "unwhole" (defArgs s_unwhole) (defBody s_unwhole) (defScope s_unwhole) (.none) kV30 dc30 pm30 an30 cd30 ct30), sl30⟩) (c30 : PySem.W.codeIn K cd30 "unwhole" = true) (k30 : PySem.W.keepIn K (.ref f30) = true)
    {f31 : Addr} {od31 an31 : Option Addr} {sl31 : Array (Option Value)} {oc31 kV31 dc31 pm31 cd31 ct31 : Value}
    (a31 : PySem.W.nsIn K mainGlobals "first_rests" = some (some (.ref f31))) (l31 : K.lookup f31 = some ⟨oc31, od31, .func (PySem.W.fnOf "first_rests" "first_rests" (defArgs s_first_rests) (defBody s_first_rests) (defScope s_first_rests) (.none) kV31 dc31 pm31 an31 cd31 ct31), sl31⟩) (c31 : PySem.W.codeIn K cd31 "first_rests" = true) (k31 : PySem.W.keepIn K (.ref f31) = true)
    {f32 : Addr} {od32 an32 : Option Addr} {sl32 : Array (Option Value)} {oc32 kV32 dc32 pm32 cd32 ct32 : Value}
    (a32 : PySem.W.nsIn K mainGlobals "_law_source_of" = some (some (.ref f32))) (l32 : K.lookup f32 = some ⟨oc32, od32, .func (PySem.W.fnOf "_law_source_of" "_law_source_of" (defArgs s__law_source_of) (defBody s__law_source_of) (defScope s__law_source_of) (.none) kV32 dc32 pm32 an32 cd32 ct32), sl32⟩) (c32 : PySem.W.codeIn K cd32 "_law_source_of" = true) (k32 : PySem.W.keepIn K (.ref f32) = true)
    {f33 : Addr} {od33 an33 : Option Addr} {sl33 : Array (Option Value)} {oc33 kV33 dc33 pm33 cd33 ct33 : Value}
    (a33 : PySem.W.nsIn K mainGlobals "_law_next" = some (some (.ref f33))) (l33 : K.lookup f33 = some ⟨oc33, od33, .func (PySem.W.fnOf "_law_next" "_law_next" (defArgs s__law_next) (defBody s__law_next) (defScope s__law_next) (.none) kV33 dc33 pm33 an33 cd33 ct33), sl33⟩) (c33 : PySem.W.codeIn K cd33 "_law_next" = true) (k33 : PySem.W.keepIn K (.ref f33) = true)
    {f34 : Addr} {od34 an34 : Option Addr} {sl34 : Array (Option Value)} {oc34 kV34 dc34 pm34 cd34 ct34 : Value}
    (a34 : PySem.W.nsIn K mainGlobals "_law_one" = some (some (.ref f34))) (l34 : K.lookup f34 = some ⟨oc34, od34, .func (PySem.W.fnOf "_law_one" "_law_one" (defArgs s__law_one) (defBody s__law_one) (defScope s__law_one) (.none) kV34 dc34 pm34 an34 cd34 ct34), sl34⟩) (c34 : PySem.W.codeIn K cd34 "_law_one" = true) (k34 : PySem.W.keepIn K (.ref f34) = true)
    {f35 : Addr} {od35 an35 : Option Addr} {sl35 : Array (Option Value)} {oc35 kV35 dc35 pm35 cd35 ct35 : Value}
    (a35 : PySem.W.nsIn K mainGlobals "_law_cell_at" = some (some (.ref f35))) (l35 : K.lookup f35 = some ⟨oc35, od35, .func (PySem.W.fnOf "_law_cell_at" "_law_cell_at" (defArgs s__law_cell_at) (defBody s__law_cell_at) (defScope s__law_cell_at) (.none) kV35 dc35 pm35 an35 cd35 ct35), sl35⟩) (c35 : PySem.W.codeIn K cd35 "_law_cell_at" = true) (k35 : PySem.W.keepIn K (.ref f35) = true)
    {f36 : Addr} {od36 an36 : Option Addr} {sl36 : Array (Option Value)} {oc36 kV36 dc36 pm36 cd36 ct36 : Value}
    (a36 : PySem.W.nsIn K mainGlobals "_law_mixed" = some (some (.ref f36))) (l36 : K.lookup f36 = some ⟨oc36, od36, .func (PySem.W.fnOf "_law_mixed" "_law_mixed" (defArgs s__law_mixed) (defBody s__law_mixed) (defScope s__law_mixed) (.none) kV36 dc36 pm36 an36 cd36 ct36), sl36⟩) (c36 : PySem.W.codeIn K cd36 "_law_mixed" = true) (k36 : PySem.W.keepIn K (.ref f36) = true)
    {f37 : Addr} {od37 an37 : Option Addr} {sl37 : Array (Option Value)} {oc37 kV37 dc37 pm37 cd37 ct37 : Value}
    (a37 : PySem.W.nsIn K mainGlobals "_law_ends" = some (some (.ref f37))) (l37 : K.lookup f37 = some ⟨oc37, od37, .func (PySem.W.fnOf "_law_ends" "_law_ends" (defArgs s__law_ends) (defBody s__law_ends) (defScope s__law_ends) (.none) kV37 dc37 pm37 an37 cd37 ct37), sl37⟩) (c37 : PySem.W.codeIn K cd37 "_law_ends" = true) (k37 : PySem.W.keepIn K (.ref f37) = true)
    {f38 : Addr} {od38 an38 : Option Addr} {sl38 : Array (Option Value)} {oc38 kV38 dc38 pm38 cd38 ct38 : Value}
    (a38 : PySem.W.nsIn K mainGlobals "_law_net" = some (some (.ref f38))) (l38 : K.lookup f38 = some ⟨oc38, od38, .func (PySem.W.fnOf "_law_net" "_law_net" (defArgs s__law_net) (defBody s__law_net) (defScope s__law_net) (.none) kV38 dc38 pm38 an38 cd38 ct38), sl38⟩) (c38 : PySem.W.codeIn K cd38 "_law_net" = true) (k38 : PySem.W.keepIn K (.ref f38) = true)
    {f39 : Addr} {od39 an39 : Option Addr} {sl39 : Array (Option Value)} {oc39 kV39 dc39 pm39 cd39 ct39 : Value}
    (a39 : PySem.W.nsIn K mainGlobals "_law_net_drawn" = some (some (.ref f39))) (l39 : K.lookup f39 = some ⟨oc39, od39, .func (PySem.W.fnOf "_law_net_drawn" "_law_net_drawn" (defArgs s__law_net_drawn) (defBody s__law_net_drawn) (defScope s__law_net_drawn) (.none) kV39 dc39 pm39 an39 cd39 ct39), sl39⟩) (c39 : PySem.W.codeIn K cd39 "_law_net_drawn" = true) (k39 : PySem.W.keepIn K (.ref f39) = true)
    {f40 : Addr} {od40 an40 : Option Addr} {sl40 : Array (Option Value)} {oc40 kV40 dc40 pm40 cd40 ct40 : Value}
    (a40 : PySem.W.nsIn K mainGlobals "_law_stretches" = some (some (.ref f40))) (l40 : K.lookup f40 = some ⟨oc40, od40, .func (PySem.W.fnOf "_law_stretches" "_law_stretches" (defArgs s__law_stretches) (defBody s__law_stretches) (defScope s__law_stretches) (.none) kV40 dc40 pm40 an40 cd40 ct40), sl40⟩) (c40 : PySem.W.codeIn K cd40 "_law_stretches" = true) (k40 : PySem.W.keepIn K (.ref f40) = true)
    {f41 : Addr} {od41 an41 : Option Addr} {sl41 : Array (Option Value)} {oc41 kV41 dc41 pm41 cd41 ct41 : Value}
    (a41 : PySem.W.nsIn K mainGlobals "_law_swung" = some (some (.ref f41))) (l41 : K.lookup f41 = some ⟨oc41, od41, .func (PySem.W.fnOf "_law_swung" "_law_swung" (defArgs s__law_swung) (defBody s__law_swung) (defScope s__law_swung) (.none) kV41 dc41 pm41 an41 cd41 ct41), sl41⟩) (c41 : PySem.W.codeIn K cd41 "_law_swung" = true) (k41 : PySem.W.keepIn K (.ref f41) = true)
    {f42 : Addr} {od42 an42 : Option Addr} {sl42 : Array (Option Value)} {oc42 kV42 dc42 pm42 cd42 ct42 : Value}
    (a42 : PySem.W.nsIn K mainGlobals "_law_table" = some (some (.ref f42))) (l42 : K.lookup f42 = some ⟨oc42, od42, .func (PySem.W.fnOf "_law_table" "_law_table" (defArgs s__law_table) (defBody s__law_table) (defScope s__law_table) (.none) kV42 dc42 pm42 an42 cd42 ct42), sl42⟩) (c42 : PySem.W.codeIn K cd42 "_law_table" = true) (k42 : PySem.W.keepIn K (.ref f42) = true)
    {f43 : Addr} {od43 an43 : Option Addr} {sl43 : Array (Option Value)} {oc43 kV43 dc43 pm43 cd43 ct43 : Value}
    (a43 : PySem.W.nsIn K mainGlobals "_law_divisor" = some (some (.ref f43))) (l43 : K.lookup f43 = some ⟨oc43, od43, .func (PySem.W.fnOf "_law_divisor" "_law_divisor" (defArgs s__law_divisor) (defBody s__law_divisor) (defScope s__law_divisor) (.none) kV43 dc43 pm43 an43 cd43 ct43), sl43⟩) (c43 : PySem.W.codeIn K cd43 "_law_divisor" = true) (k43 : PySem.W.keepIn K (.ref f43) = true)
    {f44 : Addr} {od44 an44 : Option Addr} {sl44 : Array (Option Value)} {oc44 kV44 dc44 pm44 cd44 ct44 : Value}
    (a44 : PySem.W.nsIn K mainGlobals "_law_lowest" = some (some (.ref f44))) (l44 : K.lookup f44 = some ⟨oc44, od44, .func (PySem.W.fnOf "_law_lowest" "_law_lowest" (defArgs s__law_lowest) (defBody s__law_lowest) (defScope s__law_lowest) (.none) kV44 dc44 pm44 an44 cd44 ct44), sl44⟩) (c44 : PySem.W.codeIn K cd44 "_law_lowest" = true) (k44 : PySem.W.keepIn K (.ref f44) = true)
    {f45 : Addr} {od45 an45 : Option Addr} {sl45 : Array (Option Value)} {oc45 kV45 dc45 pm45 cd45 ct45 : Value}
    (a45 : PySem.W.nsIn K mainGlobals "_law_common" = some (some (.ref f45))) (l45 : K.lookup f45 = some ⟨oc45, od45, .func (PySem.W.fnOf "_law_common" "_law_common" (defArgs s__law_common) (defBody s__law_common) (defScope s__law_common) (.none) kV45 dc45 pm45 an45 cd45 ct45), sl45⟩) (c45 : PySem.W.codeIn K cd45 "_law_common" = true) (k45 : PySem.W.keepIn K (.ref f45) = true)
    {f46 : Addr} {od46 an46 : Option Addr} {sl46 : Array (Option Value)} {oc46 kV46 dc46 pm46 cd46 ct46 : Value}
    (a46 : PySem.W.nsIn K mainGlobals "_law_sums" = some (some (.ref f46))) (l46 : K.lookup f46 = some ⟨oc46, od46, .func (PySem.W.fnOf "_law_sums" "_law_sums" (defArgs s__law_sums) (defBody s__law_sums) (defScope s__law_sums) (.none) kV46 dc46 pm46 an46 cd46 ct46), sl46⟩) (c46 : PySem.W.codeIn K cd46 "_law_sums" = true) (k46 : PySem.W.keepIn K (.ref f46) = true)
    {f47 : Addr} {od47 an47 : Option Addr} {sl47 : Array (Option Value)} {oc47 kV47 dc47 pm47 cd47 ct47 : Value}
    (a47 : PySem.W.nsIn K mainGlobals "_law_sized" = some (some (.ref f47))) (l47 : K.lookup f47 = some ⟨oc47, od47, .func (PySem.W.fnOf "_law_sized" "_law_sized" (defArgs s__law_sized) (defBody s__law_sized) (defScope s__law_sized) (.none) kV47 dc47 pm47 an47 cd47 ct47), sl47⟩) (c47 : PySem.W.codeIn K cd47 "_law_sized" = true) (k47 : PySem.W.keepIn K (.ref f47) = true)
    {f48 : Addr} {od48 an48 : Option Addr} {sl48 : Array (Option Value)} {oc48 kV48 dc48 pm48 cd48 ct48 : Value}
    (a48 : PySem.W.nsIn K mainGlobals "_law_minor" = some (some (.ref f48))) (l48 : K.lookup f48 = some ⟨oc48, od48, .func (PySem.W.fnOf "_law_minor" "_law_minor" (defArgs s__law_minor) (defBody s__law_minor) (defScope s__law_minor) (.none) kV48 dc48 pm48 an48 cd48 ct48), sl48⟩) (c48 : PySem.W.codeIn K cd48 "_law_minor" = true) (k48 : PySem.W.keepIn K (.ref f48) = true)
    {f49 : Addr} {od49 an49 : Option Addr} {sl49 : Array (Option Value)} {oc49 kV49 dc49 pm49 cd49 ct49 : Value}
    (a49 : PySem.W.nsIn K mainGlobals "_law_solution" = some (some (.ref f49))) (l49 : K.lookup f49 = some ⟨oc49, od49, .func (PySem.W.fnOf "_law_solution" "_law_solution" (defArgs s__law_solution) (defBody s__law_solution) (defScope s__law_solution) (.none) kV49 dc49 pm49 an49 cd49 ct49), sl49⟩) (c49 : PySem.W.codeIn K cd49 "_law_solution" = true) (k49 : PySem.W.keepIn K (.ref f49) = true)
    {f50 : Addr} {od50 an50 : Option Addr} {sl50 : Array (Option Value)} {oc50 kV50 dc50 pm50 cd50 ct50 : Value}
    (a50 : PySem.W.nsIn K mainGlobals "_law_bad" = some (some (.ref f50))) (l50 : K.lookup f50 = some ⟨oc50, od50, .func (PySem.W.fnOf "_law_bad" "_law_bad" (defArgs s__law_bad) (defBody s__law_bad) (defScope s__law_bad) (.none) kV50 dc50 pm50 an50 cd50 ct50), sl50⟩) (c50 : PySem.W.codeIn K cd50 "_law_bad" = true) (k50 : PySem.W.keepIn K (.ref f50) = true)
    {f51 : Addr} {od51 an51 : Option Addr} {sl51 : Array (Option Value)} {oc51 kV51 dc51 pm51 cd51 ct51 : Value}
    (a51 : PySem.W.nsIn K mainGlobals "_law_spent" = some (some (.ref f51))) (l51 : K.lookup f51 = some ⟨oc51, od51, .func (PySem.W.fnOf "_law_spent" "_law_spent" (defArgs s__law_spent) (defBody s__law_spent) (defScope s__law_spent) (.none) kV51 dc51 pm51 an51 cd51 ct51), sl51⟩) (c51 : PySem.W.codeIn K cd51 "_law_spent" = true) (k51 : PySem.W.keepIn K (.ref f51) = true)
    {f52 : Addr} {od52 an52 : Option Addr} {sl52 : Array (Option Value)} {oc52 kV52 dc52 pm52 cd52 ct52 : Value}
    (a52 : PySem.W.nsIn K mainGlobals "_law_due" = some (some (.ref f52))) (l52 : K.lookup f52 = some ⟨oc52, od52, .func (PySem.W.fnOf "_law_due" "_law_due" (defArgs s__law_due) (defBody s__law_due) (defScope s__law_due) (.none) kV52 dc52 pm52 an52 cd52 ct52), sl52⟩) (c52 : PySem.W.codeIn K cd52 "_law_due" = true) (k52 : PySem.W.keepIn K (.ref f52) = true)
    {f53 : Addr} {od53 an53 : Option Addr} {sl53 : Array (Option Value)} {oc53 kV53 dc53 pm53 cd53 ct53 : Value}
    (a53 : PySem.W.nsIn K mainGlobals "law" = some (some (.ref f53))) (l53 : K.lookup f53 = some ⟨oc53, od53, .func (PySem.W.fnOf "law" "law" (defArgs s_law) (defBody s_law) (defScope s_law) (.none) kV53 dc53 pm53 an53 cd53 ct53), sl53⟩) (c53 : PySem.W.codeIn K cd53 "law" = true) (k53 : PySem.W.keepIn K (.ref f53) = true)
    (z_abs : PySem.W.nsIn K mainGlobals "abs" = some none)
    (z_all : PySem.W.nsIn K mainGlobals "all" = some none)
    (z_any : PySem.W.nsIn K mainGlobals "any" = some none)
    (z_bool : PySem.W.nsIn K mainGlobals "bool" = some none)
    (z_enumerate : PySem.W.nsIn K mainGlobals "enumerate" = some none)
    (z_int : PySem.W.nsIn K mainGlobals "int" = some none)
    (z_isinstance : PySem.W.nsIn K mainGlobals "isinstance" = some none)
    (z_len : PySem.W.nsIn K mainGlobals "len" = some none)
    (z_list : PySem.W.nsIn K mainGlobals "list" = some none)
    (z_min : PySem.W.nsIn K mainGlobals "min" = some none)
    (z_range : PySem.W.nsIn K mainGlobals "range" = some none)
    (z_repr : PySem.W.nsIn K mainGlobals "repr" = some none)
    (z_sum : PySem.W.nsIn K mainGlobals "sum" = some none)
    (z_tuple : PySem.W.nsIn K mainGlobals "tuple" = some none)
    (z_zip : PySem.W.nsIn K mainGlobals "zip" = some none)
    (y_combinations : PySem.W.nsIn K mainGlobals "combinations" = some (some (.type "itertools.combinations")))
    (y_gcd : PySem.W.nsIn K mainGlobals "gcd" = some (some (.builtin "math.gcd")))
    {tk_MOST : Tok} (x_MOST : PySem.W.nsIn K mainGlobals "MOST" = some (some (.int 8 tk_MOST)))
    : ∀ (a : Addr) (s : Shared) (ns : List Int), ns.length ≤ 63 → Own.Asked P w K mg fa a ns s := by
  have e := hfa.symm.trans (PySem.W.mg_of X G a53)
  cases e
  have F1 := fun_mk (st := s_is_whole) l1 c1 k1
  have b1 := F1.binds (ps := ["thing"]) fun _ _ _ _ _ _ us hl => match us, hl with | [_], _ => rfl
  have F2 := fun_mk (st := s_is_fraction) l2 c2 k2
  have b2 := F2.binds (ps := ["thing"]) fun _ _ _ _ _ _ us hl => match us, hl with | [_], _ => rfl
  have F3 : FunD K "fraction" "fraction" (defArgs s_fraction) (defBody s_fraction) (defScope s_fraction) [.int 1] [] f3 _ := ⟨⟨oc3, od3, .ref T3, kV3, dc3, pm3, an3, cd3, ct3, sl3, rfl, l3, c3, .inr ⟨by simp, T3, oT3, its3, nT3, rfl, t3, u3, v3.2⟩, .inl rfl⟩, k3⟩
  obtain ⟨ds3_1, bd3_1⟩ := F3.binds1 (ps := ["top", "bottom"]) 1 0 (by simp) rfl (fun _ _ _ _ _ _ _ us its hl hi => match us, hl, its, hi with | [_], _, [_], _ => ⟨_, rfl, by with_unfolding_all rfl⟩)
  obtain ⟨ds3_2, bd3_2⟩ := F3.binds1 (ps := ["top", "bottom"]) 2 1 (by simp) rfl (fun _ _ _ _ _ _ _ us its hl hi => match us, hl, its, hi with | [_, _], _, [_], _ => ⟨_, rfl, by with_unfolding_all rfl⟩)
  have e3 : ds3_2 = [] := by cases bd3_2.1; rfl
  have b3 := bd3_2.2
  rw [e3] at b3
  have F4 := fun_mk (st := s_plus) l4 c4 k4
  have b4 := F4.binds (ps := ["one", "other"]) fun _ _ _ _ _ _ us hl => match us, hl with | [_, _], _ => rfl
  have F5 := fun_mk (st := s_minus) l5 c5 k5
  have b5 := F5.binds (ps := ["one", "other"]) fun _ _ _ _ _ _ us hl => match us, hl with | [_, _], _ => rfl
  have F6 := fun_mk (st := s_times) l6 c6 k6
  have b6 := F6.binds (ps := ["one", "other"]) fun _ _ _ _ _ _ us hl => match us, hl with | [_, _], _ => rfl
  have F7 := fun_mk (st := s_floor_of) l7 c7 k7
  have b7 := F7.binds (ps := ["value"]) fun _ _ _ _ _ _ us hl => match us, hl with | [_], _ => rfl
  have F8 := fun_mk (st := s_ceiling_of) l8 c8 k8
  have b8 := F8.binds (ps := ["value"]) fun _ _ _ _ _ _ us hl => match us, hl with | [_], _ => rfl
  have F9 := fun_mk (st := s_is_long) l9 c9 k9
  have b9 := F9.binds (ps := ["thing", "many"]) fun _ _ _ _ _ _ us hl => match us, hl with | [_, _], _ => rfl
  have F10 := fun_mk (st := s_is_fractions) l10 c10 k10
  have b10 := F10.binds (ps := ["thing", "many"]) fun _ _ _ _ _ _ us hl => match us, hl with | [_, _], _ => rfl
  have F11 := fun_mk (st := s_is_table) l11 c11 k11
  have b11 := F11.binds (ps := ["thing"]) fun _ _ _ _ _ _ us hl => match us, hl with | [_], _ => rfl
  have F12 := fun_mk (st := s_is_row) l12 c12 k12
  have b12 := F12.binds (ps := ["thing"]) fun _ _ _ _ _ _ us hl => match us, hl with | [_], _ => rfl
  have F13 := fun_mk (st := s_check_table) l13 c13 k13
  have b13 := F13.binds (ps := ["thing"]) fun _ _ _ _ _ _ us hl => match us, hl with | [_], _ => rfl
  have F14 := fun_mk (st := s_check_pick) l14 c14 k14
  have b14 := F14.binds (ps := ["thing", "many"]) fun _ _ _ _ _ _ us hl => match us, hl with | [_, _], _ => rfl
  have F15 := fun_mk (st := s_check_places) l15 c15 k15
  have b15 := F15.binds (ps := ["thing", "many"]) fun _ _ _ _ _ _ us hl => match us, hl with | [_, _], _ => rfl
  have F16 := fun_mk (st := s_is_place) l16 c16 k16
  have b16 := F16.binds (ps := ["thing", "many"]) fun _ _ _ _ _ _ us hl => match us, hl with | [_, _], _ => rfl
  have F17 := fun_mk (st := s_shape) l17 c17 k17
  have b17 := F17.binds (ps := ["table"]) fun _ _ _ _ _ _ us hl => match us, hl with | [_], _ => rfl
  have F18 := fun_mk (st := s_piece) l18 c18 k18
  have b18 := F18.binds (ps := ["table", "rows", "columns"]) fun _ _ _ _ _ _ us hl => match us, hl with | [_, _, _], _ => rfl
  have F19 := fun_mk (st := s_led) l19 c19 k19
  have b19 := F19.binds (ps := ["table", "xs"]) fun _ _ _ _ _ _ us hl => match us, hl with | [_, _], _ => rfl
  have F20 := fun_mk (st := s_row_sum) l20 c20 k20
  have b20 := F20.binds (ps := ["row", "xs"]) fun _ _ _ _ _ _ us hl => match us, hl with | [_, _], _ => rfl
  have F21 := fun_mk (st := s_square_value) l21 c21 k21
  have b21 := F21.binds (ps := ["square"]) fun _ _ _ _ _ _ us hl => match us, hl with | [_], _ => rfl
  have F22 := fun_mk (st := s_cleared) l22 c22 k22
  have b22 := F22.binds (ps := ["table"]) fun _ _ _ _ _ _ us hl => match us, hl with | [_], _ => rfl
  have F23 := fun_mk (st := s_cleared_row) l23 c23 k23
  have b23 := F23.binds (ps := ["row", "lead", "column", "corner"]) fun _ _ _ _ _ _ us hl => match us, hl with | [_, _, _, _], _ => rfl
  have F24 := fun_mk (st := s_bad_square) l24 c24 k24
  have b24 := F24.binds (ps := ["table"]) fun _ _ _ _ _ _ us hl => match us, hl with | [_], _ => rfl
  have F25 := fun_mk (st := s_is_bad) l25 c25 k25
  have b25 := F25.binds (ps := ["value"]) fun _ _ _ _ _ _ us hl => match us, hl with | [_], _ => rfl
  have F26 := fun_mk (st := s_unfolded) l26 c26 k26
  have b26 := F26.binds (ps := ["table", "rows", "columns", "known"]) fun _ _ _ _ _ _ us hl => match us, hl with | [_, _, _, _], _ => rfl
  have F27 := fun_mk (st := s_solved) l27 c27 k27
  have b27 := F27.binds (ps := ["square", "totals"]) fun _ _ _ _ _ _ us hl => match us, hl with | [_, _], _ => rfl
  have F28 := fun_mk (st := s_replaced) l28 c28 k28
  have b28 := F28.binds (ps := ["square", "column", "totals"]) fun _ _ _ _ _ _ us hl => match us, hl with | [_, _, _], _ => rfl
  have F29 := fun_mk (st := s_spread_out) l29 c29 k29
  have b29 := F29.binds (ps := ["values", "columns", "wide"]) fun _ _ _ _ _ _ us hl => match us, hl with | [_, _, _], _ => rfl
  have F30 := fun_mk (st := s_unwhole) l30 c30 k30
  have b30 := F30.binds (ps := ["table"]) fun _ _ _ _ _ _ us hl => match us, hl with | [_], _ => rfl
  have F31 := fun_mk (st := s_first_rests) l31 c31 k31
  have b31 := F31.binds (ps := ["square"]) fun _ _ _ _ _ _ us hl => match us, hl with | [_], _ => rfl
  have F32 := fun_mk (st := s__law_source_of) l32 c32 k32
  have b32 := F32.binds (ps := ["_law_cell"]) fun _ _ _ _ _ _ us hl => match us, hl with | [_], _ => rfl
  have F33 := fun_mk (st := s__law_next) l33 c33 k33
  have b33 := F33.binds (ps := ["_law_source", "_law_many"]) fun _ _ _ _ _ _ us hl => match us, hl with | [_, _], _ => rfl
  have F34 := fun_mk (st := s__law_one) l34 c34 k34
  have b34 := F34.binds (ps := ["_law_source", "_law_some"]) fun _ _ _ _ _ _ us hl => match us, hl with | [_, _], _ => rfl
  have F35 := fun_mk (st := s__law_cell_at) l35 c35 k35
  have b35 := F35.binds (ps := ["_law_script", "_law_k"]) fun _ _ _ _ _ _ us hl => match us, hl with | [_, _], _ => rfl
  have F36 := fun_mk (st := s__law_mixed) l36 c36 k36
  have b36 := F36.binds (ps := ["_law_source", "_law_some"]) fun _ _ _ _ _ _ us hl => match us, hl with | [_, _], _ => rfl
  have F37 := fun_mk (st := s__law_ends) l37 c37 k37
  have b37 := F37.binds (ps := ["_law_source", "_law_many"]) fun _ _ _ _ _ _ us hl => match us, hl with | [_, _], _ => rfl
  have F38 := fun_mk (st := s__law_net) l38 c38 k38
  have b38 := F38.binds (ps := ["_law_ends_here", "_law_arcs"]) fun _ _ _ _ _ _ us hl => match us, hl with | [_, _], _ => rfl
  have F39 := fun_mk (st := s__law_net_drawn) l39 c39 k39
  have b39 := F39.binds (ps := ["_law_source", "_law_many", "_law_wide"]) fun _ _ _ _ _ _ us hl => match us, hl with | [_, _, _], _ => rfl
  have F40 := fun_mk (st := s__law_stretches) l40 c40 k40
  have b40 := F40.binds (ps := ["_law_source", "_law_many", "_law_wide"]) fun _ _ _ _ _ _ us hl => match us, hl with | [_, _, _], _ => rfl
  have F41 := fun_mk (st := s__law_swung) l41 c41 k41
  have b41 := F41.binds (ps := ["_law_source", "_law_table_here"]) fun _ _ _ _ _ _ us hl => match us, hl with | [_, _], _ => rfl
  have F42 := fun_mk (st := s__law_table) l42 c42 k42
  have b42 := F42.binds (ps := ["_law_source", "_law_most"]) fun _ _ _ _ _ _ us hl => match us, hl with | [_, _], _ => rfl
  have F43 := fun_mk (st := s__law_divisor) l43 c43 k43
  have b43 := F43.binds (ps := ["_law_one_here", "_law_other"]) fun _ _ _ _ _ _ us hl => match us, hl with | [_, _], _ => rfl
  have F44 := fun_mk (st := s__law_lowest) l44 c44 k44
  have b44 := F44.binds (ps := ["_law_top", "_law_bottom"]) fun _ _ _ _ _ _ us hl => match us, hl with | [_, _], _ => rfl
  have F45 := fun_mk (st := s__law_common) l45 c45 k45
  have b45 := F45.binds (ps := ["_law_xs"]) fun _ _ _ _ _ _ us hl => match us, hl with | [_], _ => rfl
  have F46 := fun_mk (st := s__law_sums) l46 c46 k46
  have b46 := F46.binds (ps := ["_law_rows", "_law_xs"]) fun _ _ _ _ _ _ us hl => match us, hl with | [_, _], _ => rfl
  have F47 := fun_mk (st := s__law_sized) l47 c47 k47
  have b47 := F47.binds (ps := ["_law_many", "_law_size"]) fun _ _ _ _ _ _ us hl => match us, hl with | [_, _], _ => rfl
  have F48 := fun_mk (st := s__law_minor) l48 c48 k48
  have b48 := F48.binds (ps := ["_law_rows"]) fun _ _ _ _ _ _ us hl => match us, hl with | [_], _ => rfl
  have F49 := fun_mk (st := s__law_solution) l49 c49 k49
  have b49 := F49.binds (ps := ["_law_rows", "_law_sides"]) fun _ _ _ _ _ _ us hl => match us, hl with | [_, _], _ => rfl
  have F50 := fun_mk (st := s__law_bad) l50 c50 k50
  have b50 := F50.binds (ps := ["_law_table_here"]) fun _ _ _ _ _ _ us hl => match us, hl with | [_], _ => rfl
  have F51 := fun_mk (st := s__law_spent) l51 c51 k51
  have b51 := F51.binds (ps := ["_law_got"]) fun _ _ _ _ _ _ us hl => match us, hl with | [_], _ => rfl
  have F52 := fun_mk (st := s__law_due) l52 c52 k52
  have b52 := F52.binds (ps := ["_law_table_here"]) fun _ _ _ _ _ _ us hl => match us, hl with | [_], _ => rfl
  have F53 := fun_mk (st := s_law) l53 c53 k53
  have b53 := F53.binds (ps := ["_law_script"]) fun _ _ _ _ _ _ us hl => match us, hl with | [_], _ => rfl
  let T : Txt K mg := {
    f_is_whole := f1, fd_is_whole := _, F_is_whole := F1, g_is_whole := PySem.W.mg_of X G a1, k_is_whole := k1, b_is_whole := b1,
    f_is_fraction := f2, fd_is_fraction := _, F_is_fraction := F2, g_is_fraction := PySem.W.mg_of X G a2, k_is_fraction := k2, b_is_fraction := b2,
    f_fraction := f3, fd_fraction := _, F_fraction := F3, g_fraction := PySem.W.mg_of X G a3, k_fraction := k3, b_fraction := b3, d_fraction_1 := ds3_1, b_fraction_1 := bd3_1,
    f_plus := f4, fd_plus := _, F_plus := F4, g_plus := PySem.W.mg_of X G a4, k_plus := k4, b_plus := b4,
    f_minus := f5, fd_minus := _, F_minus := F5, g_minus := PySem.W.mg_of X G a5, k_minus := k5, b_minus := b5,
    f_times := f6, fd_times := _, F_times := F6, g_times := PySem.W.mg_of X G a6, k_times := k6, b_times := b6,
    f_floor_of := f7, fd_floor_of := _, F_floor_of := F7, g_floor_of := PySem.W.mg_of X G a7, k_floor_of := k7, b_floor_of := b7,
    f_ceiling_of := f8, fd_ceiling_of := _, F_ceiling_of := F8, g_ceiling_of := PySem.W.mg_of X G a8, k_ceiling_of := k8, b_ceiling_of := b8,
    f_is_long := f9, fd_is_long := _, F_is_long := F9, g_is_long := PySem.W.mg_of X G a9, k_is_long := k9, b_is_long := b9,
    f_is_fractions := f10, fd_is_fractions := _, F_is_fractions := F10, g_is_fractions := PySem.W.mg_of X G a10, k_is_fractions := k10, b_is_fractions := b10,
    f_is_table := f11, fd_is_table := _, F_is_table := F11, g_is_table := PySem.W.mg_of X G a11, k_is_table := k11, b_is_table := b11,
    f_is_row := f12, fd_is_row := _, F_is_row := F12, g_is_row := PySem.W.mg_of X G a12, k_is_row := k12, b_is_row := b12,
    f_check_table := f13, fd_check_table := _, F_check_table := F13, g_check_table := PySem.W.mg_of X G a13, k_check_table := k13, b_check_table := b13,
    f_check_pick := f14, fd_check_pick := _, F_check_pick := F14, g_check_pick := PySem.W.mg_of X G a14, k_check_pick := k14, b_check_pick := b14,
    f_check_places := f15, fd_check_places := _, F_check_places := F15, g_check_places := PySem.W.mg_of X G a15, k_check_places := k15, b_check_places := b15,
    f_is_place := f16, fd_is_place := _, F_is_place := F16, g_is_place := PySem.W.mg_of X G a16, k_is_place := k16, b_is_place := b16,
    f_shape := f17, fd_shape := _, F_shape := F17, g_shape := PySem.W.mg_of X G a17, k_shape := k17, b_shape := b17,
    f_piece := f18, fd_piece := _, F_piece := F18, g_piece := PySem.W.mg_of X G a18, k_piece := k18, b_piece := b18,
    f_led := f19, fd_led := _, F_led := F19, g_led := PySem.W.mg_of X G a19, k_led := k19, b_led := b19,
    f_row_sum := f20, fd_row_sum := _, F_row_sum := F20, g_row_sum := PySem.W.mg_of X G a20, k_row_sum := k20, b_row_sum := b20,
    f_square_value := f21, fd_square_value := _, F_square_value := F21, g_square_value := PySem.W.mg_of X G a21, k_square_value := k21, b_square_value := b21,
    f_cleared := f22, fd_cleared := _, F_cleared := F22, g_cleared := PySem.W.mg_of X G a22, k_cleared := k22, b_cleared := b22,
    f_cleared_row := f23, fd_cleared_row := _, F_cleared_row := F23, g_cleared_row := PySem.W.mg_of X G a23, k_cleared_row := k23, b_cleared_row := b23,
    f_bad_square := f24, fd_bad_square := _, F_bad_square := F24, g_bad_square := PySem.W.mg_of X G a24, k_bad_square := k24, b_bad_square := b24,
    f_is_bad := f25, fd_is_bad := _, F_is_bad := F25, g_is_bad := PySem.W.mg_of X G a25, k_is_bad := k25, b_is_bad := b25,
    f_unfolded := f26, fd_unfolded := _, F_unfolded := F26, g_unfolded := PySem.W.mg_of X G a26, k_unfolded := k26, b_unfolded := b26,
    f_solved := f27, fd_solved := _, F_solved := F27, g_solved := PySem.W.mg_of X G a27, k_solved := k27, b_solved := b27,
    f_replaced := f28, fd_replaced := _, F_replaced := F28, g_replaced := PySem.W.mg_of X G a28, k_replaced := k28, b_replaced := b28,
    f_spread_out := f29, fd_spread_out := _, F_spread_out := F29, g_spread_out := PySem.W.mg_of X G a29, k_spread_out := k29, b_spread_out := b29,
    f_unwhole := f30, fd_unwhole := _, F_unwhole := F30, g_unwhole := PySem.W.mg_of X G a30, k_unwhole := k30, b_unwhole := b30,
    f_first_rests := f31, fd_first_rests := _, F_first_rests := F31, g_first_rests := PySem.W.mg_of X G a31, k_first_rests := k31, b_first_rests := b31,
    f__law_source_of := f32, fd__law_source_of := _, F__law_source_of := F32, g__law_source_of := PySem.W.mg_of X G a32, k__law_source_of := k32, b__law_source_of := b32,
    f__law_next := f33, fd__law_next := _, F__law_next := F33, g__law_next := PySem.W.mg_of X G a33, k__law_next := k33, b__law_next := b33,
    f__law_one := f34, fd__law_one := _, F__law_one := F34, g__law_one := PySem.W.mg_of X G a34, k__law_one := k34, b__law_one := b34,
    f__law_cell_at := f35, fd__law_cell_at := _, F__law_cell_at := F35, g__law_cell_at := PySem.W.mg_of X G a35, k__law_cell_at := k35, b__law_cell_at := b35,
    f__law_mixed := f36, fd__law_mixed := _, F__law_mixed := F36, g__law_mixed := PySem.W.mg_of X G a36, k__law_mixed := k36, b__law_mixed := b36,
    f__law_ends := f37, fd__law_ends := _, F__law_ends := F37, g__law_ends := PySem.W.mg_of X G a37, k__law_ends := k37, b__law_ends := b37,
    f__law_net := f38, fd__law_net := _, F__law_net := F38, g__law_net := PySem.W.mg_of X G a38, k__law_net := k38, b__law_net := b38,
    f__law_net_drawn := f39, fd__law_net_drawn := _, F__law_net_drawn := F39, g__law_net_drawn := PySem.W.mg_of X G a39, k__law_net_drawn := k39, b__law_net_drawn := b39,
    f__law_stretches := f40, fd__law_stretches := _, F__law_stretches := F40, g__law_stretches := PySem.W.mg_of X G a40, k__law_stretches := k40, b__law_stretches := b40,
    f__law_swung := f41, fd__law_swung := _, F__law_swung := F41, g__law_swung := PySem.W.mg_of X G a41, k__law_swung := k41, b__law_swung := b41,
    f__law_table := f42, fd__law_table := _, F__law_table := F42, g__law_table := PySem.W.mg_of X G a42, k__law_table := k42, b__law_table := b42,
    f__law_divisor := f43, fd__law_divisor := _, F__law_divisor := F43, g__law_divisor := PySem.W.mg_of X G a43, k__law_divisor := k43, b__law_divisor := b43,
    f__law_lowest := f44, fd__law_lowest := _, F__law_lowest := F44, g__law_lowest := PySem.W.mg_of X G a44, k__law_lowest := k44, b__law_lowest := b44,
    f__law_common := f45, fd__law_common := _, F__law_common := F45, g__law_common := PySem.W.mg_of X G a45, k__law_common := k45, b__law_common := b45,
    f__law_sums := f46, fd__law_sums := _, F__law_sums := F46, g__law_sums := PySem.W.mg_of X G a46, k__law_sums := k46, b__law_sums := b46,
    f__law_sized := f47, fd__law_sized := _, F__law_sized := F47, g__law_sized := PySem.W.mg_of X G a47, k__law_sized := k47, b__law_sized := b47,
    f__law_minor := f48, fd__law_minor := _, F__law_minor := F48, g__law_minor := PySem.W.mg_of X G a48, k__law_minor := k48, b__law_minor := b48,
    f__law_solution := f49, fd__law_solution := _, F__law_solution := F49, g__law_solution := PySem.W.mg_of X G a49, k__law_solution := k49, b__law_solution := b49,
    f__law_bad := f50, fd__law_bad := _, F__law_bad := F50, g__law_bad := PySem.W.mg_of X G a50, k__law_bad := k50, b__law_bad := b50,
    f__law_spent := f51, fd__law_spent := _, F__law_spent := F51, g__law_spent := PySem.W.mg_of X G a51, k__law_spent := k51, b__law_spent := b51,
    f__law_due := f52, fd__law_due := _, F__law_due := F52, g__law_due := PySem.W.mg_of X G a52, k__law_due := k52, b__law_due := b52,
    f_law := fa, fd_law := _, F_law := F53, g_law := PySem.W.mg_of X G a53, k_law := k53, b_law := b53,
    n_abs := PySem.W.mg_none_of X G z_abs,
    n_all := PySem.W.mg_none_of X G z_all,
    n_any := PySem.W.mg_none_of X G z_any,
    n_bool := PySem.W.mg_none_of X G z_bool,
    n_enumerate := PySem.W.mg_none_of X G z_enumerate,
    n_int := PySem.W.mg_none_of X G z_int,
    n_isinstance := PySem.W.mg_none_of X G z_isinstance,
    n_len := PySem.W.mg_none_of X G z_len,
    n_list := PySem.W.mg_none_of X G z_list,
    n_min := PySem.W.mg_none_of X G z_min,
    n_range := PySem.W.mg_none_of X G z_range,
    n_repr := PySem.W.mg_none_of X G z_repr,
    n_sum := PySem.W.mg_none_of X G z_sum,
    n_tuple := PySem.W.mg_none_of X G z_tuple,
    n_zip := PySem.W.mg_none_of X G z_zip,
    g_combinations := PySem.W.mg_of X G y_combinations,
    g_gcd := PySem.W.mg_of X G y_gcd,
    t_MOST := tk_MOST, g_MOST := PySem.W.mg_of X G x_MOST }
  exact fun a s ns hl root G inR gl env hS => run_law (base := root) T env ⟨a, ns, rfl, hS, hl, fun _ => rfl⟩
end SbE35
open PySem PySem.W PyProof.Rows
set_option maxRecDepth 100000 in
set_option maxHeartbeats 0 in
theorem PySem.Challenge.cw_signbook_k35_tasks_that_are_not_whole_holds : PySem.Challenge.rw_signbook_k35_tasks_that_are_not_whole.Holds := by
  w_on; o_law; k_head; (case hw => w_witness2)
  k_fill
  refine Own.walk_asked (l := PySem.Challenge.rw_signbook_k35_tasks_that_are_not_whole) (n := 63) rfl (by decide) rfl (fun w h Y => PySem.W.kIn_of Y) ?F
  case F =>
    intro w mg fa a s ns KX G hmg hl
    refine' SbE35.all_mk KX G hmg ?a1 ?l1 ?c1 ?k1 ?a2 ?l2 ?c2 ?k2 ?a3 ?l3 ?c3 ?k3 ?t3 ?u3 ?v3 ?a4 ?l4 ?c4 ?k4 ?a5 ?l5 ?c5 ?k5 ?a6 ?l6 ?c6 ?k6 ?a7 ?l7 ?c7 ?k7 ?a8 ?l8 ?c8 ?k8 ?a9 ?l9 ?c9 ?k9 ?a10 ?l10 ?c10 ?k10 ?a11 ?l11 ?c11 ?k11 ?a12 ?l12 ?c12 ?k12 ?a13 ?l13 ?c13 ?k13 ?a14 ?l14 ?c14 ?k14 ?a15 ?l15 ?c15 ?k15 ?a16 ?l16 ?c16 ?k16 ?a17 ?l17 ?c17 ?k17 ?a18 ?l18 ?c18 ?k18 ?a19 ?l19 ?c19 ?k19 ?a20 ?l20 ?c20 ?k20 ?a21 ?l21 ?c21 ?k21 ?a22 ?l22 ?c22 ?k22 ?a23 ?l23 ?c23 ?k23 ?a24 ?l24 ?c24 ?k24 ?a25 ?l25 ?c25 ?k25 ?a26 ?l26 ?c26 ?k26 ?a27 ?l27 ?c27 ?k27 ?a28 ?l28 ?c28 ?k28 ?a29 ?l29 ?c29 ?k29 ?a30 ?l30 ?c30 ?k30 ?a31 ?l31 ?c31 ?k31 ?a32 ?l32 ?c32 ?k32 ?a33 ?l33 ?c33 ?k33 ?a34 ?l34 ?c34 ?k34 ?a35 ?l35 ?c35 ?k35 ?a36 ?l36 ?c36 ?k36 ?a37 ?l37 ?c37 ?k37 ?a38 ?l38 ?c38 ?k38 ?a39 ?l39 ?c39 ?k39 ?a40 ?l40 ?c40 ?k40 ?a41 ?l41 ?c41 ?k41 ?a42 ?l42 ?c42 ?k42 ?a43 ?l43 ?c43 ?k43 ?a44 ?l44 ?c44 ?k44 ?a45 ?l45 ?c45 ?k45 ?a46 ?l46 ?c46 ?k46 ?a47 ?l47 ?c47 ?k47 ?a48 ?l48 ?c48 ?k48 ?a49 ?l49 ?c49 ?k49 ?a50 ?l50 ?c50 ?k50 ?a51 ?l51 ?c51 ?k51 ?a52 ?l52 ?c52 ?k52 ?a53 ?l53 ?c53 ?k53 ?z_abs ?z_all ?z_any ?z_bool ?z_enumerate ?z_int ?z_isinstance ?z_len ?z_list ?z_min ?z_range ?z_repr ?z_sum ?z_tuple ?z_zip ?y_combinations ?y_gcd ?x_MOST a s ns hl
    (case a1 => k_is)
    (case l1 => k_is)
    (case c1 => k_is)
    (case k1 => k_is)
    (case a2 => k_is)
    (case l2 => k_is)
    (case c2 => k_is)
    (case k2 => k_is)
    (case a3 => k_is)
    (case l3 => k_is)
    (case c3 => k_is)
    (case k3 => k_is)
    (case t3 => k_is)
    (case u3 => rfl)
    (case v3 => exact ⟨rfl, by repeat (first | exact .nil | refine .cons ⟨_, rfl⟩ ?_ | refine .cons rfl ?_)⟩)
    (case a4 => k_is)
    (case l4 => k_is)
    (case c4 => k_is)
    (case k4 => k_is)
    (case a5 => k_is)
    (case l5 => k_is)
    (case c5 => k_is)
    (case k5 => k_is)
    (case a6 => k_is)
    (case l6 => k_is)
    (case c6 => k_is)
    (case k6 => k_is)
    (case a7 => k_is)
    (case l7 => k_is)
    (case c7 => k_is)
    (case k7 => k_is)
    (case a8 => k_is)
    (case l8 => k_is)
    (case c8 => k_is)
    (case k8 => k_is)
    (case a9 => k_is)
    (case l9 => k_is)
    (case c9 => k_is)
    (case k9 => k_is)
    (case a10 => k_is)
    (case l10 => k_is)
    (case c10 => k_is)
    (case k10 => k_is)
    (case a11 => k_is)
    (case l11 => k_is)
    (case c11 => k_is)
    (case k11 => k_is)
    (case a12 => k_is)
    (case l12 => k_is)
    (case c12 => k_is)
    (case k12 => k_is)
    (case a13 => k_is)
    (case l13 => k_is)
    (case c13 => k_is)
    (case k13 => k_is)
    (case a14 => k_is)
    (case l14 => k_is)
    (case c14 => k_is)
    (case k14 => k_is)
    (case a15 => k_is)
    (case l15 => k_is)
    (case c15 => k_is)
    (case k15 => k_is)
    (case a16 => k_is)
    (case l16 => k_is)
    (case c16 => k_is)
    (case k16 => k_is)
    (case a17 => k_is)
    (case l17 => k_is)
    (case c17 => k_is)
    (case k17 => k_is)
    (case a18 => k_is)
    (case l18 => k_is)
    (case c18 => k_is)
    (case k18 => k_is)
    (case a19 => k_is)
    (case l19 => k_is)
    (case c19 => k_is)
    (case k19 => k_is)
    (case a20 => k_is)
    (case l20 => k_is)
    (case c20 => k_is)
    (case k20 => k_is)
    (case a21 => k_is)
    (case l21 => k_is)
    (case c21 => k_is)
    (case k21 => k_is)
    (case a22 => k_is)
    (case l22 => k_is)
    (case c22 => k_is)
    (case k22 => k_is)
    (case a23 => k_is)
    (case l23 => k_is)
    (case c23 => k_is)
    (case k23 => k_is)
    (case a24 => k_is)
    (case l24 => k_is)
    (case c24 => k_is)
    (case k24 => k_is)
    (case a25 => k_is)
    (case l25 => k_is)
    (case c25 => k_is)
    (case k25 => k_is)
    (case a26 => k_is)
    (case l26 => k_is)
    (case c26 => k_is)
    (case k26 => k_is)
    (case a27 => k_is)
    (case l27 => k_is)
    (case c27 => k_is)
    (case k27 => k_is)
    (case a28 => k_is)
    (case l28 => k_is)
    (case c28 => k_is)
    (case k28 => k_is)
    (case a29 => k_is)
    (case l29 => k_is)
    (case c29 => k_is)
    (case k29 => k_is)
    (case a30 => k_is)
    (case l30 => k_is)
    (case c30 => k_is)
    (case k30 => k_is)
    (case a31 => k_is)
    (case l31 => k_is)
    (case c31 => k_is)
    (case k31 => k_is)
    (case a32 => k_is)
    (case l32 => k_is)
    (case c32 => k_is)
    (case k32 => k_is)
    (case a33 => k_is)
    (case l33 => k_is)
    (case c33 => k_is)
    (case k33 => k_is)
    (case a34 => k_is)
    (case l34 => k_is)
    (case c34 => k_is)
    (case k34 => k_is)
    (case a35 => k_is)
    (case l35 => k_is)
    (case c35 => k_is)
    (case k35 => k_is)
    (case a36 => k_is)
    (case l36 => k_is)
    (case c36 => k_is)
    (case k36 => k_is)
    (case a37 => k_is)
    (case l37 => k_is)
    (case c37 => k_is)
    (case k37 => k_is)
    (case a38 => k_is)
    (case l38 => k_is)
    (case c38 => k_is)
    (case k38 => k_is)
    (case a39 => k_is)
    (case l39 => k_is)
    (case c39 => k_is)
    (case k39 => k_is)
    (case a40 => k_is)
    (case l40 => k_is)
    (case c40 => k_is)
    (case k40 => k_is)
    (case a41 => k_is)
    (case l41 => k_is)
    (case c41 => k_is)
    (case k41 => k_is)
    (case a42 => k_is)
    (case l42 => k_is)
    (case c42 => k_is)
    (case k42 => k_is)
    (case a43 => k_is)
    (case l43 => k_is)
    (case c43 => k_is)
    (case k43 => k_is)
    (case a44 => k_is)
    (case l44 => k_is)
    (case c44 => k_is)
    (case k44 => k_is)
    (case a45 => k_is)
    (case l45 => k_is)
    (case c45 => k_is)
    (case k45 => k_is)
    (case a46 => k_is)
    (case l46 => k_is)
    (case c46 => k_is)
    (case k46 => k_is)
    (case a47 => k_is)
    (case l47 => k_is)
    (case c47 => k_is)
    (case k47 => k_is)
    (case a48 => k_is)
    (case l48 => k_is)
    (case c48 => k_is)
    (case k48 => k_is)
    (case a49 => k_is)
    (case l49 => k_is)
    (case c49 => k_is)
    (case k49 => k_is)
    (case a50 => k_is)
    (case l50 => k_is)
    (case c50 => k_is)
    (case k50 => k_is)
    (case a51 => k_is)
    (case l51 => k_is)
    (case c51 => k_is)
    (case k51 => k_is)
    (case a52 => k_is)
    (case l52 => k_is)
    (case c52 => k_is)
    (case k52 => k_is)
    (case a53 => k_is)
    (case l53 => k_is)
    (case c53 => k_is)
    (case k53 => k_is)
    (case z_abs => k_is)
    (case z_all => k_is)
    (case z_any => k_is)
    (case z_bool => k_is)
    (case z_enumerate => k_is)
    (case z_int => k_is)
    (case z_isinstance => k_is)
    (case z_len => k_is)
    (case z_list => k_is)
    (case z_min => k_is)
    (case z_range => k_is)
    (case z_repr => k_is)
    (case z_sum => k_is)
    (case z_tuple => k_is)
    (case z_zip => k_is)
    (case y_combinations => k_is)
    (case y_gcd => k_is)
    (case x_MOST => k_is)
