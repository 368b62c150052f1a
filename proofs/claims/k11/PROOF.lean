import PyProof.Rows.All
import Wide.All
import OpenK.AllK
import Wide.FinOn
import PyProof.EqAt
import PyProof.EqKinds
import PyProof.TupleCall
import HandS.ForMost
import HandS.Evl
import HandS.Wide
import HandS.Gcd
import HandS.IsInst
import HandS.Defaults
import HandS.Zip
import HandS.Conv
import HandS.Style
import HandS.TryOnly
import PyProof.ReprRoads
import HandS.Lambda
import HandS.Ends
import HandS.Words
import HandS.Flow
import HandS.List
import PyProof.LongRange
import PyProof.ListRange
import PyProof.ReprLen
import PyProof.CallFns
import PyProof.ZipIter
import HandS.RevRange
import HandS.SortKw
import HandS.ClsMeth
import KE.KSortKey
import KE.SortKeyHeap
import KE.DataMinKey
import KE.DataMinMax
import KE.KExcInit
import KE.KIsAll
import KE.KTryMore
import HandS.ForExc
import HandS.ExcInit
import HandS.ExcIs
import HandS.ExcField
import HandS.FStr
import HandS.Head0
import HandS.Head1
import HandS.Head2
import HandS.HeadEnd
import HandS.HeadHook1
import HandS.HeadHook2
import HandS.HeadHook3
import HandS.HeadHook4
import HandS.HeadWalk
import KE.KStateDown
import HandS.Head3
import HandS.Dict
import KE.KeyNested
import KE.KDictDisplayH
import PyProof.DictRoadsH
import PyProof.DictMoreH
import HandS.Nested
import HandS.TupAny
import HandS.Iter
import KE.GoesEnum
import KE.GoesMore
import PyProof.Draws
import PySem.Challenge.RW_signbook_k11_the_least_bad_square
set_option Elab.async false
set_option linter.all false
set_option maxRecDepth 100000
set_option maxHeartbeats 2000000
/-! Determinants by the first row, over the rational numbers: what rows do to them. No library is needed. -/
namespace Dt
abbrev Mx := Nat → Nat → Rat
/-! ### sums -/
def sm : Nat → (Nat → Rat) → Rat
  | 0, _ => 0
  | n + 1, f => sm n f + f n
theorem sm_congr {f g : Nat → Rat} : ∀ {n : Nat}, (∀ j, j < n → f j = g j) → sm n f = sm n g
  | 0, _ => rfl
  | n + 1, h => by
    show sm n f + f n = sm n g + g n
    rw [sm_congr fun j hj => h j (by omega), h n (by omega)]
theorem sm_zero : ∀ n : Nat, sm n (fun _ => 0) = 0
  | 0 => rfl
  | n + 1 => by
    show sm n (fun _ => 0) + 0 = 0
    rw [sm_zero n]
    exact Rat.add_zero 0
theorem sm_add {f g : Nat → Rat} : ∀ n : Nat, sm n (fun j => f j + g j) = sm n f + sm n g
  | 0 => (Rat.add_zero 0).symm
  | n + 1 => by
    show sm n (fun j => f j + g j) + (f n + g n) = (sm n f + f n) + (sm n g + g n)
    rw [sm_add n]
    grind
theorem sm_mul {f : Nat → Rat} (c : Rat) : ∀ n : Nat, sm n (fun j => c * f j) = c * sm n f
  | 0 => by
    show (0 : Rat) = c * 0
    grind
  | n + 1 => by
    show sm n (fun j => c * f j) + c * f n = c * (sm n f + f n)
    rw [sm_mul c n]
    grind
theorem sm_comm {f : Nat → Nat → Rat} (m : Nat) : ∀ n : Nat, sm n (fun i => sm m fun j => f i j) = sm m fun j => sm n fun i => f i j
  | 0 => (sm_zero m).symm
  | n + 1 => by
    show sm n (fun i => sm m fun j => f i j) + sm m (fun j => f n j) = sm m fun j => (sm n fun i => f i j) + f n j
    rw [sm_comm m n, sm_add]
def skip (j l : Nat) : Nat := if l < j then l else l + 1
theorem skip_lt {j l : Nat} (h : l < j) : skip j l = l := if_pos h
theorem skip_ge {j l : Nat} (h : j ≤ l) : skip j l = l + 1 := if_neg (by omega)
/-- the sum over all but j -/
theorem sm_skip {g : Nat → Rat} {j : Nat} : ∀ {n : Nat}, j ≤ n → sm n (fun k => g (skip j k)) = sm (n + 1) fun m => if m = j then 0 else g m
  | 0, h => by
    have : j = 0 := by omega
    subst this
    show (0 : Rat) = 0 + (if (0 : Nat) = 0 then 0 else g 0)
    rw [if_pos rfl]
    exact (Rat.add_zero 0).symm
  | n + 1, h => by
    by_cases c : j = n + 1
    · subst c
      have e : sm (n + 1) (fun k => g (skip (n + 1) k)) = sm (n + 1) fun m => if m = n + 1 then 0 else g m := sm_congr fun k hk => by
        rw [skip_lt hk, if_neg (by omega)]
      show _ = sm (n + 1) (fun m => if m = n + 1 then 0 else g m) + (if n + 1 = n + 1 then 0 else g (n + 1))
      rw [e, if_pos rfl]
      grind
    · show sm n (fun k => g (skip j k)) + g (skip j n) = sm (n + 1) (fun m => if m = j then 0 else g m) + (if n + 1 = j then 0 else g (n + 1))
      rw [sm_skip (by omega), skip_ge (by omega), if_neg (by omega)]
/-! ### determinants -/
def sg (j : Nat) : Rat := if j % 2 = 0 then 1 else -1
theorem sg_succ (j : Nat) : sg (j + 1) = -sg j := by
  unfold sg
  by_cases c : j % 2 = 0
  · rw [if_pos c, if_neg (by omega)]
  · rw [if_neg c, if_pos (by omega)]
    rfl
theorem sg_sq (j : Nat) : sg j * sg j = 1 := by
  unfold sg
  split <;> decide +kernel
def minor (M : Mx) (j : Nat) : Mx := fun i l => M (i + 1) (skip j l)
def det : Nat → Mx → Rat
  | 0, _ => 1
  | n + 1, M => sm (n + 1) fun j => sg j * M 0 j * det n (minor M j)
theorem det_congr : ∀ {n : Nat} {M N : Mx}, (∀ i j, i < n → j < n → M i j = N i j) → det n M = det n N
  | 0, _, _, _ => rfl
  | n + 1, M, N, h => sm_congr fun j hj => by
    rw [h 0 j (by omega) hj, det_congr (n := n) (M := minor M j) (N := minor N j) fun i l hi hl => h (i + 1) (skip j l) (by omega) (by unfold skip; split <;> omega)]
/-- linear in each row -/
theorem det_lin {c : Rat} {r : Nat} : ∀ {n : Nat} {M A B : Mx}, r < n → (∀ j, j < n → M r j = A r j + c * B r j) → (∀ i j, i ≠ r → i < n → j < n → M i j = A i j ∧ M i j = B i j) → det n M = det n A + c * det n B
  | 0, _, _, _, h, _, _ => by omega
  | n + 1, M, A, B, hr, h1, h2 => by
    show sm (n + 1) _ = sm (n + 1) _ + c * sm (n + 1) _
    rw [← sm_mul, ← sm_add]
    refine sm_congr fun j hj => ?_
    by_cases c0 : r = 0
    · subst c0
      have e1 : det n (minor M j) = det n (minor A j) := det_congr fun i l hi hl => (h2 (i + 1) (skip j l) (by omega) (by omega) (by unfold skip; split <;> omega)).1
      have e2 : det n (minor M j) = det n (minor B j) := det_congr fun i l hi hl => (h2 (i + 1) (skip j l) (by omega) (by omega) (by unfold skip; split <;> omega)).2
      rw [h1 j hj, ← e1, ← e2]
      grind
    · have e := det_lin (c := c) (r := r - 1) (n := n) (M := minor M j) (A := minor A j) (B := minor B j) (by omega) (fun l hl => by
        have := h1 (skip j l) (by unfold skip; split <;> omega)
        unfold minor
        rw [show r - 1 + 1 = r by omega]
        exact this) (fun i l hi hi2 hl => h2 (i + 1) (skip j l) (by omega) (by omega) (by unfold skip; split <;> omega))
      have g := h2 0 j (fun z => c0 z.symm) (by omega) hj
      rw [e, ← g.1, ← g.2]
      grind
/-! ### two rows exchanged -/
/-- the columns but j and m -/
def skip2 (j m l : Nat) : Nat := if m < j then skip j (skip m l) else skip j (skip (m - 1) l)
theorem skip_skip {j m : Nat} (h : m < j) (l : Nat) : skip j (skip m l) = skip m (skip (j - 1) l) := by
  by_cases a : l < m
  · rw [skip_lt a, skip_lt (show l < j by omega), skip_lt (show l < j - 1 by omega), skip_lt a]
  · by_cases b : l < j - 1
    · rw [skip_ge (show m ≤ l by omega), skip_lt (show l + 1 < j by omega), skip_lt b, skip_ge (show m ≤ l by omega)]
    · rw [skip_ge (show m ≤ l by omega), skip_ge (show j ≤ l + 1 by omega), skip_ge (show j - 1 ≤ l by omega), skip_ge (show m ≤ l + 1 by omega)]
theorem skip2_comm {j m : Nat} (h : j ≠ m) (l : Nat) : skip2 j m l = skip2 m j l := by
  unfold skip2
  by_cases c : m < j
  · rw [if_pos c, if_neg (by omega)]
    exact skip_skip c l
  · rw [if_neg c, if_pos (by omega)]
    exact (skip_skip (by omega) l).symm
def s2 (j m : Nat) : Rat := if m < j then sg j * sg m else -(sg j * sg m)
theorem s2_comm {j m : Nat} (h : j ≠ m) : s2 j m = -s2 m j := by
  unfold s2
  by_cases c : m < j
  · rw [if_pos c, if_neg (by omega)]
    grind
  · rw [if_neg c, if_pos (by omega)]
    grind
def D2 (n : Nat) (M : Mx) (j m : Nat) : Rat := det n fun i l => M (i + 2) (skip2 j m l)
theorem det_two (n : Nat) (M : Mx) : det (n + 2) M = sm (n + 2) fun j => sm (n + 2) fun m => if m = j then 0 else s2 j m * M 0 j * M 1 m * D2 n M j m := by
  show sm (n + 2) _ = _
  refine sm_congr fun j hj => ?_
  show sg j * M 0 j * sm (n + 1) (fun k => sg k * (minor M j) 0 k * det n (minor (minor M j) k)) = _
  rw [← sm_mul, ← sm_skip (g := fun m => s2 j m * M 0 j * M 1 m * D2 n M j m) (n := n + 1) (j := j) (by omega)]
  refine sm_congr fun k hk => ?_
  have e1 : (minor M j) 0 k = M 1 (skip j k) := rfl
  have e2 : det n (minor (minor M j) k) = D2 n M j (skip j k) := by
    refine det_congr fun i l _ _ => ?_
    show M (i + 2) (skip j (skip k l)) = M (i + 2) (skip2 j (skip j k) l)
    congr 1
    unfold skip2
    by_cases c : k < j
    · rw [skip_lt c, if_pos c]
    · have hs : skip j k = k + 1 := skip_ge (by omega)
      rw [hs, if_neg (by omega), Nat.add_sub_cancel]
  have e3 : s2 j (skip j k) = sg j * sg k := by
    unfold s2
    by_cases c : k < j
    · rw [skip_lt c, if_pos c]
    · rw [skip_ge (by omega), if_neg (by omega), sg_succ]
      grind
  rw [e1, e2, e3]
  grind
/-- rows r and r + 1 exchanged -/
def sw (r : Nat) (M : Mx) : Mx := fun i j => M (if i = r then r + 1 else if i = r + 1 then r else i) j
theorem det_sw : ∀ {n r : Nat} {M : Mx}, r + 1 < n → det n (sw r M) = -det n M
  | n + 2, 0, M, _ => by
    rw [det_two, det_two, sm_comm]
    have : ∀ x : Rat, -x = (-1) * x := fun x => by grind
    rw [this, ← sm_mul]
    refine sm_congr fun j hj => ?_
    rw [← sm_mul]
    refine sm_congr fun m hm => ?_
    by_cases c : j = m
    · subst c
      rw [if_pos rfl]
      grind
    · rw [if_neg c, if_neg (fun z => c z.symm)]
      have e : D2 n (sw 0 M) m j = D2 n M j m := by
        refine det_congr fun i l _ _ => ?_
        show M (if i + 2 = 0 then 1 else if i + 2 = 0 + 1 then 0 else i + 2) _ = M (i + 2) _
        rw [if_neg (by omega), if_neg (by omega), skip2_comm (fun z => c z.symm)]
      have e0 : (sw 0 M) 0 m = M 1 m := rfl
      have e1 : (sw 0 M) 1 j = M 0 j := rfl
      rw [e, e0, e1, s2_comm c]
      grind
  | 1, 0, _, h => by omega
  | 0, _, _, h => by omega
  | n + 1, r + 1, M, h => by
    have : ∀ x : Rat, -x = (-1) * x := fun x => by grind
    show sm (n + 1) _ = -sm (n + 1) _
    rw [this, ← sm_mul]
    refine sm_congr fun j hj => ?_
    have e : det n (minor (sw (r + 1) M) j) = -det n (minor M j) := by
      rw [← det_sw (n := n) (r := r) (M := minor M j) (by omega)]
      refine det_congr fun i l _ _ => ?_
      show M (if i + 1 = r + 1 then r + 1 + 1 else if i + 1 = r + 1 + 1 then r + 1 else i + 1) _ = M ((if i = r then r + 1 else if i = r + 1 then r else i) + 1) _
      congr 1
      repeat' split
      all_goals omega
    have e0 : (sw (r + 1) M) 0 j = M 0 j := rfl
    rw [e, e0]
    grind

/-! ### equal rows, rows added -/
theorem neg_self {x : Rat} (h : x = -x) : x = 0 := by grind
theorem det_eq1 {n r : Nat} {M : Mx} (h : r + 1 < n) (e : ∀ j, j < n → M r j = M (r + 1) j) : det n M = 0 := by
  have h1 := det_sw (M := M) h
  have h2 : det n (sw r M) = det n M := det_congr fun i j _ hj => by
    show M (if i = r then r + 1 else if i = r + 1 then r else i) j = M i j
    by_cases c1 : i = r
    · rw [if_pos c1, c1, e j hj]
    · rw [if_neg c1]
      by_cases c2 : i = r + 1
      · rw [if_pos c2, c2, e j hj]
      · rw [if_neg c2]
  rw [h2] at h1
  exact neg_self h1
theorem det_eq {n r : Nat} : ∀ {d : Nat} {M : Mx}, r + d + 1 < n → (∀ j, j < n → M r j = M (r + d + 1) j) → det n M = 0
  | 0, M, h, e => det_eq1 h e
  | d + 1, M, h, e => by
    have h1 := det_sw (n := n) (r := r + d + 1) (M := M) (by omega)
    have h2 : det n (sw (r + d + 1) M) = 0 := det_eq (r := r) (d := d) (by omega) fun j hj => by
      show M (if r = r + d + 1 then r + d + 1 + 1 else if r = r + d + 1 + 1 then r + d + 1 else r) j = M (if r + d + 1 = r + d + 1 then r + d + 1 + 1 else _) j
      rw [if_neg (by omega), if_neg (by omega), if_pos rfl]
      exact e j hj
    rw [h2] at h1
    grind
/-- c times row p added to row r -/
def ad (r p : Nat) (c : Rat) (M : Mx) : Mx := fun i j => if i = r then M r j + c * M p j else M i j
theorem det_ad {n r p : Nat} {c : Rat} {M : Mx} (hr : r < n) (hp : p < n) (ne : p ≠ r) : det n (ad r p c M) = det n M := by
  have h := det_lin (c := c) (r := r) (n := n) (M := ad r p c M) (A := M) (B := fun i j => if i = r then M p j else M i j) hr
    (fun j _ => by
      show (if r = r then M r j + c * M p j else M r j) = M r j + c * (if r = r then M p j else M r j)
      rw [if_pos rfl, if_pos rfl])
    (fun i j hi _ _ => by
      show (if i = r then _ else M i j) = M i j ∧ (if i = r then _ else M i j) = (if i = r then M p j else M i j)
      rw [if_neg hi]
      exact ⟨rfl, (if_neg hi).symm⟩)
  have z : det n (fun i j => if i = r then M p j else M i j) = 0 := by
    rcases Nat.lt_or_gt_of_ne ne with l | l
    · refine det_eq (r := p) (d := r - p - 1) (by omega) fun j _ => ?_
      show (if p = r then _ else M p j) = (if p + (r - p - 1) + 1 = r then M p j else _)
      rw [if_neg ne, if_pos (by omega)]
    · refine det_eq (r := r) (d := p - r - 1) (by omega) fun j _ => ?_
      show (if r = r then M p j else _) = (if r + (p - r - 1) + 1 = r then _ else M (r + (p - r - 1) + 1) j)
      rw [if_pos rfl, if_neg (by omega), show r + (p - r - 1) + 1 = p by omega]
  rw [h, z]
  grind
/-! ### a step of the clearing -/
theorem det_col0 : ∀ {n : Nat} {M : Mx}, 0 < n → (∀ i, i < n → M i 0 = 0) → det n M = 0
  | 0, _, h, _ => by omega
  | n + 1, M, _, h => by
    have : sm (n + 1) (fun j => sg j * M 0 j * det n (minor M j)) = sm (n + 1) fun _ => 0 := sm_congr fun j hj => by
      by_cases c : j = 0
      · rw [c, h 0 (by omega)]
        grind
      · have e : det n (minor M j) = 0 := det_col0 (by omega) fun i hi => by
          show M (i + 1) (skip j 0) = 0
          rw [skip_lt (by omega)]
          exact h (i + 1) (by omega)
        rw [e]
        grind
    show sm (n + 1) _ = 0
    rw [this, sm_zero]
/-- the first column has its first entry alone -/
theorem det_col1 {n : Nat} {M : Mx} (h : ∀ i, i < n → M (i + 1) 0 = 0) : det (n + 1) M = M 0 0 * det n (fun i j => M (i + 1) (j + 1)) := by
  have e : sm (n + 1) (fun j => sg j * M 0 j * det n (minor M j)) = sm (n + 1) fun j => if j = 0 then M 0 0 * det n (fun i j => M (i + 1) (j + 1)) else 0 := sm_congr fun j hj => by
    by_cases c : j = 0
    · subst c
      have e1 : det n (minor M 0) = det n (fun i j => M (i + 1) (j + 1)) := det_congr fun i l _ _ => by
        show M (i + 1) (skip 0 l) = _
        rw [skip_ge (by omega)]
      rw [if_pos rfl, e1]
      have : sg 0 = 1 := rfl
      rw [this]
      grind
    · have z : det n (minor M j) = 0 := det_col0 (by omega) fun i hi => by
        show M (i + 1) (skip j 0) = 0
        rw [skip_lt (by omega)]
        exact h i hi
      rw [if_neg c, z]
      grind
  show sm (n + 1) _ = _
  rw [e]
  have one : ∀ (m : Nat) (x : Rat), sm (m + 1) (fun j => if j = 0 then x else 0) = x := fun m x => by
    induction m with
    | zero =>
      show (0 : Rat) + (if (0 : Nat) = 0 then x else 0) = x
      rw [if_pos rfl]
      grind
    | succ m ih =>
      show sm (m + 1) (fun j => if j = 0 then x else 0) + (if m + 1 = 0 then x else 0) = x
      rw [ih, if_neg (by omega)]
      grind
  exact one n _
/-- the rest behind the first row and column, cleared by them -/
def ga (M : Mx) : Mx := fun i j => M (i + 1) (j + 1) - M (i + 1) 0 / M 0 0 * M 0 (j + 1)
/-- rows 1 to k cleared -/
def el (M : Mx) (k : Nat) : Mx := fun i j => if 0 < i ∧ i ≤ k then M i j - M i 0 / M 0 0 * M 0 j else M i j
theorem det_el {n : Nat} {M : Mx} : ∀ k, k < n → det n (el M k) = det n M
  | 0, h => det_congr fun i j _ _ => if_neg (by omega)
  | k + 1, h => by
    have ih := det_el (n := n) (M := M) k (by omega)
    rw [← ih, ← det_ad (r := k + 1) (p := 0) (c := -(M (k + 1) 0 / M 0 0)) (M := el M k) h (by omega) (by omega)]
    refine det_congr fun i j _ _ => ?_
    show (if 0 < i ∧ i ≤ k + 1 then M i j - M i 0 / M 0 0 * M 0 j else M i j) = if i = k + 1 then (if 0 < k + 1 ∧ k + 1 ≤ k then _ else M (k + 1) j) + _ * (if 0 < 0 ∧ 0 ≤ k then _ else M 0 j) else (if 0 < i ∧ i ≤ k then M i j - M i 0 / M 0 0 * M 0 j else M i j)
    by_cases c : i = k + 1
    · rw [if_pos ⟨by omega, by omega⟩, if_pos c, if_neg (by omega), if_neg (by omega), c]
      grind
    · rw [if_neg c]
      by_cases c2 : 0 < i ∧ i ≤ k
      · rw [if_pos c2, if_pos ⟨c2.1, by omega⟩]
      · rw [if_neg c2, if_neg (by omega)]
theorem det_ga {n : Nat} {M : Mx} (h : M 0 0 ≠ 0) : det (n + 1) M = M 0 0 * det n (ga M) := by
  rw [← det_el n (by omega), det_col1]
  · have e : (el M n) 0 0 = M 0 0 := if_neg (by omega)
    rw [e]
    congr 1
    refine det_congr fun i j hi _ => ?_
    show (if 0 < i + 1 ∧ i + 1 ≤ n then _ else _) = _
    rw [if_pos ⟨by omega, by omega⟩]
    rfl
  · intro i hi
    show (if 0 < i + 1 ∧ i + 1 ≤ n then M (i + 1) 0 - M (i + 1) 0 / M 0 0 * M 0 0 else _) = 0
    rw [if_pos ⟨by omega, by omega⟩, Rat.div_mul_cancel h]
    grind
/-- so many steps -/
def gas : Nat → Mx → Mx
  | 0, M => M
  | k + 1, M => gas k (ga M)
/-- the product of the first leading entries -/
def cor : Nat → Mx → Rat
  | 0, _ => 1
  | k + 1, M => M 0 0 * cor k (ga M)
def leads : Nat → Mx → Prop
  | 0, _ => True
  | k + 1, M => M 0 0 ≠ 0 ∧ leads k (ga M)
theorem det_gas {n : Nat} : ∀ {k : Nat} {M : Mx}, leads k M → det (n + k) M = cor k M * det n (gas k M)
  | 0, M, _ => by
    show det n M = 1 * det n M
    grind
  | k + 1, M, h => by
    show det ((n + k) + 1) M = M 0 0 * cor k (ga M) * det n (gas k (ga M))
    rw [det_ga h.1, det_gas h.2]
    grind

/-! ### two rows exchanged, whichever -/
theorem det_neg {n r : Nat} {M : Mx} (hr : r < n) : det n (fun i j => if i = r then -(M r j) else M i j) = -det n M := by
  have h := det_lin (c := -2) (r := r) (n := n) (M := fun i j => if i = r then -(M r j) else M i j) (A := M) (B := M) hr
    (fun j _ => by
      show (if r = r then -(M r j) else M r j) = _
      rw [if_pos rfl]
      grind)
    (fun i j hi _ _ => by
      show (if i = r then _ else M i j) = M i j ∧ (if i = r then _ else M i j) = M i j
      rw [if_neg hi]
      exact ⟨rfl, rfl⟩)
  rw [h]
  grind
def xch (r t : Nat) (M : Mx) : Mx := fun i j => M (if i = r then t else if i = t then r else i) j
theorem det_xch {n r t : Nat} {M : Mx} (hr : r < n) (ht : t < n) (ne : r ≠ t) : det n (xch r t M) = -det n M := by
  have a1 := det_ad (c := 1) (M := M) hr ht (fun z => ne z.symm)
  have a2 := det_ad (c := -1) (M := ad r t 1 M) ht hr ne
  have a3 := det_ad (c := 1) (M := ad t r (-1) (ad r t 1 M)) hr ht (fun z => ne z.symm)
  have e : det n (ad r t 1 (ad t r (-1) (ad r t 1 M))) = det n (fun i j => if i = t then -((xch r t M) t j) else (xch r t M) i j) := det_congr fun i j _ _ => by
    unfold ad xch
    by_cases c1 : i = r
    · subst c1
      simp only [if_pos rfl, if_neg ne, if_neg (fun z => ne z.symm : ¬ t = i)]
      grind
    · by_cases c2 : i = t
      · subst c2
        simp only [if_neg c1, if_pos rfl, if_neg ne]
        grind
      · simp only [if_neg c1, if_neg c2]
  rw [e, det_neg ht] at a3
  grind
/-! ### whole numbers -/
def Wh (x : Rat) : Prop := ∃ z : Int, x = (z : Rat)
theorem wh_int (z : Int) : Wh (z : Rat) := ⟨z, rfl⟩
theorem wh_add {x y : Rat} (h : Wh x) (g : Wh y) : Wh (x + y) := by
  obtain ⟨a, rfl⟩ := h
  obtain ⟨b, rfl⟩ := g
  exact ⟨a + b, (Rat.intCast_add a b).symm⟩
theorem wh_mul {x y : Rat} (h : Wh x) (g : Wh y) : Wh (x * y) := by
  obtain ⟨a, rfl⟩ := h
  obtain ⟨b, rfl⟩ := g
  exact ⟨a * b, (Rat.intCast_mul a b).symm⟩
theorem wh_sg (j : Nat) : Wh (sg j) := by
  unfold sg
  split
  · exact ⟨1, rfl⟩
  · exact ⟨-1, by decide +kernel⟩
theorem wh_sm {f : Nat → Rat} : ∀ {n : Nat}, (∀ j, j < n → Wh (f j)) → Wh (sm n f)
  | 0, _ => ⟨0, rfl⟩
  | n + 1, h => wh_add (wh_sm fun j hj => h j (by omega)) (h n (by omega))
theorem wh_det : ∀ {n : Nat} {M : Mx}, (∀ i j, i < n → j < n → Wh (M i j)) → Wh (det n M)
  | 0, _, _ => ⟨1, rfl⟩
  | n + 1, M, h => wh_sm fun j hj => wh_mul (wh_mul (wh_sg j) (h 0 j (by omega) hj)) (wh_det fun i l hi hl => h (i + 1) (skip j l) (by omega) (by unfold skip; split <;> omega))
/-! ### the rest is a determinant over the corner -/
/-- rows 0 to k - 1 and from k + i on, columns likewise -/
def sel (k i j : Nat) (M : Mx) : Mx := fun a b => M (if a < k then a else i + a) (if b < k then b else j + b)
theorem sel_ga (k i j : Nat) (M : Mx) : ga (sel (k + 1) i j M) = sel k i j (ga M) := by
  funext a b
  have h1 : (if a + 1 < k + 1 then a + 1 else i + (a + 1)) = (if a < k then a else i + a) + 1 := by split <;> split <;> omega
  have h2 : (if b + 1 < k + 1 then b + 1 else j + (b + 1)) = (if b < k then b else j + b) + 1 := by split <;> split <;> omega
  have h0 : (if 0 < k + 1 then 0 else i + 0) = 0 := if_pos (by omega)
  have h0' : (if 0 < k + 1 then 0 else j + 0) = 0 := if_pos (by omega)
  unfold ga sel
  simp only [h1, h2, h0, h0']
theorem sel_zero (i j : Nat) (M : Mx) : (sel 0 i j M) 0 0 = M i j := rfl
theorem sel_top (k i j : Nat) (M : Mx) : (sel (k + 1) i j M) 0 0 = M 0 0 := by
  unfold sel
  rw [if_pos (by omega), if_pos (by omega)]
theorem sel_gas (i j : Nat) : ∀ (k : Nat) (M : Mx), (gas k (sel k i j M)) 0 0 = gas k M i j
  | 0, M => rfl
  | k + 1, M => by
    show (gas k (ga (sel (k + 1) i j M))) 0 0 = gas k (ga M) i j
    rw [sel_ga]
    exact sel_gas i j k (ga M)
theorem sel_cor (i j : Nat) : ∀ (k : Nat) (M : Mx), cor k (sel k i j M) = cor k M
  | 0, _ => rfl
  | k + 1, M => by
    show (sel (k + 1) i j M) 0 0 * cor k (ga (sel (k + 1) i j M)) = M 0 0 * cor k (ga M)
    rw [sel_top, sel_ga, sel_cor i j k]
theorem sel_leads (i j : Nat) : ∀ (k : Nat) (M : Mx), leads k M → leads k (sel k i j M)
  | 0, _, _ => trivial
  | k + 1, M, h => by
    refine ⟨by rw [sel_top]; exact h.1, ?_⟩
    rw [sel_ga]
    exact sel_leads i j k (ga M) h.2
theorem det_one (M : Mx) : det 1 M = M 0 0 := by
  show (0 : Rat) + sg 0 * M 0 0 * 1 = M 0 0
  have : sg 0 = 1 := rfl
  rw [this]
  grind
theorem rest_det {k i j : Nat} {M : Mx} (h : leads k M) : cor k M * gas k M i j = det (1 + k) (sel k i j M) := by
  rw [det_gas (n := 1) (sel_leads i j k M h), det_one, sel_gas, sel_cor]
theorem rest_wh {k i j : Nat} {M : Mx} (h : leads k M) (w : ∀ a b, Wh (M a b)) : Wh (cor k M * gas k M i j) := by
  rw [rest_det h]
  exact wh_det fun a b _ _ => w _ _
theorem gas_succ : ∀ (k : Nat) (M : Mx), gas (k + 1) M = ga (gas k M)
  | 0, _ => rfl
  | k + 1, M => gas_succ k (ga M)
theorem cor_succ : ∀ (k : Nat) (M : Mx), cor (k + 1) M = cor k M * gas k M 0 0
  | 0, M => by
    show M 0 0 * 1 = 1 * M 0 0
    grind
  | k + 1, M => by
    show M 0 0 * cor (k + 1) (ga M) = M 0 0 * cor k (ga M) * gas k (ga M) 0 0
    rw [cor_succ k (ga M)]
    grind
theorem leads_succ : ∀ {k : Nat} {M : Mx}, leads k M → gas k M 0 0 ≠ 0 → leads (k + 1) M
  | 0, _, _, h => ⟨h, trivial⟩
  | k + 1, _, h, g => ⟨h.1, leads_succ (k := k) h.2 g⟩
theorem cor_ne : ∀ {k : Nat} {M : Mx}, leads k M → cor k M ≠ 0
  | 0, _, _ => by
    show (1 : Rat) ≠ 0
    decide +kernel
  | k + 1, M, h => by
    have := cor_ne h.2
    show M 0 0 * cor k (ga M) ≠ 0
    have h1 := h.1
    grind
/-- a step of the program: exact -/
theorem bar_step {k : Nat} {M : Mx} {B : Nat → Nat → Int} {c : Int} (w : ∀ a b, Wh (M a b)) (h : leads k M) (hc : (c : Rat) = cor k M) (hB : ∀ i j, ((B i j : Int) : Rat) = cor k M * gas k M i j) (h0 : B 0 0 ≠ 0) :
    leads (k + 1) M ∧ ((B 0 0 : Int) : Rat) = cor (k + 1) M ∧ ∀ i j, (((B (i + 1) (j + 1) * B 0 0 - B (i + 1) 0 * B 0 (j + 1)).fdiv c : Int) : Rat) = cor (k + 1) M * gas (k + 1) M i j := by
  have cn := cor_ne h
  have b0 : ((B 0 0 : Int) : Rat) ≠ 0 := fun z => h0 (by exact_mod_cast z)
  have g0 : gas k M 0 0 ≠ 0 := fun z => b0 (by rw [hB, z]; grind)
  have l := leads_succ h g0
  refine ⟨l, by rw [hB, cor_succ], fun i j => ?_⟩
  obtain ⟨z, hz⟩ := rest_wh (i := i) (j := j) l w
  have key : ((c * z : Int) : Rat) = ((B (i + 1) (j + 1) * B 0 0 - B (i + 1) 0 * B 0 (j + 1) : Int) : Rat) := by
    rw [Rat.intCast_mul, ← hz, hc, Rat.intCast_sub, Rat.intCast_mul, Rat.intCast_mul, hB, hB, hB, hB, cor_succ, gas_succ]
    show cor k M * (cor k M * gas k M 0 0 * (gas k M (i + 1) (j + 1) - gas k M (i + 1) 0 / gas k M 0 0 * gas k M 0 (j + 1))) = _
    have d : gas k M (i + 1) 0 / gas k M 0 0 * gas k M 0 0 = gas k M (i + 1) 0 := Rat.div_mul_cancel g0
    grind
  have key2 : c * z = B (i + 1) (j + 1) * B 0 0 - B (i + 1) 0 * B 0 (j + 1) := by exact_mod_cast key
  have c0 : c ≠ 0 := fun q => cn (by rw [← hc, q]; rfl)
  rw [← key2, hz, Int.mul_fdiv_cancel_left _ c0]

/-! ### cleared by an entry anywhere -/
theorem det_colz {c : Nat} : ∀ {n : Nat} {M : Mx}, c < n → (∀ i, i < n → M i c = 0) → det n M = 0
  | 0, _, h, _ => by omega
  | n + 1, M, hc, h => by
    have : sm (n + 1) (fun j => sg j * M 0 j * det n (minor M j)) = sm (n + 1) fun _ => 0 := sm_congr fun j hj => by
      by_cases e : j = c
      · rw [e, h 0 (by omega)]
        grind
      · have z : det n (minor M j) = 0 := by
          by_cases l : c < j
          · refine det_colz (c := c) (by omega) fun i hi => ?_
            show M (i + 1) (skip j c) = 0
            rw [skip_lt l]
            exact h (i + 1) (by omega)
          · refine det_colz (c := c - 1) (by omega) fun i hi => ?_
            show M (i + 1) (skip j (c - 1)) = 0
            rw [skip_ge (by omega), show c - 1 + 1 = c by omega]
            exact h (i + 1) (by omega)
        rw [z]
        grind
    show sm (n + 1) _ = 0
    rw [this, sm_zero]
termination_by n => n
/-- row r at the top, the others below in their order -/
def top (r : Nat) (M : Mx) : Mx := fun i j => M (if i = 0 then r else skip r (i - 1)) j
theorem det_top {n : Nat} : ∀ {r : Nat} {M : Mx}, r < n → det n (top r M) = sg r * det n M
  | 0, M, _ => by
    have e : det n (top 0 M) = det n M := det_congr fun i j _ _ => by
      unfold top
      by_cases c : i = 0
      · rw [if_pos c, c]
      · rw [if_neg c, skip_ge (by omega), show i - 1 + 1 = i by omega]
    have : sg 0 = 1 := rfl
    rw [e, this]
    grind
  | r + 1, M, h => by
    have e : det n (top (r + 1) M) = det n (top r (sw r M)) := det_congr fun i j _ _ => by
      unfold top sw
      by_cases c : i = 0
      · rw [if_pos c, if_pos c, if_pos rfl]
      · rw [if_neg c, if_neg c]
        congr 1
        by_cases l : i - 1 < r
        · rw [skip_lt l, skip_lt (by omega), if_neg (by omega), if_neg (by omega)]
        · by_cases l2 : i - 1 = r
          · rw [l2, skip_lt (by omega), skip_ge (by omega), if_neg (by omega), if_pos rfl]
          · rw [skip_ge (by omega), skip_ge (by omega), if_neg (by omega), if_neg (by omega)]
    rw [e, det_top (by omega), det_sw (by omega), sg_succ]
    grind
/-- all rows but r cleared at column c, the first k of them -/
def cl (r c k : Nat) (M : Mx) : Mx := fun i j => if i ≠ r ∧ i < k then M i j - M i c / M r c * M r j else M i j
theorem det_cl {n r c : Nat} {M : Mx} (hr : r < n) : ∀ k, k ≤ n → det n (cl r c k M) = det n M
  | 0, _ => det_congr fun i j _ _ => if_neg (by omega)
  | k + 1, h => by
    have ih := det_cl (c := c) (M := M) hr k (by omega)
    by_cases e : k = r
    · rw [← ih]
      refine det_congr fun i j _ _ => ?_
      unfold cl
      by_cases g : i ≠ r ∧ i < k
      · rw [if_pos g, if_pos ⟨g.1, by omega⟩]
      · rw [if_neg g, if_neg (by omega)]
    · rw [← ih, ← det_ad (r := k) (p := r) (c := -(M k c / M r c)) (M := cl r c k M) (by omega) hr (fun z => e z.symm)]
      refine det_congr fun i j _ _ => ?_
      show (if i ≠ r ∧ i < k + 1 then M i j - M i c / M r c * M r j else M i j) = if i = k then (if k ≠ r ∧ k < k then _ else M k j) + -(M k c / M r c) * (if r ≠ r ∧ r < k then _ else M r j) else (if i ≠ r ∧ i < k then M i j - M i c / M r c * M r j else M i j)
      by_cases g : i = k
      · rw [if_pos ⟨by omega, by omega⟩, if_pos g, if_neg (by omega), if_neg (by omega), g]
        grind
      · rw [if_neg g]
        by_cases g2 : i ≠ r ∧ i < k
        · rw [if_pos g2, if_pos ⟨g2.1, by omega⟩]
        · rw [if_neg g2, if_neg (by omega)]
/-- the determinant by a pivot: its sign, the entry, the rest -/
theorem det_piv {n r c : Nat} {M : Mx} (hr : r < n + 1) (hc : c < n + 1) (h : M r c ≠ 0) :
    det (n + 1) M = sg r * sg c * M r c * det n (fun a b => M (skip r a) (skip c b) - M (skip r a) c / M r c * M r (skip c b)) := by
  have e1 := det_cl (c := c) (M := M) hr (n + 1) (Nat.le_refl _)
  have e2 := det_top (M := cl r c (n + 1) M) hr
  have e3 : det (n + 1) (top r (cl r c (n + 1) M)) = sg c * M r c * det n (fun a b => M (skip r a) (skip c b) - M (skip r a) c / M r c * M r (skip c b)) := by
    have row0 : ∀ j, (top r (cl r c (n + 1) M)) 0 j = M r j := fun j => by
      show (if r ≠ r ∧ r < n + 1 then _ else M r j) = M r j
      rw [if_neg (by omega)]
    have rest : ∀ a j, a < n → (top r (cl r c (n + 1) M)) (a + 1) j = M (skip r a) j - M (skip r a) c / M r c * M r j := fun a j ha => by
      show (if skip r a ≠ r ∧ skip r a < n + 1 then _ else _) = _
      rw [if_pos (by unfold skip; split <;> omega), if_neg (by omega), Nat.add_sub_cancel]
    have e : sm (n + 1) (fun j => sg j * (top r (cl r c (n + 1) M)) 0 j * det n (minor (top r (cl r c (n + 1) M)) j)) = sm (n + 1) fun j => if j = c then sg c * M r c * det n (fun a b => M (skip r a) (skip c b) - M (skip r a) c / M r c * M r (skip c b)) else 0 := sm_congr fun j hj => by
      rw [row0]
      by_cases g : j = c
      · subst g
        rw [if_pos rfl]
        congr 1
        exact det_congr fun a b ha hb => rest a (skip j b) ha
      · rw [if_neg g]
        have z : ∀ a, a < n → (top r (cl r c (n + 1) M)) (a + 1) c = 0 := fun a ha => by
          rw [rest a c ha, Rat.div_mul_cancel h]
          grind
        have z2 : det n (minor (top r (cl r c (n + 1) M)) j) = 0 := by
          by_cases l : c < j
          · refine det_colz (c := c) (by omega) fun i hi => ?_
            show (top r (cl r c (n + 1) M)) (i + 1) (skip j c) = 0
            rw [skip_lt l]
            exact z i hi
          · refine det_colz (c := c - 1) (by omega) fun i hi => ?_
            show (top r (cl r c (n + 1) M)) (i + 1) (skip j (c - 1)) = 0
            rw [skip_ge (by omega), show c - 1 + 1 = c by omega]
            exact z i hi
        rw [z2]
        grind
    show sm (n + 1) _ = _
    rw [e]
    have one : ∀ (m : Nat) (x : Rat), c < m → sm m (fun j => if j = c then x else 0) = x := fun m x => by
      induction m with
      | zero => intro h; omega
      | succ m ih =>
        intro hm
        show sm m (fun j => if j = c then x else 0) + (if m = c then x else 0) = x
        by_cases g : m = c
        · have : sm m (fun j => if j = c then x else 0) = sm m fun _ => 0 := sm_congr fun j hj => if_neg (by omega)
          rw [if_pos g, this, sm_zero]
          grind
        · rw [if_neg g, ih (by omega)]
          grind
    exact one _ _ hc
  have s2 := sg_sq r
  rw [e1] at e2
  have : det (n + 1) M = sg r * det (n + 1) (top r (cl r c (n + 1) M)) := by
    rw [e2]
    grind
  rw [this, e3]
  grind

/-! ### rows exchanged behind the cleared ones -/
theorem xch_ga {a b : Nat} (M : Mx) : ga (xch (a + 1) (b + 1) M) = xch a b (ga M) := by
  funext i j
  have h : (if i + 1 = a + 1 then b + 1 else if i + 1 = b + 1 then a + 1 else i + 1) = (if i = a then b else if i = b then a else i) + 1 := by
    by_cases c1 : i = a
    · rw [if_pos (by omega), if_pos c1]
    · rw [if_neg (by omega), if_neg c1]
      by_cases c2 : i = b
      · rw [if_pos (by omega), if_pos c2]
      · rw [if_neg (by omega), if_neg c2]
  have h0 : (if 0 = a + 1 then b + 1 else if 0 = b + 1 then a + 1 else 0) = 0 := by
    rw [if_neg (by omega), if_neg (by omega)]
  unfold ga xch
  simp only [h, h0]
theorem xch_top {a b : Nat} (M : Mx) : (xch (a + 1) (b + 1) M) 0 0 = M 0 0 := by
  unfold xch
  rw [if_neg (by omega), if_neg (by omega)]
theorem xch_gas {a b : Nat} : ∀ (k : Nat) (M : Mx), gas k (xch (k + a) (k + b) M) = xch a b (gas k M)
  | 0, M => by
    show xch (0 + a) (0 + b) M = xch a b M
    rw [Nat.zero_add, Nat.zero_add]
  | k + 1, M => by
    show gas k (ga (xch (k + 1 + a) (k + 1 + b) M)) = xch a b (gas k (ga M))
    rw [show k + 1 + a = (k + a) + 1 by omega, show k + 1 + b = (k + b) + 1 by omega, xch_ga, xch_gas k]
theorem xch_cor {a b : Nat} : ∀ (k : Nat) (M : Mx), cor k (xch (k + a) (k + b) M) = cor k M
  | 0, _ => rfl
  | k + 1, M => by
    show (xch (k + 1 + a) (k + 1 + b) M) 0 0 * cor k (ga (xch (k + 1 + a) (k + 1 + b) M)) = M 0 0 * cor k (ga M)
    rw [show k + 1 + a = (k + a) + 1 by omega, show k + 1 + b = (k + b) + 1 by omega, xch_ga, xch_top, xch_cor k]
theorem xch_leads {a b : Nat} : ∀ (k : Nat) (M : Mx), leads k M → leads k (xch (k + a) (k + b) M)
  | 0, _, _ => trivial
  | k + 1, M, h => by
    rw [show k + 1 + a = (k + a) + 1 by omega, show k + 1 + b = (k + b) + 1 by omega]
    refine ⟨by rw [xch_top]; exact h.1, ?_⟩
    rw [xch_ga]
    exact xch_leads k (ga M) h.2
theorem xch_wh {a b : Nat} {M : Mx} (w : ∀ i j, Wh (M i j)) : ∀ i j, Wh ((xch a b M) i j) := fun i j => w _ j
/-! ### the program's clearing, over lists -/
/-- the entry of a table, 0 outside -/
def at_ (R : List (List Int)) (i j : Nat) : Int := (R[i]?.getD [])[j]?.getD 0
def mx (R : List (List Int)) : Mx := fun i j => ((at_ R i j : Int) : Rat)
theorem mx_wh (R : List (List Int)) : ∀ i j, Wh (mx R i j) := fun i j => ⟨_, rfl⟩
def crow (row lead : List Int) (col : Nat) (corner : Int) : List Int := List.zipWith (fun e t => (e * lead[col]?.getD 0 - row[col]?.getD 0 * t).fdiv corner) row lead
/-- the rows behind so many steps, the row at t exchanged with the first of them -/
def others (R : List (List Int)) (s t : Nat) : List (List Int) := (List.range (R.length - (s + 1))).map fun i => if s + 1 + i = t then R[s]?.getD [] else R[s + 1 + i]?.getD []
/-- a step at a column, the row at t leading -/
def stepR (R : List (List Int)) (s t col : Nat) (corner : Int) : List (List Int) := R.take s ++ [R[t]?.getD []] ++ (others R s t).map fun row => crow row (R[t]?.getD []) col corner
structure Sq (n : Nat) (R : List (List Int)) : Prop where
  len : R.length = n
  wid : ∀ r ∈ R, r.length = n
theorem Sq.row {n : Nat} {R : List (List Int)} (h : Sq n R) {i : Nat} (hi : i < n) : (R[i]?.getD []).length = n := by
  have hl := h.len
  rw [List.getElem?_eq_getElem (by omega)]
  exact h.wid _ (List.getElem_mem _)
theorem Sq.out {n : Nat} {R : List (List Int)} (h : Sq n R) {i j : Nat} (c : n ≤ i ∨ n ≤ j) : at_ R i j = 0 := by
  unfold at_
  by_cases hi : i < n
  · have hr := h.row hi
    rw [List.getElem?_eq_none (l := R[i]?.getD []) (by omega)]
    rfl
  · rw [List.getElem?_eq_none (l := R) (by have := h.len; omega)]
    rfl
theorem step_sq {n s t col : Nat} {corner : Int} {R : List (List Int)} (h : Sq n R) (hs : s < n) (ht : t < n) : Sq n (stepR R s t col corner) := by
  have hl := h.len
  constructor
  · unfold stepR others
    rw [List.length_append, List.length_append, List.length_take, List.length_map, List.length_map, List.length_range, List.length_singleton]
    omega
  · intro r hr
    unfold stepR at hr
    rcases List.mem_append.mp hr with hr | hr
    · rcases List.mem_append.mp hr with hr | hr
      · exact h.wid r (List.mem_of_mem_take hr)
      · rw [List.mem_singleton.mp hr]
        exact h.row ht
    · obtain ⟨r', hr', rfl⟩ := List.mem_map.mp hr
      unfold others at hr'
      obtain ⟨i, hi, rfl⟩ := List.mem_map.mp hr'
      have hi := List.mem_range.mp hi
      unfold crow
      rw [List.length_zipWith, h.row ht]
      split
      · rw [h.row hs]
        omega
      · rw [h.row (by omega)]
        omega
/-- the rows with two exchanged -/
def perm (s t i : Nat) : Nat := if i = s then t else if i = t then s else i
theorem step_at {n s t : Nat} {corner : Int} {R : List (List Int)} (h : Sq n R) (hs : s < n) (ht : t < n) (hst : s ≤ t) (i j : Nat) :
    at_ (stepR R s t s corner) (s + 1 + i) (s + 1 + j) = (at_ R (perm s t (s + (i + 1))) (s + (j + 1)) * at_ R (perm s t s) s - at_ R (perm s t (s + (i + 1))) s * at_ R (perm s t s) (s + (j + 1))).fdiv corner := by
  have hl := h.len
  have hp : perm s t s = t := if_pos rfl
  rw [hp]
  by_cases c : s + 1 + i < n ∧ s + 1 + j < n
  · have e1 : (stepR R s t s corner)[s + 1 + i]? = some (crow (R[perm s t (s + (i + 1))]?.getD []) (R[t]?.getD []) s corner) := by
      unfold stepR
      have l1 : (R.take s ++ [R[t]?.getD []]).length = s + 1 := by
        rw [List.length_append, List.length_take, List.length_singleton]
        omega
      rw [List.getElem?_append_right (by omega), l1, show s + 1 + i - (s + 1) = i by omega, List.getElem?_map]
      unfold others
      rw [List.getElem?_map, List.getElem?_range (by omega)]
      show some (crow (if s + 1 + i = t then R[s]?.getD [] else R[s + 1 + i]?.getD []) _ s corner) = _
      congr 2
      unfold perm
      rw [if_neg (show ¬ s + (i + 1) = s by omega)]
      by_cases g : s + 1 + i = t
      · rw [if_pos g, if_pos (by omega)]
      · rw [if_neg g, if_neg (by omega), show s + 1 + i = s + (i + 1) by omega]
    have hpn : perm s t (s + (i + 1)) < n := by
      unfold perm
      repeat' split
      all_goals omega
    have r1 := h.row hpn
    have r2 := h.row ht
    unfold at_
    rw [e1]
    show (crow _ _ s corner)[s + 1 + j]?.getD 0 = _
    unfold crow
    rw [List.getElem?_zipWith, List.getElem?_eq_getElem (show s + 1 + j < (R[perm s t (s + (i + 1))]?.getD []).length by omega), List.getElem?_eq_getElem (show s + 1 + j < (R[t]?.getD []).length by omega)]
    show (_ * _ - _ * _ : Int).fdiv corner = _
    have ej : s + (j + 1) = s + 1 + j := by omega
    rw [ej, List.getElem?_eq_getElem (show s + 1 + j < (R[perm s t (s + (i + 1))]?.getD []).length by omega), List.getElem?_eq_getElem (show s + 1 + j < (R[t]?.getD []).length by omega)]
    rfl
  · rw [(step_sq h hs ht).out (by omega)]
    by_cases ci : n ≤ s + 1 + i
    · have hp2 : perm s t (s + (i + 1)) = s + (i + 1) := by
        unfold perm
        rw [if_neg (by omega), if_neg (by omega)]
      rw [hp2, h.out (.inl (by omega)), h.out (i := s + (i + 1)) (j := s) (.inl (by omega))]
      simp
    · rw [h.out (i := perm s t (s + (i + 1))) (j := s + (j + 1)) (.inr (by omega)), h.out (i := t) (j := s + (j + 1)) (.inr (by omega))]
      simp

/-! ### all steps -/
structure Cs where
  R : List (List Int)
  sign : Int
  corner : Int
  steps : Nat
def found (c : Cs) (col : Nat) : List Nat := (List.range (c.R.length - c.steps)).filter fun i => at_ c.R (c.steps + i) col != 0
def cstep (c : Cs) (col : Nat) : Cs := match found c col with
  | [] => c
  | i :: _ => ⟨stepR c.R c.steps (c.steps + i) col c.corner, if i = 0 then c.sign else -c.sign, at_ c.R (c.steps + i) col, c.steps + 1⟩
def clears (R : List (List Int)) : Nat → Cs
  | 0 => ⟨R, 1, 1, 0⟩
  | k + 1 => cstep (clears R k) k
structure InvC (n k : Nat) (R0 : List (List Int)) (c : Cs) : Prop where
  sq : Sq n c.R
  le : c.steps ≤ k
  cn : c.corner ≠ 0
  ss : c.sign * c.sign = 1
  good : c.steps = k → ∃ M : Mx, (∀ i j, Wh (M i j)) ∧ det n M = (c.sign : Rat) * det n (mx R0) ∧ leads k M ∧ (c.corner : Rat) = cor k M ∧ ∀ i j, ((at_ c.R (k + i) (k + j) : Int) : Rat) = cor k M * gas k M i j
  bad : c.steps < k → det n (mx R0) = 0
theorem found_mem {c : Cs} {col i : Nat} {r : List Nat} (h : found c col = i :: r) : i < c.R.length - c.steps ∧ at_ c.R (c.steps + i) col ≠ 0 := by
  have : i ∈ found c col := by rw [h]; exact List.mem_cons_self ..
  unfold found at this
  obtain ⟨h1, h2⟩ := List.mem_filter.mp this
  exact ⟨List.mem_range.mp h1, by simpa using h2⟩
theorem found_nil {c : Cs} {col i : Nat} (h : found c col = []) (hi : i < c.R.length - c.steps) : at_ c.R (c.steps + i) col = 0 := by
  unfold found at h
  have := List.filter_eq_nil_iff.mp h i (List.mem_range.mpr hi)
  simpa using this
theorem perm_add (k i a : Nat) : perm k (k + i) (k + a) = k + (if a = 0 then i else if a = i then 0 else a) := by
  unfold perm
  by_cases c1 : a = 0
  · rw [if_pos (by omega), if_pos c1]
  · rw [if_neg (by omega), if_neg c1]
    by_cases c2 : a = i
    · rw [if_pos (by omega), if_pos c2]
      rfl
    · rw [if_neg (by omega), if_neg c2]
/-- one step of the clearing as found by the program, at a width that may be another one -/
theorem inv_step {n k : Nat} {R0 : List (List Int)} {c : Cs} (h : InvC n k R0 c) (hk : k < n) : InvC n (k + 1) R0 (cstep c k) := by
  have hl := h.sq.len
  have hs := h.le
  cases e : found c k with
  | nil =>
    have ec : cstep c k = c := by unfold cstep; rw [e]
    rw [ec]
    refine ⟨h.sq, by omega, h.cn, h.ss, fun z => by omega, fun _ => ?_⟩
    by_cases g : c.steps < k
    · exact h.bad g
    have gs : c.steps = k := by omega
    obtain ⟨M, w, hd, hle, hc, hB⟩ := h.good gs
    have cn := cor_ne hle
    have z : det (n - k) (gas k M) = 0 := det_col0 (by omega) fun i hi => by
      have h1 := found_nil e (i := i) (by omega)
      rw [gs] at h1
      have h2 := hB i 0
      rw [Nat.add_zero, h1] at h2
      have h3 : cor k M * gas k M i 0 = 0 := h2.symm
      grind
    have hd2 := det_gas (n := n - k) (k := k) (M := M) hle
    rw [show n - k + k = n by omega, z] at hd2
    rw [hd2] at hd
    have s1 : ((c.sign * c.sign : Int) : Rat) = 1 := by rw [h.ss]; rfl
    rw [Rat.intCast_mul] at s1
    grind
  | cons i r =>
    obtain ⟨hi, hne⟩ := found_mem e
    have ec : cstep c k = ⟨stepR c.R c.steps (c.steps + i) k c.corner, if i = 0 then c.sign else -c.sign, at_ c.R (c.steps + i) k, c.steps + 1⟩ := by unfold cstep; rw [e]
    rw [ec]
    have s2 : (if i = 0 then c.sign else -c.sign) * (if i = 0 then c.sign else -c.sign) = 1 := by
      split
      · exact h.ss
      · rw [Int.neg_mul_neg]
        exact h.ss
    refine ⟨step_sq h.sq (by omega) (by omega), by show c.steps + 1 ≤ k + 1; omega, hne, s2, fun z => ?_, fun z => h.bad (by have : c.steps + 1 < k + 1 := z; omega)⟩
    have gs : c.steps = k := by
      have : c.steps + 1 = k + 1 := z
      omega
    obtain ⟨M, w, hd, hle, hc, hB⟩ := h.good gs
    rw [gs] at hi hne ⊢
    have hB' : ∀ a b, ((at_ c.R (perm k (k + i) (k + a)) (k + b) : Int) : Rat) = cor k (xch (k + 0) (k + i) M) * gas k (xch (k + 0) (k + i) M) a b := fun a b => by
      rw [perm_add, hB, xch_cor, xch_gas]
      rfl
    have h0 : at_ c.R (perm k (k + i) (k + 0)) (k + 0) ≠ 0 := by
      rw [perm_add, if_pos rfl]
      exact hne
    obtain ⟨b1, b2, b3⟩ := bar_step (k := k) (M := xch (k + 0) (k + i) M) (B := fun a b => at_ c.R (perm k (k + i) (k + a)) (k + b)) (c := c.corner) (xch_wh w) (xch_leads k M hle) (by rw [xch_cor]; exact hc) hB' h0
    have hp : perm k (k + i) (k + 0) = k + i := by rw [perm_add, if_pos rfl]
    refine ⟨xch (k + 0) (k + i) M, xch_wh w, ?_, b1, ?_, fun a b => ?_⟩
    · show det n (xch (k + 0) (k + i) M) = (((if i = 0 then c.sign else -c.sign) : Int) : Rat) * det n (mx R0)
      by_cases ci : i = 0
      · rw [if_pos ci, ← hd]
        refine det_congr fun a b _ _ => ?_
        unfold xch
        rw [ci]
        congr 1
        by_cases g : a = k + 0
        · rw [if_pos g, g]
        · rw [if_neg g, if_neg g]
      · rw [if_neg ci, det_xch (by omega) (by omega) (by omega), hd, Rat.intCast_neg]
        grind
    · have := b2
      rw [hp] at this
      exact this
    · have g := b3 a b
      have ss := step_at (corner := c.corner) h.sq (show k < n by omega) (show k + i < n by omega) (by omega) a b
      rw [← g, ss]
      rfl
theorem inv_zero {n : Nat} {R : List (List Int)} (h : Sq n R) : InvC n 0 R ⟨R, 1, 1, 0⟩ :=
  ⟨h, Nat.le_refl _, (by decide : (1 : Int) ≠ 0), (by decide : (1 : Int) * 1 = 1), fun _ => ⟨mx R, mx_wh R, by
    show det n (mx R) = ((1 : Int) : Rat) * det n (mx R)
    have : ((1 : Int) : Rat) = 1 := rfl
    rw [this]
    grind, trivial, rfl, fun i j => by
    rw [Nat.zero_add, Nat.zero_add]
    show mx R i j = 1 * mx R i j
    grind⟩, fun z => by omega⟩
theorem inv_all {n : Nat} {R : List (List Int)} (h : Sq n R) : ∀ k, k ≤ n → InvC n k R (clears R k)
  | 0, _ => inv_zero h
  | k + 1, hk => inv_step (inv_all h k (by omega)) (by omega)
/-- what the program tells of a square -/
theorem clears_det {n : Nat} {R : List (List Int)} (h : Sq n R) : (((if (clears R n).steps = n then (clears R n).sign * (clears R n).corner else 0) : Int) : Rat) = det n (mx R) := by
  have I := inv_all h n (Nat.le_refl _)
  by_cases c : (clears R n).steps = n
  · rw [if_pos c]
    obtain ⟨M, _, hd, hle, hc, _⟩ := I.good c
    have h1 := det_gas (n := 0) (k := n) (M := M) hle
    rw [Nat.zero_add] at h1
    have h2 : det n M = cor n M := by
      rw [h1]
      show cor n M * 1 = cor n M
      grind
    have s1 : (((clears R n).sign * (clears R n).sign : Int) : Rat) = 1 := by rw [I.ss]; rfl
    rw [Rat.intCast_mul] at s1 ⊢
    rw [hc, ← h2, hd]
    grind
  · rw [if_neg c]
    have := I.le
    exact (I.bad (by omega)).symm
/-! ### bounds of the clearing -/
def Bdz (n : Nat) (i : Int) : Prop := i.natAbs < 2 ^ n
theorem fdiv_abs (a c : Int) : (a.fdiv c).natAbs ≤ a.natAbs := by
  rcases Int.lt_trichotomy c 0 with h | h | h
  · have e : a.fdiv c = (-a).fdiv (-c) := (Int.neg_fdiv_neg a c).symm
    have e2 : (-a).fdiv (-c) = (-a) / (-c) := Int.fdiv_eq_ediv_of_nonneg _ (by omega)
    rw [e, e2]
    exact Nat.le_trans (Int.natAbs_ediv_le_natAbs _ _) (by rw [Int.natAbs_neg]; exact Nat.le_refl _)
  · rw [h, Int.fdiv_zero]
    exact Nat.zero_le _
  · rw [Int.fdiv_eq_ediv_of_nonneg _ (by omega)]
    exact Int.natAbs_ediv_le_natAbs _ _
theorem crow_one {n : Nat} {a b c d e : Int} (h1 : Bdz n a) (h2 : Bdz n b) (h3 : Bdz n c) (h4 : Bdz n d) : Bdz (2 * n + 1) ((a * b - c * d).fdiv e) := by
  unfold Bdz at *
  refine Nat.lt_of_le_of_lt (fdiv_abs _ _) ?_
  have m1 : (a * b).natAbs < 2 ^ (n + n) := by
    rw [Int.natAbs_mul, Nat.pow_add]
    exact Nat.mul_lt_mul_of_lt_of_le h1 (Nat.le_of_lt h2) (Nat.two_pow_pos _)
  have m2 : (c * d).natAbs < 2 ^ (n + n) := by
    rw [Int.natAbs_mul, Nat.pow_add]
    exact Nat.mul_lt_mul_of_lt_of_le h3 (Nat.le_of_lt h4) (Nat.two_pow_pos _)
  have e2 : (2 : Nat) ^ (2 * n + 1) = 2 ^ (n + n) + 2 ^ (n + n) := by
    rw [show 2 * n + 1 = (n + n) + 1 by omega, Nat.pow_succ]
    omega
  rw [e2]
  omega
/-- what stays of the clearing of a table of m rows and w columns, entries below 2^b -/
structure PC (m w b k : Nat) (c : Cs) : Prop where
  len : c.R.length = m
  wid : ∀ r ∈ c.R, r.length = w
  st : c.steps ≤ k
  sm_ : c.steps ≤ m
  cn : c.corner ≠ 0
  cb : Bdz ((b + 1) * 2 ^ c.steps - 1) c.corner
  eb : ∀ r ∈ c.R, ∀ y ∈ r, Bdz ((b + 1) * 2 ^ c.steps - 1) y
  sn : c.sign = 1 ∨ c.sign = -1
theorem bits_succ (b s : Nat) : 2 * ((b + 1) * 2 ^ s - 1) + 1 = (b + 1) * 2 ^ (s + 1) - 1 := by
  have h : 0 < (b + 1) * 2 ^ s := Nat.mul_pos (by omega) (Nat.two_pow_pos _)
  rw [Nat.pow_succ, ← Nat.mul_assoc]
  omega
theorem bdz_mono {a b : Nat} {i : Int} (h : Bdz a i) (hab : a ≤ b) : Bdz b i := Nat.lt_of_lt_of_le h (Nat.pow_le_pow_right (by decide) hab)
theorem PC.row {m w b k : Nat} {c : Cs} (h : PC m w b k c) {i : Nat} (hi : i < m) : (c.R[i]?.getD []) ∈ c.R ∧ (c.R[i]?.getD []).length = w := by
  have hl := h.len
  rw [List.getElem?_eq_getElem (by omega)]
  exact ⟨List.getElem_mem _, h.wid _ (List.getElem_mem _)⟩
theorem PC.entry {m w b k : Nat} {c : Cs} (h : PC m w b k c) {i j : Nat} (hi : i < m) (hj : j < w) : Bdz ((b + 1) * 2 ^ c.steps - 1) (at_ c.R i j) := by
  obtain ⟨h1, h2⟩ := h.row hi
  unfold at_
  rw [List.getElem?_eq_getElem (by omega)]
  exact h.eb _ h1 _ (List.getElem_mem _)
theorem others_mem {R : List (List Int)} {s t : Nat} (hs : s < R.length) {r : List Int} (hr : r ∈ others R s t) : r ∈ R := by
  unfold others at hr
  obtain ⟨i, hi, rfl⟩ := List.mem_map.mp hr
  have hi := List.mem_range.mp hi
  split
  · rw [List.getElem?_eq_getElem hs]
    exact List.getElem_mem _
  · rw [List.getElem?_eq_getElem (by omega)]
    exact List.getElem_mem _
theorem pc_step {m w b k : Nat} {c : Cs} (h : PC m w b k c) (hk : k < w) : PC m w b (k + 1) (cstep c k) := by
  have hl := h.len
  cases e : found c k with
  | nil =>
    have ec : cstep c k = c := by unfold cstep; rw [e]
    rw [ec]
    exact ⟨h.len, h.wid, by have := h.st; omega, h.sm_, h.cn, h.cb, h.eb, h.sn⟩
  | cons i r =>
    obtain ⟨hi, hne⟩ := found_mem e
    have ec : cstep c k = ⟨stepR c.R c.steps (c.steps + i) k c.corner, if i = 0 then c.sign else -c.sign, at_ c.R (c.steps + i) k, c.steps + 1⟩ := by unfold cstep; rw [e]
    rw [ec]
    have hb := bits_succ b c.steps
    have le : (b + 1) * 2 ^ c.steps - 1 ≤ (b + 1) * 2 ^ (c.steps + 1) - 1 := by omega
    have ld := h.row (i := c.steps + i) (by omega)
    have crw : ∀ r ∈ c.R, (crow r (c.R[c.steps + i]?.getD []) k c.corner).length = w ∧ ∀ y ∈ crow r (c.R[c.steps + i]?.getD []) k c.corner, Bdz ((b + 1) * 2 ^ (c.steps + 1) - 1) y := fun r hr => by
      have lr := h.wid r hr
      refine ⟨by unfold crow; rw [List.length_zipWith, lr, ld.2]; omega, fun y hy => ?_⟩
      unfold crow at hy
      obtain ⟨j, hj⟩ := List.mem_iff_getElem?.mp hy
      have hj2 : j < w := by
        have := (List.getElem?_eq_some_iff.mp hj).1
        rw [List.length_zipWith, lr, ld.2] at this
        omega
      rw [List.getElem?_zipWith, List.getElem?_eq_getElem (show j < r.length by omega), List.getElem?_eq_getElem (show j < (c.R[c.steps + i]?.getD []).length by omega)] at hj
      cases hj
      rw [← hb]
      refine crow_one (h.eb r hr _ (List.getElem_mem _)) ?_ ?_ (h.eb _ ld.1 _ (List.getElem_mem _))
      · rw [List.getElem?_eq_getElem (show k < (c.R[c.steps + i]?.getD []).length by omega)]
        exact h.eb _ ld.1 _ (List.getElem_mem _)
      · rw [List.getElem?_eq_getElem (show k < r.length by omega)]
        exact h.eb _ hr _ (List.getElem_mem _)
    have cases_ : ∀ r ∈ stepR c.R c.steps (c.steps + i) k c.corner, r.length = w ∧ ∀ y ∈ r, Bdz ((b + 1) * 2 ^ (c.steps + 1) - 1) y := fun r hr => by
      unfold stepR at hr
      rcases List.mem_append.mp hr with hr | hr
      · rcases List.mem_append.mp hr with hr | hr
        · have hr := List.mem_of_mem_take hr
          exact ⟨h.wid r hr, fun y hy => bdz_mono (h.eb r hr y hy) le⟩
        · rw [List.mem_singleton.mp hr]
          exact ⟨ld.2, fun y hy => bdz_mono (h.eb _ ld.1 y hy) le⟩
      · obtain ⟨r', hr', rfl⟩ := List.mem_map.mp hr
        exact crw r' (others_mem (by omega) hr')
    refine ⟨?_, fun r hr => (cases_ r hr).1, by have := h.st; show c.steps + 1 ≤ k + 1; omega, by show c.steps + 1 ≤ m; omega, hne, bdz_mono (h.entry (by omega) hk) le, fun r hr => (cases_ r hr).2, ?_⟩
    · show (stepR c.R c.steps (c.steps + i) k c.corner).length = m
      unfold stepR others
      rw [List.length_append, List.length_append, List.length_take, List.length_map, List.length_map, List.length_range, List.length_singleton]
      omega
    · show (if i = 0 then c.sign else -c.sign) = 1 ∨ (if i = 0 then c.sign else -c.sign) = -1
      have := h.sn
      split <;> omega
theorem pc_all {m w b : Nat} {R : List (List Int)} (hl : R.length = m) (hw : ∀ r ∈ R, r.length = w) (hb : ∀ r ∈ R, ∀ y ∈ r, Bdz b y) (h0 : 0 < b) : ∀ k, k ≤ w → PC m w b k (clears R k)
  | 0, _ => ⟨hl, hw, Nat.le_refl _, Nat.zero_le _, (by decide : (1 : Int) ≠ 0), by
    show (1 : Int).natAbs < 2 ^ ((b + 1) * 2 ^ 0 - 1)
    exact Nat.one_lt_two_pow (by rw [Nat.pow_zero]; omega), fun r hr y hy => bdz_mono (hb r hr y hy) (by show b ≤ (b + 1) * 2 ^ 0 - 1; rw [Nat.pow_zero]; omega), .inl rfl⟩
  | k + 1, h => pc_step (pc_all hl hw hb h0 k (by omega)) (by omega)
end Dt
/-! pivoting, entry by entry -/
namespace Dt
def pvAt (R : List (List Int)) (i j a b : Nat) : Int :=
  if a = i then (if b = j then at_ R i j else at_ R i j * at_ R i b) else if b = j then -(at_ R i j) * at_ R a j else at_ R a b - at_ R i j * at_ R a j * at_ R i b
def pivT (R : List (List Int)) (m w i j : Nat) : List (List Int) := (List.range m).map fun a => (List.range w).map fun b => pvAt R i j a b
theorem pivT_len {R : List (List Int)} {m w i j : Nat} : (pivT R m w i j).length = m := by unfold pivT; rw [List.length_map, List.length_range]
theorem pivT_wid {R : List (List Int)} {m w i j : Nat} : ∀ r ∈ pivT R m w i j, r.length = w := by
  intro r hr
  unfold pivT at hr
  obtain ⟨a, _, rfl⟩ := List.mem_map.mp hr
  rw [List.length_map, List.length_range]
theorem tab_at (f : Nat → Nat → Int) {m w a b : Nat} (ha : a < m) (hb : b < w) : at_ ((List.range m).map fun a => (List.range w).map fun b => f a b) a b = f a b := by
  unfold at_
  rw [List.getElem?_map, List.getElem?_range ha]
  show ((List.range w).map fun b => f a b)[b]?.getD 0 = _
  rw [List.getElem?_map, List.getElem?_range hb]
  rfl
theorem pivT_at {R : List (List Int)} {m w i j a b : Nat} (ha : a < m) (hb : b < w) : at_ (pivT R m w i j) a b = pvAt R i j a b := tab_at (pvAt R i j) ha hb
theorem tab_eq {R : List (List Int)} {m w : Nat} (hl : R.length = m) (hw : ∀ r ∈ R, r.length = w) : ((List.range m).map fun a => (List.range w).map fun b => at_ R a b) = R := by
  refine List.ext_getElem (by rw [List.length_map, List.length_range, hl]) fun a h1 h2 => ?_
  rw [List.getElem_map, List.getElem_range]
  have hr := hw _ (List.getElem_mem h2)
  refine List.ext_getElem (by rw [List.length_map, List.length_range, hr]) fun b h3 h4 => ?_
  rw [List.getElem_map, List.getElem_range]
  unfold at_
  rw [List.getElem?_eq_getElem h2]
  show R[a][b]?.getD 0 = _
  rw [List.getElem?_eq_getElem h4]
  rfl
theorem piv_two {R : List (List Int)} {m w i j a b : Nat} (ha : a < m) (hb : b < w) (hi : i < m) (hj : j < w) (p : at_ R i j = 1 ∨ at_ R i j = -1) : pvAt (pivT R m w i j) i j a b = at_ R a b := by
  have eij : at_ (pivT R m w i j) i j = at_ R i j := by
    rw [pivT_at hi hj]
    unfold pvAt
    rw [if_pos rfl, if_pos rfl]
  unfold pvAt
  rw [eij]
  by_cases c : a = i
  · subst c
    rw [if_pos rfl]
    by_cases d : b = j
    · subst d
      rw [if_pos rfl]
    · rw [if_neg d, pivT_at hi hb]
      unfold pvAt
      rw [if_pos rfl, if_neg d]
      rcases p with p | p <;> rw [p] <;> grind
  · rw [if_neg c]
    have ea : at_ (pivT R m w i j) a j = -(at_ R i j) * at_ R a j := by
      rw [pivT_at ha hj]
      unfold pvAt
      rw [if_neg c, if_pos rfl]
    by_cases d : b = j
    · subst d
      rw [if_pos rfl, ea]
      rcases p with p | p <;> rw [p] <;> grind
    · rw [if_neg d, ea, pivT_at ha hb, pivT_at hi hb]
      unfold pvAt
      rw [if_neg c, if_neg d, if_pos rfl, if_neg d]
      rcases p with p | p <;> rw [p] <;> grind
theorem pivT_twice {R : List (List Int)} {m w i j : Nat} (hl : R.length = m) (hw : ∀ r ∈ R, r.length = w) (hi : i < m) (hj : j < w) (p : at_ R i j = 1 ∨ at_ R i j = -1) : pivT (pivT R m w i j) m w i j = R := by
  refine Eq.trans ?_ (tab_eq hl hw)
  show (List.range m).map _ = _
  refine List.map_congr_left fun a ha => List.map_congr_left fun b hb => ?_
  exact piv_two (List.mem_range.mp ha) (List.mem_range.mp hb) hi hj p
/-- without a row and a column -/
def restT (R : List (List Int)) (i j : Nat) : List (List Int) := (R.take i ++ R.drop (i + 1)).map fun r => r.take j ++ r.drop (j + 1)
theorem out_get {α : Type} (l : List α) (i k : Nat) (h : i < l.length) : (l.take i ++ l.drop (i + 1))[k]? = l[skip i k]? := by
  by_cases c : k < i
  · rw [List.getElem?_append_left (by rw [List.length_take]; omega), List.getElem?_take_of_lt c, skip_lt c]
  · rw [List.getElem?_append_right (by rw [List.length_take]; omega), List.getElem?_drop, skip_ge (by omega), List.length_take]
    congr 1
    omega
theorem rest_at {R : List (List Int)} {m w i j : Nat} (hl : R.length = m) (hw : ∀ r ∈ R, r.length = w) (hi : i < m) (hj : j < w) (a b : Nat) (ha : skip i a < m) : at_ (restT R i j) a b = at_ R (skip i a) (skip j b) := by
  unfold at_ restT
  rw [List.getElem?_map, out_get R i a (by omega)]
  have : skip i a < R.length := by omega
  rw [List.getElem?_eq_getElem this]
  show (R[skip i a].take j ++ R[skip i a].drop (j + 1))[b]?.getD 0 = _
  rw [out_get _ j b (by rw [hw _ (List.getElem_mem this)]; exact hj)]
  rfl
theorem rest_len {R : List (List Int)} {m i j : Nat} (hl : R.length = m) (hi : i < m) : (restT R i j).length = m - 1 := by
  unfold restT
  rw [List.length_map, List.length_append, List.length_take, List.length_drop]
  omega
theorem rest_wid {R : List (List Int)} {w i j : Nat} (hw : ∀ r ∈ R, r.length = w) (hj : j < w) : ∀ r ∈ restT R i j, r.length = w - 1 := by
  intro r hr
  unfold restT at hr
  obtain ⟨r', h', rfl⟩ := List.mem_map.mp hr
  have hm : r' ∈ R := by
    rcases List.mem_append.mp h' with h | h
    · exact List.mem_of_mem_take h
    · exact List.mem_of_mem_drop h
  have := hw _ hm
  rw [List.length_append, List.length_take, List.length_drop]
  omega
theorem rest_mem {R : List (List Int)} {i j : Nat} {P : Int → Prop} (h : ∀ r ∈ R, ∀ y ∈ r, P y) : ∀ r ∈ restT R i j, ∀ y ∈ r, P y := by
  intro r hr y hy
  unfold restT at hr
  obtain ⟨r', h', rfl⟩ := List.mem_map.mp hr
  have hm : r' ∈ R := by
    rcases List.mem_append.mp h' with h | h
    · exact List.mem_of_mem_take h
    · exact List.mem_of_mem_drop h
  refine h r' hm y ?_
  rcases List.mem_append.mp hy with h | h
  · exact List.mem_of_mem_take h
  · exact List.mem_of_mem_drop h
theorem sg_pm (n : Nat) : (n % 2 = 0 ∧ sg n = 1) ∨ (n % 2 = 1 ∧ sg n = -1) := by
  induction n with
  | zero => exact .inl ⟨rfl, rfl⟩
  | succ n ih =>
    rw [sg_succ]
    rcases ih with ⟨h, e⟩ | ⟨h, e⟩
    · exact .inr ⟨by omega, by rw [e]⟩
    · exact .inl ⟨by omega, by rw [e]; rfl⟩
/-- the sign at a row and a column -/
def sgn2 (i j : Nat) : Int := if (i + j) % 2 = 0 then 1 else -1
theorem sgn2_eq (i j : Nat) : ((sgn2 i j : Int) : Rat) = sg i * sg j := by
  unfold sgn2
  rcases sg_pm i with ⟨h, e⟩ | ⟨h, e⟩ <;> rcases sg_pm j with ⟨g, f⟩ | ⟨g, f⟩ <;> rw [e, f]
  · rw [if_pos (by omega)]; simp
  · rw [if_neg (by omega)]; simp
  · rw [if_neg (by omega)]; simp
  · rw [if_pos (by omega)]; simp; grind
theorem piv_det {R : List (List Int)} {n i j : Nat} (hl : R.length = n + 1) (hw : ∀ r ∈ R, r.length = n + 1) (hi : i < n + 1) (hj : j < n + 1) (p : at_ R i j = 1 ∨ at_ R i j = -1) :
    det (n + 1) (mx R) = ((sgn2 i j * at_ R i j : Int) : Rat) * det n (mx (restT (pivT R (n + 1) (n + 1) i j) i j)) := by
  have hp : mx R i j ≠ 0 := by
    show ((at_ R i j : Int) : Rat) ≠ 0
    rcases p with p | p <;> rw [p] <;> decide
  rw [det_piv hi hj hp, Rat.intCast_mul, sgn2_eq]
  have e : det n (fun a b => mx R (skip i a) (skip j b) - mx R (skip i a) j / mx R i j * mx R i (skip j b)) = det n (mx (restT (pivT R (n + 1) (n + 1) i j) i j)) := by
    refine det_congr fun a b ha hb => ?_
    have ka : skip i a < n + 1 := by unfold skip; split <;> omega
    have kb : skip j b < n + 1 := by unfold skip; split <;> omega
    have na : skip i a ≠ i := by unfold skip; split <;> omega
    have nb : skip j b ≠ j := by unfold skip; split <;> omega
    show _ = ((at_ _ a b : Int) : Rat)
    rw [rest_at pivT_len pivT_wid hi hj a b ka, pivT_at ka kb]
    unfold pvAt
    rw [if_neg na, if_neg nb, Rat.intCast_sub, Rat.intCast_mul, Rat.intCast_mul]
    show ((at_ R (skip i a) (skip j b) : Int) : Rat) - ((at_ R (skip i a) j : Int) : Rat) / ((at_ R i j : Int) : Rat) * ((at_ R i (skip j b) : Int) : Rat) = _
    rcases p with p | p <;> rw [p] <;> simp only [Rat.div_def] <;> grind
  rw [e]
  rfl
end Dt
/-! determinants of turned squares and of products -/
namespace Dt
theorem sm_shift {f : Nat → Rat} : ∀ n : Nat, sm (n + 1) f = f 0 + sm n (fun j => f (j + 1))
  | 0 => by
    show sm 0 f + f 0 = f 0 + 0
    show 0 + f 0 = f 0 + 0
    grind
  | n + 1 => by
    show sm (n + 1) f + f (n + 1) = f 0 + (sm n (fun j => f (j + 1)) + f (n + 1))
    rw [sm_shift n]
    grind
theorem sm_mulr {f : Nat → Rat} (c : Rat) (n : Nat) : sm n (fun j => f j * c) = sm n f * c := by
  have : sm n (fun j => f j * c) = sm n (fun j => c * f j) := sm_congr fun j _ => Rat.mul_comm _ _
  rw [this, sm_mul, Rat.mul_comm]
theorem sg0 : sg 0 = 1 := rfl
theorem skip_succ (i a : Nat) : skip (i + 1) (a + 1) = skip i a + 1 := by
  unfold skip
  by_cases h : a < i
  · rw [if_pos h, if_pos (by omega)]
  · rw [if_neg h, if_neg (by omega)]
/-- along the first column -/
theorem det_first : ∀ {n : Nat} {M : Mx}, det (n + 1) M = sm (n + 1) fun i => sg i * M i 0 * det n (fun a b => M (skip i a) (b + 1))
  | 0, M => rfl
  | n + 1, M => by
    have L : det (n + 2) M = sm (n + 2) fun j => sg j * M 0 j * det (n + 1) (minor M j) := rfl
    rw [L, sm_shift (n + 1), sm_shift (n + 1)]
    have h0 : sg 0 * M 0 0 * det (n + 1) (minor M 0) = sg 0 * M 0 0 * det (n + 1) (fun a b => M (skip 0 a) (b + 1)) := by
      congr 1
    rw [h0]
    congr 1
    have l1 : sm (n + 1) (fun j => sg (j + 1) * M 0 (j + 1) * det (n + 1) (minor M (j + 1))) = sm (n + 1) fun j => sm (n + 1) fun i => -(sg j * sg i) * (M 0 (j + 1) * M (i + 1) 0) * det n (fun a b => M (skip i a + 1) (skip j b + 1)) := sm_congr fun j hj => by
      rw [det_first (n := n) (M := minor M (j + 1)), ← sm_mul]
      refine sm_congr fun i hi => ?_
      have e1 : (minor M (j + 1)) i 0 = M (i + 1) 0 := by
        show M (i + 1) (skip (j + 1) 0) = _
        rw [skip_lt (by omega)]
      have e2 : det n (fun a b => (minor M (j + 1)) (skip i a) (b + 1)) = det n (fun a b => M (skip i a + 1) (skip j b + 1)) := det_congr fun a b _ _ => by
        show M (skip i a + 1) (skip (j + 1) (b + 1)) = _
        rw [skip_succ]
      rw [e1, e2, sg_succ]
      grind
    have l2 : sm (n + 1) (fun i => sg (i + 1) * M (i + 1) 0 * det (n + 1) (fun a b => M (skip (i + 1) a) (b + 1))) = sm (n + 1) fun i => sm (n + 1) fun j => -(sg j * sg i) * (M 0 (j + 1) * M (i + 1) 0) * det n (fun a b => M (skip i a + 1) (skip j b + 1)) := sm_congr fun i hi => by
      have e : det (n + 1) (fun a b => M (skip (i + 1) a) (b + 1)) = sm (n + 1) fun j => sg j * M 0 (j + 1) * det n (fun a b => M (skip i a + 1) (skip j b + 1)) := by
        show sm (n + 1) _ = _
        refine sm_congr fun j hj => ?_
        have e2 : det n (minor (fun a b => M (skip (i + 1) a) (b + 1)) j) = det n (fun a b => M (skip i a + 1) (skip j b + 1)) := det_congr fun a b _ _ => by
          show M (skip (i + 1) (a + 1)) (skip j b + 1) = _
          rw [skip_succ]
        rw [e2]
        show sg j * M (skip (i + 1) 0) (j + 1) * _ = _
        rw [skip_lt (show 0 < i + 1 by omega)]
      rw [e, ← sm_mul]
      refine sm_congr fun j hj => ?_
      rw [sg_succ]
      grind
    rw [l1, l2, sm_comm]
theorem det_T : ∀ {n : Nat} {M : Mx}, det n (fun i j => M j i) = det n M
  | 0, _ => rfl
  | n + 1, M => by
    rw [det_first (M := M)]
    show sm (n + 1) _ = _
    refine sm_congr fun j hj => ?_
    show sg j * M j 0 * det n (minor (fun i j => M j i) j) = _
    have e : det n (minor (fun i j => M j i) j) = det n (fun a b => M (skip j a) (b + 1)) := det_T (n := n) (M := fun a b => M (skip j a) (b + 1))
    rw [e]
def adds (k : Nat) (c : Nat → Rat) (M : Mx) : Mx := fun i j => if 0 < i ∧ i < k then M i j + c i * M 0 j else M i j
theorem det_adds {n : Nat} {c : Nat → Rat} {M : Mx} : ∀ k, k ≤ n → det n (adds k c M) = det n M
  | 0, _ => det_congr fun i j _ _ => if_neg (by omega)
  | k + 1, h => by
    have ih := det_adds (n := n) (c := c) (M := M) k (by omega)
    by_cases z : k = 0
    · subst z
      rw [← ih]
      exact det_congr fun i j _ _ => by
        unfold adds
        rw [if_neg (by omega), if_neg (by omega)]
    · rw [← ih, ← det_ad (r := k) (p := 0) (c := c k) (M := adds k c M) (by omega) (by omega) (fun z2 => z z2.symm)]
      exact det_congr fun i j _ _ => by
        unfold ad adds
        by_cases e : i = k
        · subst e
          rw [if_pos ⟨by omega, by omega⟩, if_pos rfl, if_neg (by omega), if_neg (by omega)]
        · rw [if_neg e]
          by_cases g : 0 < i ∧ i < k
          · rw [if_pos g, if_pos ⟨g.1, by omega⟩]
          · rw [if_neg g, if_neg (by omega)]
def mulM (m : Nat) (A B : Mx) : Mx := fun i j => sm m fun k => A i k * B k j
theorem det_mul : ∀ {n : Nat} {A B : Mx}, det n (mulM n A B) = det n A * det n B
  | 0, _, _ => by
    show (1 : Rat) = 1 * 1
    grind
  | n + 1, A, B => by
    -- each row of B ahead of the rest
    let P : Nat → Mx := fun k i j => if i = 0 then B k j else mulM (n + 1) A B i j
    have s1 : det (n + 1) (mulM (n + 1) A B) = sm (n + 1) fun k => A 0 k * det (n + 1) (P k) := by
      have e : ∀ k, A 0 k * det (n + 1) (P k) = sm (n + 1) fun j => sg j * (A 0 k * B k j) * det n (minor (mulM (n + 1) A B) j) := fun k => by
        show A 0 k * sm (n + 1) (fun j => sg j * (P k) 0 j * det n (minor (P k) j)) = _
        rw [← sm_mul]
        refine sm_congr fun j hj => ?_
        have e1 : (P k) 0 j = B k j := if_pos rfl
        have e2 : det n (minor (P k) j) = det n (minor (mulM (n + 1) A B) j) := det_congr fun a b _ _ => by
          show P k (a + 1) (skip j b) = mulM (n + 1) A B (a + 1) (skip j b)
          exact if_neg (by omega)
        rw [e1, e2]
        grind
      rw [sm_congr (fun k _ => e k), sm_comm]
      show sm (n + 1) _ = _
      refine sm_congr fun j hj => ?_
      rw [sm_mulr]
      congr 1
      show sg j * sm (n + 1) (fun k => A 0 k * B k j) = _
      rw [← sm_mul]
    have s2 : ∀ k, k < n + 1 → det (n + 1) (P k) = det n (minor A k) * (sg k * det (n + 1) B) := fun k hk => by
      rw [← det_adds (c := fun i => -(A i k)) (M := P k) (n + 1) (Nat.le_refl _), ← det_top (M := B) hk]
      show sm (n + 1) _ = _ * sm (n + 1) _
      rw [← sm_mul]
      refine sm_congr fun j hj => ?_
      have e0 : (adds (n + 1) (fun i => -(A i k)) (P k)) 0 j = B k j := by
        unfold adds
        rw [if_neg (by omega)]
        exact if_pos rfl
      have e1 : (top k B) 0 j = B k j := rfl
      have e2 : det n (minor (top k B) j) = det n (fun a b => B (skip k a) (skip j b)) := det_congr fun a b _ _ => by
        show B (if a + 1 = 0 then k else skip k (a + 1 - 1)) (skip j b) = _
        rw [if_neg (by omega), Nat.add_sub_cancel]
      have e3 : det n (minor (adds (n + 1) (fun i => -(A i k)) (P k)) j) = det n (mulM n (minor A k) (fun a b => B (skip k a) (skip j b))) := det_congr fun a b ha hb => by
        show (if 0 < a + 1 ∧ a + 1 < n + 1 then P k (a + 1) (skip j b) + -(A (a + 1) k) * P k 0 (skip j b) else P k (a + 1) (skip j b)) = sm n fun l => A (a + 1) (skip k l) * B (skip k l) (skip j b)
        rw [if_pos ⟨by omega, by omega⟩, sm_skip (g := fun l => A (a + 1) l * B l (skip j b)) (by omega)]
        have p1 : P k (a + 1) (skip j b) = sm (n + 1) fun l => A (a + 1) l * B l (skip j b) := if_neg (by omega)
        have p0 : P k 0 (skip j b) = B k (skip j b) := if_pos rfl
        rw [p1, p0]
        have one : ∀ (m : Nat) (x : Rat), k < m → sm m (fun l => if l = k then x else 0) = x := fun m x => by
          induction m with
          | zero => intro h; omega
          | succ m ih =>
            intro hm
            show sm m (fun l => if l = k then x else 0) + (if m = k then x else 0) = x
            by_cases g : m = k
            · have : sm m (fun l => if l = k then x else 0) = sm m fun _ => 0 := sm_congr fun l hl => if_neg (by omega)
              rw [if_pos g, this, sm_zero]
              grind
            · rw [if_neg g, ih (by omega)]
              grind
        have o := one (n + 1) (-(A (a + 1) k) * B k (skip j b)) hk
        rw [← o, ← sm_add]
        refine sm_congr fun l hl => ?_
        by_cases g : l = k
        · subst g
          rw [if_pos rfl, if_pos rfl]
          grind
        · rw [if_neg g, if_neg g]
          grind
      rw [e0, e1, e2, e3, det_mul (n := n)]
      grind
    rw [s1]
    show _ = sm (n + 1) (fun k => sg k * A 0 k * det n (minor A k)) * det (n + 1) B
    rw [← sm_mulr]
    refine sm_congr fun k hk => ?_
    rw [s2 k hk]
    grind
theorem det_scale {n r : Nat} {c : Rat} {M N : Mx} (hr : r < n) (h1 : ∀ j, j < n → N r j = c * M r j) (h2 : ∀ i j, i ≠ r → i < n → j < n → N i j = M i j) : det n N = c * det n M := by
  have h := det_lin (c := c - 1) (r := r) (n := n) (M := N) (A := M) (B := M) hr (fun j hj => by rw [h1 j hj]; grind) (fun i j ne hi hj => ⟨h2 i j ne hi hj, h2 i j ne hi hj⟩)
  rw [h]
  grind
theorem det_scalec {n r : Nat} {c : Rat} {M N : Mx} (hr : r < n) (h1 : ∀ i, i < n → N i r = c * M i r) (h2 : ∀ i j, j ≠ r → i < n → j < n → N i j = M i j) : det n N = c * det n M := by
  rw [← det_T (M := N), ← det_T (M := M)]
  exact det_scale hr (fun j hj => h1 j hj) (fun i j ne hi hj => h2 j i ne hj hi)
end Dt
/-! what determinants keep, of tables as lists -/
namespace Dt
def detI (n : Nat) (R : List (List Int)) : Int := if (clears R n).steps = n then (clears R n).sign * (clears R n).corner else 0
theorem detI_eq {n : Nat} {R : List (List Int)} (h : Sq n R) : ((detI n R : Int) : Rat) = det n (mx R) := clears_det h
theorem detI_of {n : Nat} {R S : List (List Int)} {c : Int} (h : Sq n R) (g : Sq n S) (e : det n (mx S) = (c : Rat) * det n (mx R)) : detI n S = c * detI n R := by
  apply Rat.intCast_inj.mp
  rw [detI_eq g, Rat.intCast_mul, detI_eq h, e]
theorem sum_range (f : Nat → Int) : ∀ n : Nat, ((((List.range n).map f).sum : Int) : Rat) = sm n fun k => ((f k : Int) : Rat)
  | 0 => rfl
  | n + 1 => by
    rw [List.range_succ, List.map_append, List.sum_append, Rat.intCast_add, sum_range f n]
    show _ + (((f n + 0 : Int)) : Rat) = _
    rw [Int.add_zero]
    rfl
theorem detI_turn {n : Nat} {R S : List (List Int)} (h : Sq n R) (g : Sq n S) (e : ∀ a b, a < n → b < n → at_ S b a = at_ R a b) : detI n S = detI n R := by
  apply Rat.intCast_inj.mp
  rw [detI_eq g, detI_eq h, ← det_T]
  exact det_congr fun a b ha hb => by
    show ((at_ S b a : Int) : Rat) = ((at_ R a b : Int) : Rat)
    rw [e a b ha hb]
theorem detI_mul {n : Nat} {A B C : List (List Int)} (hA : Sq n A) (hB : Sq n B) (hC : Sq n C) (e : ∀ a b, a < n → b < n → at_ C a b = ((List.range n).map fun k => at_ A a k * at_ B k b).sum) : detI n C = detI n A * detI n B := by
  apply Rat.intCast_inj.mp
  rw [detI_eq hC, Rat.intCast_mul, detI_eq hA, detI_eq hB, ← det_mul]
  refine det_congr fun a b ha hb => ?_
  show ((at_ C a b : Int) : Rat) = sm n fun k => ((at_ A a k : Int) : Rat) * ((at_ B k b : Int) : Rat)
  rw [e a b ha hb, sum_range]
  exact sm_congr fun k _ => Rat.intCast_mul _ _
theorem detI_row {n r : Nat} {R S : List (List Int)} {c : Int} (h : Sq n R) (g : Sq n S) (hr : r < n) (e1 : ∀ b, b < n → at_ S r b = c * at_ R r b) (e2 : ∀ a b, a ≠ r → a < n → b < n → at_ S a b = at_ R a b) : detI n S = c * detI n R := detI_of h g (det_scale hr (fun b hb => by
    show ((at_ S r b : Int) : Rat) = (c : Rat) * ((at_ R r b : Int) : Rat)
    rw [e1 b hb, Rat.intCast_mul]) (fun a b ne ha hb => by
    show ((at_ S a b : Int) : Rat) = ((at_ R a b : Int) : Rat)
    rw [e2 a b ne ha hb]))
theorem detI_col {n r : Nat} {R S : List (List Int)} {c : Int} (h : Sq n R) (g : Sq n S) (hr : r < n) (e1 : ∀ a, a < n → at_ S a r = c * at_ R a r) (e2 : ∀ a b, b ≠ r → a < n → b < n → at_ S a b = at_ R a b) : detI n S = c * detI n R := detI_of h g (det_scalec hr (fun a ha => by
    show ((at_ S a r : Int) : Rat) = (c : Rat) * ((at_ R a r : Int) : Rat)
    rw [e1 a ha, Rat.intCast_mul]) (fun a b ne ha hb => by
    show ((at_ S a b : Int) : Rat) = ((at_ R a b : Int) : Rat)
    rw [e2 a b ne ha hb]))
theorem detI_add {n r p : Nat} {R S : List (List Int)} {c : Int} (h : Sq n R) (g : Sq n S) (hr : r < n) (hp : p < n) (ne : p ≠ r) (e1 : ∀ b, b < n → at_ S r b = at_ R r b + c * at_ R p b) (e2 : ∀ a b, a ≠ r → a < n → b < n → at_ S a b = at_ R a b) : detI n S = detI n R := by
  apply Rat.intCast_inj.mp
  rw [detI_eq g, detI_eq h, ← det_ad (c := (c : Rat)) (M := mx R) hr hp ne]
  refine det_congr fun a b ha hb => ?_
  unfold ad
  by_cases z : a = r
  · subst z
    rw [if_pos rfl]
    show ((at_ S a b : Int) : Rat) = ((at_ R a b : Int) : Rat) + (c : Rat) * ((at_ R p b : Int) : Rat)
    rw [e1 b hb, Rat.intCast_add, Rat.intCast_mul]
  · rw [if_neg z]
    show ((at_ S a b : Int) : Rat) = ((at_ R a b : Int) : Rat)
    rw [e2 a b z ha hb]
theorem detI_swap {n r t : Nat} {R S : List (List Int)} (h : Sq n R) (g : Sq n S) (hr : r < n) (ht : t < n) (ne : r ≠ t) (e : ∀ a b, a < n → b < n → at_ S a b = at_ R (if a = r then t else if a = t then r else a) b) : detI n S = 0 - detI n R := by
  apply Rat.intCast_inj.mp
  rw [detI_eq g, Rat.intCast_sub, detI_eq h]
  have x := det_xch (M := mx R) hr ht ne
  have : det n (mx S) = det n (xch r t (mx R)) := det_congr fun a b ha hb => by
    show ((at_ S a b : Int) : Rat) = ((at_ R (if a = r then t else if a = t then r else a) b : Int) : Rat)
    rw [e a b ha hb]
  rw [this, x]
  show _ = (0 : Rat) - _
  grind
theorem at_set {R : List (List Int)} {r : Nat} {x : List Int} (hr : r < R.length) (a b : Nat) : at_ (R.set r x) a b = if a = r then x[b]?.getD 0 else at_ R a b := by
  unfold at_
  by_cases h : a = r
  · subst h
    rw [if_pos rfl, List.getElem?_set_self hr]
    rfl
  · rw [if_neg h, List.getElem?_set_ne (fun z => h z.symm)]
end Dt
/-! picks of so many of the first numbers, the least ahead -/
namespace Cb
/-- all rising lists of so many of lo .. n - 1, the least ahead -/
def C (n : Nat) : Nat → Nat → List (List Nat)
  | 0, _ => [[]]
  | r + 1, lo => (List.range' lo (n - lo)).flatMap fun i => (C n r (i + 1)).map (i :: ·)
theorem C_step (n r lo : Nat) (h : lo < n) : C n (r + 1) lo = (C n r (lo + 1)).map (lo :: ·) ++ C n (r + 1) (lo + 1) := by
  have e : ∀ m, C n (r + 1) m = (List.range' m (n - m)).flatMap fun i => (C n r (i + 1)).map (i :: ·) := fun m => rfl
  obtain ⟨k, hk⟩ : ∃ k, n - lo = k + 1 := ⟨n - lo - 1, by omega⟩
  have h2 : n - (lo + 1) = k := by omega
  rw [e, e, hk, h2, List.range'_succ, List.flatMap_cons]
theorem C_end (n r lo : Nat) (h : n ≤ lo) : C n (r + 1) lo = [] := by
  unfold C
  rw [show n - lo = 0 by omega]
  rfl
/-- the next one, as the table's own recursion has it -/
def nxt (n : Nat) : List Nat → Option (List Nat)
  | [] => none
  | a :: l => match nxt n l with
    | some m => some (a :: m)
    | none => if a != n - (l.length + 1) then some (List.range' (a + 1) (l.length + 1)) else none
/-- the next one, as the iterator finds it -/
def step (n : Nat) (indices : List Nat) : Option (List Nat) :=
  let r := indices.length
  match (List.range r).reverse.find? fun i => indices.getD i 0 != i + n - r with
  | none => none
  | some i => some (indices.take i ++ (List.range (r - i)).map (indices.getD i 0 + 1 + ·))
theorem step_nxt (n : Nat) : ∀ l : List Nat, step n l = nxt n l
  | [] => rfl
  | a :: l => by
    have ih := step_nxt n l
    have e1 : (List.range (l.length + 1)).reverse = (List.range l.length).reverse.map (· + 1) ++ [0] := by
      rw [List.range_succ_eq_map, List.reverse_cons, List.map_reverse]
    have e2 : (fun i => (a :: l).getD i 0 != i + n - (l.length + 1)) ∘ (· + 1) = fun i => l.getD i 0 != i + n - l.length := by
      funext i
      show (l.getD i 0 != i + 1 + n - (l.length + 1)) = _
      rw [show i + 1 + n - (l.length + 1) = i + n - l.length by omega]
    unfold step nxt
    rw [← ih]
    unfold step
    simp only [List.length_cons]
    rw [e1, List.find?_append, List.find?_map, e2]
    cases h : List.find? (fun i => l.getD i 0 != i + n - l.length) (List.range l.length).reverse with
    | some i =>
      simp only [Option.map_some, Option.some_or, List.take_succ_cons, List.getD_cons_succ, List.cons_append]
      rw [show l.length + 1 - (i + 1) = l.length - i by omega]
    | none =>
      simp only [Option.map_none, Option.none_or]
      by_cases z : (a != n - (l.length + 1)) = true
      · have z2 : ((a :: l).getD 0 0 != 0 + n - (l.length + 1)) = true := by rw [Nat.zero_add]; exact z
        have z3 : List.find? (fun i => (a :: l).getD i 0 != i + n - (l.length + 1)) [0] = some 0 := List.find?_cons_of_pos (p := fun i => (a :: l).getD i 0 != i + n - (l.length + 1)) z2
        rw [z3, if_pos z]
        simp only [List.take_zero, List.nil_append, Nat.sub_zero]
        rw [List.range'_eq_map_range]
        rfl
      · have z2 : ¬ ((a :: l).getD 0 0 != 0 + n - (l.length + 1)) = true := by rw [Nat.zero_add]; exact z
        have z3 : List.find? (fun i => (a :: l).getD i 0 != i + n - (l.length + 1)) [0] = none := List.find?_cons_of_neg (p := fun i => (a :: l).getD i 0 != i + n - (l.length + 1)) z2
        rw [z3, if_neg z]
def Ok (n r lo : Nat) : Prop := (r + lo ≤ n → (C n r lo)[0]? = some (List.range' lo r)) ∧ (n < r + lo → lo ≤ n → C n r lo = []) ∧ ∀ i l, (C n r lo)[i]? = some l → l.length = r ∧ nxt n l = (C n r lo)[i + 1]?
theorem ok (n : Nat) : ∀ r d lo, lo + d = n → Ok n r lo
  | 0, d, lo, h => ⟨fun _ => rfl, fun h1 _ => by omega, fun i l hi => by
    cases i with
    | zero =>
      cases hi
      exact ⟨rfl, rfl⟩
    | succ i => cases i <;> cases hi⟩
  | r + 1, 0, lo, h => by
    have e : C n (r + 1) lo = [] := C_end n r lo (by omega)
    exact ⟨fun h1 => by omega, fun _ _ => e, fun i l hi => by rw [e] at hi; cases hi⟩
  | r + 1, d + 1, lo, h => by
    have hlo : lo < n := by omega
    have A := ok n r d (lo + 1) (by omega)
    have B := ok n (r + 1) d (lo + 1) (by omega)
    have e := C_step n r lo hlo
    refine ⟨fun h1 => ?_, fun h1 _ => ?_, fun i l hi => ?_⟩
    · rw [e, List.getElem?_append_left (by
        have := A.1 (by omega)
        have := (List.getElem?_eq_some_iff.mp this).1
        rwa [List.length_map]), List.getElem?_map, A.1 (by omega), List.range'_succ]
      rfl
    · rw [e, A.2.1 (by omega) (by omega), B.2.1 (by omega) (by omega)]
      rfl
    · rw [e] at hi ⊢
      by_cases c : i < ((C n r (lo + 1)).map (lo :: ·)).length
      · rw [List.getElem?_append_left c, List.getElem?_map] at hi
        obtain ⟨m, hm, rfl⟩ := Option.map_eq_some_iff.mp hi
        obtain ⟨l1, l2⟩ := A.2.2 i m hm
        refine ⟨by rw [List.length_cons, l1], ?_⟩
        unfold nxt
        rw [l2]
        by_cases c2 : i + 1 < ((C n r (lo + 1)).map (lo :: ·)).length
        · rw [List.getElem?_append_left c2, List.getElem?_map]
          rw [List.length_map] at c2
          rw [List.getElem?_eq_getElem c2]
          rfl
        · rw [List.getElem?_append_right (by omega)]
          rw [List.length_map] at c c2 ⊢
          rw [List.getElem?_eq_none (by omega), show i + 1 - (C n r (lo + 1)).length = 0 by omega]
          show (if lo != n - (m.length + 1) then some (List.range' (lo + 1) (m.length + 1)) else none) = _
          rw [l1]
          have ne : ¬ (n < r + (lo + 1)) := fun z => by
            rw [A.2.1 z (by omega)] at c
            cases c
          by_cases q : r + 1 + (lo + 1) ≤ n
          · rw [B.1 q, if_pos (by simp; omega)]
          · rw [B.2.1 (by omega) (by omega), if_neg (by simp; omega)]
            rfl
      · rw [List.getElem?_append_right (by omega)] at hi
        obtain ⟨l1, l2⟩ := B.2.2 _ l hi
        refine ⟨l1, ?_⟩
        rw [l2, List.getElem?_append_right (by omega), show i + 1 - ((C n r (lo + 1)).map (lo :: ·)).length = i - ((C n r (lo + 1)).map (lo :: ·)).length + 1 by omega]
/-- all picks of r of n places -/
def all (n r : Nat) : List (List Nat) := C n r 0
theorem all_none {n r : Nat} (h : n < r) : all n r = [] := (ok n r n 0 (by omega)).2.1 (by omega) (by omega)
theorem all_head {n r : Nat} (h : r ≤ n) : (all n r)[0]? = some (List.range r) := by
  rw [List.range_eq_range']
  exact (ok n r n 0 (by omega)).1 (by omega)
theorem all_next {n r i : Nat} {l : List Nat} (h : (all n r)[i]? = some l) : step n l = (all n r)[i + 1]? := by
  rw [step_nxt]
  exact ((ok n r n 0 (by omega)).2.2 i l h).2
theorem all_len {n r i : Nat} {l : List Nat} (h : (all n r)[i]? = some l) : l.length = r := ((ok n r n 0 (by omega)).2.2 i l h).1
/-- what is among them: the rising lists of so many places -/
theorem mem_C {n : Nat} : ∀ {r lo : Nat} {l : List Nat}, l ∈ C n r lo ↔ l.length = r ∧ l.Pairwise (· < ·) ∧ ∀ x ∈ l, lo ≤ x ∧ x < n
  | 0, lo, l => by
    show l ∈ [[]] ↔ _
    rw [List.mem_singleton]
    constructor
    · rintro rfl
      exact ⟨rfl, .nil, fun x hx => nomatch hx⟩
    · rintro ⟨h, _⟩
      exact List.length_eq_zero_iff.mp h
  | r + 1, lo, l => by
    unfold C
    rw [List.mem_flatMap]
    constructor
    · rintro ⟨i, hi, hl⟩
      obtain ⟨m, hm, rfl⟩ := List.mem_map.mp hl
      obtain ⟨a, b, c⟩ := mem_C.mp hm
      rw [List.mem_range'_1] at hi
      refine ⟨by rw [List.length_cons, a], .cons (fun y hy => ?_) b, fun x hx => ?_⟩
      · have := c y hy
        omega
      · rcases List.mem_cons.mp hx with rfl | hx
        · omega
        · have := c x hx
          omega
    · rintro ⟨a, b, c⟩
      cases l with
      | nil => simp at a
      | cons i m =>
        have ci := c i (List.mem_cons_self ..)
        refine ⟨i, by rw [List.mem_range'_1]; omega, List.mem_map.mpr ⟨m, mem_C.mpr ⟨by simpa using a, (List.pairwise_cons.mp b).2, fun x hx => ?_⟩, rfl⟩⟩
        have h1 := (List.pairwise_cons.mp b).1 x hx
        have h2 := c x (List.mem_cons_of_mem _ hx)
        omega
theorem mem_all {n r : Nat} {l : List Nat} : l ∈ all n r ↔ l.length = r ∧ l.Pairwise (· < ·) ∧ ∀ x ∈ l, x < n := by
  unfold all
  rw [mem_C]
  constructor
  · rintro ⟨a, b, c⟩
    exact ⟨a, b, fun x hx => (c x hx).2⟩
  · rintro ⟨a, b, c⟩
    exact ⟨a, b, fun x hx => ⟨Nat.zero_le _, c x hx⟩⟩
end Cb
/-! combinations(..): the facts of the type -/
namespace PySem
namespace F
theorem slot_comb_init : Slot "itertools.combinations" "__init__" "object.__init__" :=
  .of (owner := "object") (n := "__init__") (by rw [typeLookup_type, builtinLookup_eq_fast]; kernel_rfl) (by decide +kernel) (by decide +kernel) (by decide +kernel)
    (by first | exact .inl (by decide +kernel) | exact .inr (by decide +kernel)) (by rw [isSubtype_type]; kernel_rfl)
theorem slot_comb_next : Slot "itertools.combinations" "__next__" "itertools.combinations.__next__" :=
  .of (owner := "itertools.combinations") (n := "__next__") (by rw [typeLookup_type, builtinLookup_eq_fast]; kernel_rfl) (by decide +kernel) (by decide +kernel) (by decide +kernel)
    (by first | exact .inl (by decide +kernel) | exact .inr (by decide +kernel)) (by rw [isSubtype_type]; kernel_rfl)
theorem slot_comb_iter : Slot "itertools.combinations" "__iter__" "itertools.combinations.__iter__" :=
  .of (owner := "itertools.combinations") (n := "__iter__") (by rw [typeLookup_type, builtinLookup_eq_fast]; kernel_rfl) (by decide +kernel) (by decide +kernel) (by decide +kernel)
    (by first | exact .inl (by decide +kernel) | exact .inr (by decide +kernel)) (by rw [isSubtype_type]; kernel_rfl)
theorem owner_comb : Manifest.owners.lookup (String.ofList ['s', 'n', 'o', 'i', 't', 'a', 'n', 'i', 'b', 'm', 'o', 'c', '.', 's', 'l', 'o', 'o', 't', 'r', 'e', 't', 'i'].reverse) = some Manifest.sig_itertools_combinations := by kernel_rfl
theorem args_comb_next_1 (a : Value) : argsOk "itertools.combinations.__next__" ⟨[a], []⟩ := by
  unfold argsOk; rw [signature?_of (id := "itertools.combinations.__next__") (n := ['_', '_', 't', 'x', 'e', 'n', '_', '_']) (o := ['s', 'n', 'o', 'i', 't', 'a', 'n', 'i', 'b', 'm', 'o', 'c', '.', 's', 'l', 'o', 'o', 't', 'r', 'e', 't', 'i']) (by kernel_rfl) owner_comb]; kernel_rfl
theorem args_comb_iter_1 (a : Value) : argsOk "itertools.combinations.__iter__" ⟨[a], []⟩ := by
  unfold argsOk; rw [signature?_of (id := "itertools.combinations.__iter__") (n := ['_', '_', 'r', 'e', 't', 'i', '_', '_']) (o := ['s', 'n', 'o', 'i', 't', 'a', 'n', 'i', 'b', 'm', 'o', 'c', '.', 's', 'l', 'o', 'o', 't', 'r', 'e', 't', 'i']) (by kernel_rfl) owner_comb]; kernel_rfl
theorem mro_comb : mroOf (.type "itertools.combinations") = pure [.type "itertools.combinations", .type "object"] := by rw [mroOf_type]; kernel_rfl
theorem lookup_comb_new : typeLookup (.type "itertools.combinations") "__new__" = pure (some (.builtin "itertools.combinations.__new__")) := by rw [typeLookup_type, builtinLookup_eq_fast]; kernel_rfl
theorem called_comb : TypeCalled "itertools.combinations" "itertools.combinations.__new__" "object.__init__" :=
  ⟨by decide +kernel, by decide +kernel, ⟨_, _, mro_comb⟩, madeBy_type mro_comb lookup_comb_new (by decide +kernel), by decide +kernel, by rw [isSubtype_type]; kernel_rfl, slot_comb_init⟩
theorem typeCall_comb_2 (a b : Value) : checkTypeCall "itertools.combinations" ⟨[a, b], []⟩ = pure () := by kernel_rfl
theorem newCall_comb_2 (a b : Value) : checkBuiltinCall "itertools.combinations.__new__" ⟨[.type "itertools.combinations", a, b], []⟩ = pure () := by kernel_rfl
theorem entry_comb_new : entryFor table "itertools.combinations.__new__" = some Builtin.«itertools.combinations.__new__» := entryFor_of_tree (by kernel_rfl)
theorem entry_comb_next : entryFor table "itertools.combinations.__next__" = some Builtin.«itertools.combinations.__next__» := entryFor_of_tree (by kernel_rfl)
theorem entry_comb_iter : entryFor table "itertools.combinations.__iter__" = some Builtin.«dict_keyiterator.__iter__» :=
  entryFor_alias (id' := "dict_keyiterator.__iter__") (by kernel_rfl) (by first | rfl | decide +kernel | (unfold String.splitOn; simp +decide [String.splitOnAux])) (by decide +kernel) (by kernel_rfl)
theorem plain_comb_new : plainId "itertools.combinations.__new__" = true := by decide +kernel
end F
end PySem
/-! combinations(..): made and stepped on -/
namespace PySem
abbrev IsComb (h : Heap) (c p : Addr) (st : Int) (last : Value) (idx : List Nat) : Prop := h.get? c = some { cls := .type "itertools.combinations", dict := none, data := .fields (Value.ref p :: rawInt st :: last :: idx.map fun (i : Nat) => rawInt i).toArray, slots := #[] }
abbrev IsPool (h : Heap) (p : Addr) (its : List Value) : Prop := h.get? p = some { cls := .type "tuple", data := .seq its.toArray }
theorem nums_back (idx : List Nat) : ((idx.map fun (i : Nat) => rawInt i).map fun (v : Value) => match v with | .int n _ => n.toNat | _ => 0) = idx := by
  rw [List.map_map]
  have : ((fun (v : Value) => match v with | .int n _ => n.toNat | _ => 0) ∘ fun (i : Nat) => rawInt i) = id := by
    funext i
    show (i : Int).toNat = i
    exact Int.toNat_natCast i
  rw [this, List.map_id]
section
variable {prog : Program} {w : World} {A : Around} {E : Value → Shared → Prop} {s : Shared}
theorem wpAny_numbers {c p : Addr} {st : Int} {last : Value} {idx : List Nat} {Q : List Nat → Shared → Prop} (hc : IsComb s.heap c p st last idx) (h : Q idx s) : wpAny (model prog w) A (Builtin.Itertools.itNumbersFrom (.ref c) 3) Q E s := by
  unfold Builtin.Itertools.itNumbersFrom
  refine wpAny_bind (wpAny_load hc ?_)
  refine wpAny_pure ?_
  have e : (((Value.ref p :: rawInt st :: last :: idx.map fun (i : Nat) => rawInt i).toArray.toList.drop 3).map fun (v : Value) => match v with | .int n _ => n.toNat | _ => 0) = idx := nums_back idx
  exact (congrArg (fun z => Q z s) e.symm).mp h
theorem wpAny_itStop {α : Type} {Q : α → Shared → Prop} (hh : A.handled = none)
    (h : ∀ h' e, (∀ b o, s.heap.get? b = some o → h'.get? b = some o) → (∃ o, h'.get? e = some o ∧ o.cls = .type "StopIteration") → E (.ref e) { s with heap := h' }) : wpAny (model prog w) A (Builtin.Itertools.itStop : Sem α) Q E s := by
  unfold Builtin.Itertools.itStop
  show wpAny _ _ (newExc (.type "StopIteration") [] >>= _) _ _ _
  refine wpAny_bind ?_
  simp only [newExc, newTuple]
  refine wpAny_bind (wpAny_newObj_type ?_ (by size_fits))
  refine wpAny_bind (m := firstArgMember _ _) (wpAny_of_eq (a := Value.none) (by first | rfl | (simp only [firstArgMember]; rfl)) ?_)
  refine wpAny_newObj_type ?_ (by size_fits)
  simp only [raiseNew]
  refine wpAny_bind (wpAny_handled ?_)
  rw [hh]
  refine wpAny_bind (wpAny_pure (wpAny_throw ?_))
  exact h _ _ (fun b o z => Heap.get?_push_of_some _ (Heap.get?_push_of_some _ z)) ⟨_, Heap.get?_push_size _ rfl, rfl⟩
theorem comb_next_hand {c p : Addr} {its : List Value} {last : Value} {idx : List Nat} {Q : Value → Shared → Prop} (hc : IsComb s.heap c p 1 last idx) (hp : IsPool s.heap p its) (hl : idx.length ≤ 1000)
    (hQ : ∀ h', IsComb h' c p 1 (.ref s.heap.objs.size) idx → h'.get? s.heap.objs.size = some { cls := .type "tuple", data := .seq (idx.map fun i => its.toArray.getD i .none).toArray } → h'.objs.size = s.heap.objs.size + 1 → (∀ b o, b ≠ c → s.heap.get? b = some o → h'.get? b = some o) → Q (.ref s.heap.objs.size) { s with heap := h' }) :
    wpAny (model prog w) A (do
      let result ← (do
        let items ← Builtin.Itertools.itPoolItems (.ref p)
        newTuple (idx.map fun i => items.getD i .none))
      let before ← field (.ref c) 2
      setField (.ref c) 2 result
      letGo [before] [result]
      ret result) (fun fin s' => ∃ v, fin = .done (.ret v) ∧ Q v s') E s := by
  unfold Builtin.Itertools.itPoolItems
  refine wpAny_bind (wpAny_bind (wpAny_bind (wpAny_seqItems hp rfl (wpAny_pure ?_))))
  refine (wpAny_newTuple ?_ (by rw [List.length_map]; exact Nat.le_trans hl (by decide)))
  have lt := Heap.lt_size hc
  have hc1 : IsComb (s.heap.push { cls := .type "tuple", data := .seq (idx.map fun i => its.toArray.getD i .none).toArray }) c p 1 last idx := Heap.get?_push_of_some _ hc
  refine wpAny_bind (wpAny_field hc1 rfl (x := last) rfl ?_)
  refine wpAny_bind (wpAny_setField_rec hc1 (by simp) fun h1 hc2 hs => ?_)
  refine wpAny_bind (wpAny_letGo (wpAny_pure ⟨_, rfl, ?_⟩))
  refine hQ h1 ?_ ?_ ?_ fun b o nb e => hs.extBut _ _ nb (Heap.get?_push_of_some _ e)
  · have e : (Value.ref p :: rawInt 1 :: last :: idx.map fun (i : Nat) => rawInt i).toArray.setIfInBounds 2 (Value.ref s.heap.objs.size) = (Value.ref p :: rawInt 1 :: Value.ref s.heap.objs.size :: idx.map fun (i : Nat) => rawInt i).toArray := by simp
    rw [e] at hc2
    exact hc2
  · exact hs.extBut _ _ (Nat.ne_of_gt lt) (Heap.get?_push_size _ rfl)
  · rw [hs.1, Heap.size_push]
theorem comb_next_first {c p : Addr} {its : List Value} {last : Value} {idx : List Nat} {Q : Value → Shared → Prop} (hc : IsComb s.heap c p 0 last idx) (hp : IsPool s.heap p its) (hcp : p ≠ c) (hl : idx.length ≤ 1000)
    (hQ : ∀ h', IsComb h' c p 1 (.ref s.heap.objs.size) idx → h'.get? s.heap.objs.size = some { cls := .type "tuple", data := .seq (idx.map fun i => its.toArray.getD i .none).toArray } → h'.objs.size = s.heap.objs.size + 1 → (∀ b o, b ≠ c → s.heap.get? b = some o → h'.get? b = some o) → Q (.ref s.heap.objs.size) { s with heap := h' }) :
    wpAny (model prog w) A (Builtin.«itertools.combinations.__next__» ⟨[.ref c], []⟩) (fun fin s' => ∃ v, fin = .done (.ret v) ∧ Q v s') E s := by
  show wpAny _ _ (field (.ref c) 0 >>= _) _ _ _
  refine wpAny_bind (wpAny_field hc rfl (x := .ref p) rfl ?_)
  refine wpAny_bind (wpAny_numbers hc ?_)
  show wpAny _ _ (Builtin.Itertools.itIntField (.ref c) 1 >>= _) _ _ _
  unfold Builtin.Itertools.itIntField
  refine wpAny_bind (wpAny_bind (wpAny_field hc rfl (x := rawInt 0) rfl (wpAny_pure ?_)))
  show wpAny _ _ (setField (.ref c) 1 (rawInt 1) >>= _) _ _ _
  refine wpAny_bind (wpAny_setField_rec hc (by simp) fun h1 hc1 hs => ?_)
  have e : (Value.ref p :: rawInt 0 :: last :: idx.map fun (i : Nat) => rawInt i).toArray.setIfInBounds 1 (rawInt 1) = (Value.ref p :: rawInt 1 :: last :: idx.map fun (i : Nat) => rawInt i).toArray := by simp
  rw [e] at hc1
  have := comb_next_hand (prog := prog) (w := w) (A := A) (E := E) (s := { s with heap := h1 }) (Q := Q) hc1 (hs.extBut _ _ hcp hp) hl (fun h' a1 a2 a3 a4 => ?_)
  · exact this
  have sz : h1.objs.size = s.heap.objs.size := hs.1
  simp only [sz] at a1 a2 a3 ⊢
  exact hQ h' a1 a2 a3 fun b o nb e => a4 b o nb (hs.extBut _ _ nb e)
theorem comb_next_more {c p : Addr} {its : List Value} {last : Value} {idx nx : List Nat} {Q : Value → Shared → Prop} (hc : IsComb s.heap c p 1 last idx) (hp : IsPool s.heap p its) (hcp : p ≠ c) (hn : Cb.step its.length idx = some nx) (hl : nx.length ≤ 1000)
    (hQ : ∀ h', IsComb h' c p 1 (.ref s.heap.objs.size) nx → h'.get? s.heap.objs.size = some { cls := .type "tuple", data := .seq (nx.map fun i => its.toArray.getD i .none).toArray } → h'.objs.size = s.heap.objs.size + 1 → (∀ b o, b ≠ c → s.heap.get? b = some o → h'.get? b = some o) → Q (.ref s.heap.objs.size) { s with heap := h' }) :
    wpAny (model prog w) A (Builtin.«itertools.combinations.__next__» ⟨[.ref c], []⟩) (fun fin s' => ∃ v, fin = .done (.ret v) ∧ Q v s') E s := by
  show wpAny _ _ (field (.ref c) 0 >>= _) _ _ _
  refine wpAny_bind (wpAny_field hc rfl (x := .ref p) rfl ?_)
  refine wpAny_bind (wpAny_numbers hc ?_)
  show wpAny _ _ (Builtin.Itertools.itIntField (.ref c) 1 >>= _) _ _ _
  unfold Builtin.Itertools.itIntField
  refine wpAny_bind (wpAny_bind (wpAny_field hc rfl (x := rawInt 1) rfl (wpAny_pure ?_)))
  show wpAny _ _ (Builtin.Itertools.itPoolItems (.ref p) >>= _) _ _ _
  unfold Builtin.Itertools.itPoolItems
  refine wpAny_bind (wpAny_bind (wpAny_seqItems hp rfl (wpAny_pure ?_)))
  have e1 : Cb.step its.toArray.size idx = some nx := by rw [List.size_toArray]; exact hn
  show wpAny _ _ (match Cb.step its.toArray.size idx with | some next => (do Builtin.Itertools.itSetNumbersFrom (.ref c) 3 next; _) | none => _) _ _ _
  rw [e1]
  show wpAny _ _ (updateFields c (fun fs => fs.extract 0 3 ++ (nx.map fun (n : Nat) => rawInt n).toArray) >>= _) _ _ _
  have ez : (Value.ref p :: rawInt 1 :: last :: idx.map fun (i : Nat) => rawInt i).toArray.extract 0 3 ++ (nx.map fun (n : Nat) => rawInt n).toArray = (Value.ref p :: rawInt 1 :: last :: nx.map fun (i : Nat) => rawInt i).toArray := by simp
  refine wpAny_bind (wpAny_updateFields hc rfl ?_ (by
    rw [ez, List.size_toArray]
    simp only [List.length_cons, List.length_map]
    have : (1000 : Nat) ≤ sizeLine := by decide
    omega))
  have hs := Heap.SameBut.update s.heap c (Obj.mapFields fun fs => fs.extract 0 3 ++ (nx.map fun (n : Nat) => rawInt n).toArray)
  have hc1 := Heap.get?_update_self (Obj.mapFields fun fs => fs.extract 0 3 ++ (nx.map fun (n : Nat) => rawInt n).toArray) hc rfl
  have hc2 : IsComb (s.heap.update c (Obj.mapFields fun fs => fs.extract 0 3 ++ (nx.map fun (n : Nat) => rawInt n).toArray)) c p 1 last nx := by
    refine hc1.trans ?_
    show some ({ cls := .type "itertools.combinations", dict := none, data := Data.fields ((Value.ref p :: rawInt 1 :: last :: idx.map fun (i : Nat) => rawInt i).toArray.extract 0 3 ++ (nx.map fun (n : Nat) => rawInt n).toArray), slots := #[] } : Obj) = _
    rw [ez]
  have := comb_next_hand (prog := prog) (w := w) (A := A) (E := E) (s := { s with heap := s.heap.update c (Obj.mapFields fun fs => fs.extract 0 3 ++ (nx.map fun (n : Nat) => rawInt n).toArray) }) (Q := Q) hc2 (hs.extBut _ _ hcp hp) hl (fun h' a1 a2 a3 a4 => ?_)
  · exact this
  have sz : (s.heap.update c (Obj.mapFields fun fs => fs.extract 0 3 ++ (nx.map fun (n : Nat) => rawInt n).toArray)).objs.size = s.heap.objs.size := hs.1
  simp only [sz] at a1 a2 a3 ⊢
  exact hQ h' a1 a2 a3 fun b o nb e => a4 b o nb (hs.extBut _ _ nb e)
/-- nothing more: the status that says so stays or is set -/
theorem comb_next_end {c p : Addr} {its : List Value} {last : Value} {idx : List Nat} {st : Int} {Q : Fin → Shared → Prop} (hh : A.handled = none) (hc : IsComb s.heap c p st last idx) (hp : IsPool s.heap p its) (hn : st = 2 ∨ (st = 1 ∧ Cb.step its.length idx = none))
    (hE : ∀ h' e, (∀ b o, b ≠ c → s.heap.get? b = some o → h'.get? b = some o) → (∃ o, h'.get? e = some o ∧ o.cls = .type "StopIteration") → E (.ref e) { s with heap := h' }) :
    wpAny (model prog w) A (Builtin.«itertools.combinations.__next__» ⟨[.ref c], []⟩) Q E s := by
  show wpAny _ _ (field (.ref c) 0 >>= _) _ _ _
  refine wpAny_bind (wpAny_field hc rfl (x := .ref p) rfl ?_)
  refine wpAny_bind (wpAny_numbers hc ?_)
  show wpAny _ _ (Builtin.Itertools.itIntField (.ref c) 1 >>= _) _ _ _
  unfold Builtin.Itertools.itIntField
  refine wpAny_bind (wpAny_bind (wpAny_field hc rfl (x := rawInt st) rfl (wpAny_pure ?_)))
  rcases hn with rfl | ⟨rfl, hn⟩
  · show wpAny _ _ (rule _ >>= _) _ _ _
    refine wpAny_bind (wpAny_rule ?_)
    exact wpAny_itStop hh fun h' e k x => hE h' e (fun b o _ z => k b o z) x
  · show wpAny _ _ (Builtin.Itertools.itPoolItems (.ref p) >>= _) _ _ _
    unfold Builtin.Itertools.itPoolItems
    refine wpAny_bind (wpAny_bind (wpAny_seqItems hp rfl (wpAny_pure ?_)))
    have e1 : Cb.step its.toArray.size idx = none := by rw [List.size_toArray]; exact hn
    show wpAny _ _ (match Cb.step its.toArray.size idx with | some next => _ | none => (do setField (.ref c) 1 (rawInt 2); Builtin.Itertools.itStop)) _ _ _
    rw [e1]
    refine wpAny_bind (wpAny_setField_rec hc (by simp) fun h1 hc1 hs => ?_)
    exact wpAny_itStop hh fun h' e k x => hE h' e (fun b o nb z => k b o (hs.extBut _ _ nb z)) x
end
end PySem
namespace PySem
theorem dict_comb : typeHasDict (.type "itertools.combinations") = false := by decide +kernel
theorem bound_comb (a b : Value) : Builtin.Itertools.itBindNamed "combinations" ["iterable", "r"] 2 2 [a, b] [] = (pure [some a, some b] : Sem (List (Option Value))) := by
  unfold Builtin.Itertools.itBindNamed
  rfl
/-- the pool and the walker, laid -/
def combHeap (h : Heap) (its : List Value) (k : Nat) : Heap := (h.push { cls := .type "tuple", data := .seq its.toArray }).push { cls := .type "itertools.combinations", dict := none, data := .fields (Value.ref h.objs.size :: rawInt (if k > its.length then 2 else 0) :: .none :: (List.range k).map fun (i : Nat) => rawInt i).toArray, slots := #[] }
theorem combHeap_keep {h : Heap} {its : List Value} {k : Nat} {b : Addr} {o : Obj} (e : h.get? b = some o) : (combHeap h its k).get? b = some o := Heap.get?_push_of_some _ (Heap.get?_push_of_some _ e)
theorem combHeap_pool {h : Heap} {its : List Value} {k : Nat} : IsPool (combHeap h its k) h.objs.size its := Heap.get?_push_of_some _ (Heap.get?_push_size _ rfl)
theorem combHeap_comb {h : Heap} {its : List Value} {k : Nat} : IsComb (combHeap h its k) (h.objs.size + 1) h.objs.size (if k > its.length then 2 else 0) .none (List.range k) := by
  have e0 : (h.push { cls := .type "tuple", data := .seq its.toArray }).objs.size = h.objs.size + 1 := Heap.size_push ..
  show Heap.get? _ (h.objs.size + 1) = _
  rw [← e0]
  exact Heap.get?_push_size _ rfl
section
variable {prog : Program} {w : World} {A : Around} {E : Value → Shared → Prop} {s : Shared}
theorem code_comb_new {Q₁ : Value → Shared → Prop} {src : Value} {k : Nat} {t : Tok} {P : List Value → Prop} (hk : k ≤ 1000)
    (hcol : ∀ (E : Value → Shared → Prop) (Q : List Value → Shared → Prop), (∀ (h' : Heap) (tk : Nat) (its : List Value), (∀ b o, s.heap.get? b = some o → h'.get? b = some o) → P its → Q its { s with heap := h', toks := tk }) → wpAny (model prog w) A.in1 (collect src) Q E s)
    (hs : ∀ its, P its → its.length ≤ 1000)
    (h : ∀ (h' : Heap) (tk : Nat) (its : List Value), (∀ b o, s.heap.get? b = some o → h'.get? b = some o) → P its → Q₁ (.ref (h'.objs.size + 1)) { s with heap := combHeap h' its k, toks := tk }) :
    codeAny (model prog w) A (.call (.builtin "itertools.combinations.__new__") ⟨[.type "itertools.combinations", src, .int k t], []⟩) (wants Q₁ E) s := by
  refine codeAny_of_tree ?_
  show wpAny _ A.in1 (do checkBuiltinCall "itertools.combinations.__new__" ⟨[.type "itertools.combinations", src, .int k t], []⟩; again (.builtin "itertools.combinations.__new__" ⟨[.type "itertools.combinations", src, .int k t], []⟩)) _ _ s
  refine wpAny_bind (wpAny_of_eq (F.newCall_comb_2 _ _) (wpAny_pure ⟨plainId_quiet F.plain_comb_new _, codeAny_builtin F.entry_comb_new ?_⟩))
  rw [Around.under_plainId F.plain_comb_new _]
  have hsub := F.called_comb.sub
  show wpAny _ _ ((do
      let (cls, rest) ← Builtin.Itertools.itClassAndRest "combinations" ⟨[.type "itertools.combinations", src, .int k t], []⟩
      let [some iterable, some rV] ← Builtin.Itertools.itBindNamed "combinations" ["iterable", "r"] 2 2 rest [] | unsupported "internal:itertools.combinations.__new__"
      let r ← Builtin.Itertools.itSsizeArg rV
      let items ← collect iterable
      if r < 0 then do rule "itertools.combinations.negative-r"; raiseError "ValueError" "r must be non-negative"
      if Builtin.Itertools.itTooMany r then unsupported _
      return (cls, ← newTuple items, items.length, r.toNat)) >>= _) _ _ s
  refine wpAny_bind (wpAny_bind ?_)
  unfold Builtin.Itertools.itClassAndRest
  show wpAny _ _ (PySem.isType (.type "itertools.combinations") >>= _) _ _ _
  refine wpAny_bind (wpAny_pure ?_)
  show wpAny _ _ (isSubtype (.type "itertools.combinations") (.type ("itertools." ++ "combinations")) >>= _) _ _ _
  refine wpAny_bind (wpAny_of_eq (a := true) hsub (wpAny_pure ?_))
  refine wpAny_bind (wpAny_of_eq (bound_comb _ _) ?_)
  show wpAny _ _ (Builtin.Itertools.itSsizeArg (.int k t) >>= _) _ _ _
  have fits : ¬ ((decide ((k : Int) < -(2 ^ 63 : Int)) || decide ((k : Int) ≥ 2 ^ 63)) = true) := by
    rw [decide_eq_false (show ¬ (k : Int) < -(2 ^ 63 : Int) by omega), decide_eq_false (show ¬ (k : Int) ≥ 2 ^ 63 by omega)]
    simp
  refine wpAny_bind ?_
  unfold Builtin.Itertools.itSsizeArg
  show wpAny _ _ (asIndex (.int k t) >>= _) _ _ _
  refine wpAny_bind ?_
  unfold asIndex
  refine wpAny_bind (wpAny_pure (wpAny_pure ?_))
  show wpAny _ _ (if ((decide ((k : Int) < -(2 ^ 63 : Int)) || decide ((k : Int) ≥ 2 ^ 63)) = true) then _ else _) _ _ _
  rw [if_neg fits]
  refine wpAny_pure ?_
  refine wpAny_bind (hcol _ _ fun h' tk its keep hP => ?_)
  have l1000 := hs its hP
  have big : (2000 : Nat) ≤ sizeLine := by decide
  have few : ¬ Builtin.Itertools.itTooMany (k : Int) = true := by
    show ¬ decide ((k : Int) > 2 ^ 20) = true
    rw [decide_eq_false (show ¬ (k : Int) > 2 ^ 20 by omega)]
    exact Bool.false_ne_true
  show wpAny _ _ (if (k : Int) < 0 then _ else _) _ _ _
  rw [if_neg (show ¬ (k : Int) < 0 by omega)]
  show wpAny _ _ (if Builtin.Itertools.itTooMany (k : Int) = true then _ else _) _ _ _
  rw [if_neg few]
  refine wpAny_bind (wpAny_newTuple ?_ (by omega))
  refine wpAny_pure ?_
  show wpAny _ _ (Builtin.Itertools.itNewRecord (.type "itertools.combinations") ([.ref h'.objs.size, rawInt (if (k : Int).toNat > its.length then 2 else 0), .none] ++ (List.range (k : Int).toNat).map fun (i : Nat) => rawInt i) >>= _) _ _ _
  rw [Int.toNat_natCast]
  refine wpAny_bind ?_
  unfold Builtin.Itertools.itNewRecord
  rw [dict_comb]
  show wpAny _ _ (newObj (.type "itertools.combinations") (.fields ([.ref h'.objs.size, rawInt (if k > its.length then 2 else 0), .none] ++ (List.range k).map fun (i : Nat) => rawInt i).toArray)) _ _ _
  refine wpAny_newObj_type (wpAny_pure ?_) (by
    have : ((([Value.ref h'.objs.size, rawInt (if k > its.length then 2 else 0), Value.none] ++ (List.range k).map fun (i : Nat) => rawInt i).toArray).size) ≤ sizeLine + 2 := by
      simp only [List.size_toArray, List.length_append, List.length_map, List.length_range, List.length_cons, List.length_nil]
      omega
    exact this)
  have e0 : (h'.push { cls := .type "tuple", data := .seq its.toArray }).objs.size = h'.objs.size + 1 := Heap.size_push ..
  show Q₁ (.ref (h'.push _).objs.size) _
  rw [e0]
  exact h h' tk its keep hP
end
end PySem
namespace PySem
section
variable {prog : Program} {w : World} {A : Around} {E : Value → Shared → Prop} {s : Shared}
theorem call_comb {Q : Value → Shared → Prop} {src : Value} {k : Nat} {t : Tok} {P : List Value → Prop} (hk : k ≤ 1000)
    (hcol : ∀ (E : Value → Shared → Prop) (Q : List Value → Shared → Prop), (∀ (h' : Heap) (tk : Nat) (its : List Value), (∀ b o, s.heap.get? b = some o → h'.get? b = some o) → P its → Q its { s with heap := h', toks := tk }) → wpAny (model prog w) A.in1.in1 (collect src) Q E s)
    (hs : ∀ its, P its → its.length ≤ 1000)
    (h : ∀ (h' : Heap) (tk : Nat) (its : List Value), (∀ b o, s.heap.get? b = some o → h'.get? b = some o) → P its → Q (.ref (h'.objs.size + 1)) { s with heap := combHeap h' its k, toks := tk }) :
    wpAny (model prog w) A (call (.type "itertools.combinations") [src, .int k t]) Q E s := by
  refine callType_codes (Q₁ := fun obj s₁ => s₁.TypeIs obj "itertools.combinations" ∧ Q obj s₁) F.called_comb (F.typeCall_comb_2 _ _) F.entry_object_init
    (code_comb_new (A := A.in1) hk hcol hs fun h' tk its keep hP => ⟨⟨_, combHeap_comb, rfl⟩, h h' tk its keep hP⟩) fun obj s₁ h₁ => ?_
  exact ⟨h₁.1, F.args_object_init_3 obj _ _, object_init_meets F.called_comb.init.lookup F.called_comb.made (by decide) prog w A.in1 _ s₁ ⟨h₁.1, rfl, h₁.2⟩⟩
theorem pyNext_comb_first {c p : Addr} {its : List Value} {last : Value} {idx : List Nat} {Q : Option Value → Shared → Prop} (hc : IsComb s.heap c p 0 last idx) (hp : IsPool s.heap p its) (hcp : p ≠ c) (hl : idx.length ≤ 1000)
    (hQ : ∀ h', IsComb h' c p 1 (.ref s.heap.objs.size) idx → h'.get? s.heap.objs.size = some { cls := .type "tuple", data := .seq (idx.map fun i => its.toArray.getD i .none).toArray } → h'.objs.size = s.heap.objs.size + 1 → (∀ b o, b ≠ c → s.heap.get? b = some o → h'.get? b = some o) → Q (some (.ref s.heap.objs.size)) { s with heap := h' }) :
    wpAny (model prog w) A (pyNext (.ref c)) Q E s := by
  have hT : s.TypeIs (.ref c) "itertools.combinations" := ⟨_, hc, rfl⟩
  unfold pyNext
  exact wpAny_bind (wpAny_attempt (wpAny_callSpecial?_slot (name := Str.ofString "__next__") hT F.slot_comb_next
    (wpAny_call_entry F.slot_comb_next hT F.entry_comb_next (comb_next_first hc hp hcp hl fun h' a1 a2 a3 a4 => wpAny_pure (hQ h' a1 a2 a3 a4)) (F.args_comb_next_1 _))))
theorem pyNext_comb_more {c p : Addr} {its : List Value} {last : Value} {idx nx : List Nat} {Q : Option Value → Shared → Prop} (hc : IsComb s.heap c p 1 last idx) (hp : IsPool s.heap p its) (hcp : p ≠ c) (hn : Cb.step its.length idx = some nx) (hl : nx.length ≤ 1000)
    (hQ : ∀ h', IsComb h' c p 1 (.ref s.heap.objs.size) nx → h'.get? s.heap.objs.size = some { cls := .type "tuple", data := .seq (nx.map fun i => its.toArray.getD i .none).toArray } → h'.objs.size = s.heap.objs.size + 1 → (∀ b o, b ≠ c → s.heap.get? b = some o → h'.get? b = some o) → Q (some (.ref s.heap.objs.size)) { s with heap := h' }) :
    wpAny (model prog w) A (pyNext (.ref c)) Q E s := by
  have hT : s.TypeIs (.ref c) "itertools.combinations" := ⟨_, hc, rfl⟩
  unfold pyNext
  exact wpAny_bind (wpAny_attempt (wpAny_callSpecial?_slot (name := Str.ofString "__next__") hT F.slot_comb_next
    (wpAny_call_entry F.slot_comb_next hT F.entry_comb_next (comb_next_more hc hp hcp hn hl fun h' a1 a2 a3 a4 => wpAny_pure (hQ h' a1 a2 a3 a4)) (F.args_comb_next_1 _))))
theorem pyNext_comb_end {c p : Addr} {its : List Value} {last : Value} {idx : List Nat} {st : Int} {Q : Option Value → Shared → Prop} (hh : A.handled = none) (hc : IsComb s.heap c p st last idx) (hp : IsPool s.heap p its) (hn : st = 2 ∨ (st = 1 ∧ Cb.step its.length idx = none))
    (hQ : ∀ h', (∀ b o, b ≠ c → s.heap.get? b = some o → h'.get? b = some o) → Q none { s with heap := h' }) : wpAny (model prog w) A (pyNext (.ref c)) Q E s := by
  have hT : s.TypeIs (.ref c) "itertools.combinations" := ⟨_, hc, rfl⟩
  unfold pyNext
  refine wpAny_bind (wpAny_attempt (wpAny_callSpecial?_slot (name := Str.ofString "__next__") hT F.slot_comb_next
    (wpAny_call_entry F.slot_comb_next hT F.entry_comb_next (comb_next_end hh hc hp hn fun h' e hk he => ?_) (F.args_comb_next_1 _))))
  obtain ⟨o, ho, hce⟩ := he
  refine wpAny_bind (wpAny_isInstance (T := "StopIteration") (b := true) ⟨o, ho, hce⟩ isSubtype_stop ?_)
  exact wpAny_pure (hQ _ hk)
theorem pyIter_comb {c p : Addr} {st : Int} {last : Value} {idx : List Nat} {Q : Value → Shared → Prop} (hc : IsComb s.heap c p st last idx) (h : Q (.ref c) s) : wpAny (model prog w) A (pyIter (.ref c)) Q E s := by
  have hT : s.TypeIs (.ref c) "itertools.combinations" := ⟨_, hc, rfl⟩
  refine wpAny_pyIter_slot hT F.slot_comb_iter (wpAny_call_entry F.slot_comb_iter hT F.entry_comb_iter ?_ (F.args_comb_iter_1 _))
  show wpAny _ _ (ret (.ref c)) _ _ s
  exact wpAny_pure ⟨_, rfl, "itertools.combinations", _, hT, F.slot_comb_next.lookup, h⟩
end
end PySem
namespace CbL
open PySem PySem.Spec PyProof.Rows L2
def pickV (xs : List V) (l : List Nat) : List V := l.map fun i => xs[i]?.getD .non
theorem vals_pick {xs : List V} {its : List Value} (r : Vals xs its) : ∀ {l : List Nat}, (∀ i ∈ l, i < xs.length) → Vals (pickV xs l) (l.map fun i => its.toArray.getD i .none)
  | [], _ => .nil
  | i :: l, h => by
    refine .cons ?_ (vals_pick r fun j hj => h j (List.mem_cons_of_mem _ hj))
    have hi := h i (List.mem_cons_self ..)
    have hx : xs[i]? = some xs[i] := List.getElem?_eq_getElem hi
    obtain ⟨u, hu, ru⟩ := r.get hx
    have e : its.toArray.getD i .none = u := by
      rw [Array.getD_eq_getD_getElem?]
      simp [hu]
    show RelV (xs[i]?.getD .non) (its.toArray.getD i .none)
    rw [hx, e]
    exact ru
/-- the picks of r of them, in order, each a new tuple -/
def ItCb (xs : List V) (r : Nat) : It :=
  ⟨fun i _ => i < (Cb.all xs.length r).length, fun i H v H' => ∃ T l, v = .ref T ∧ H T = none ∧ (Cb.all xs.length r)[i]? = some l ∧ H' = upd H T (.tup (pickV xs l)), fun i _ => (Cb.all xs.length r).length ≤ i⟩
def CbAt (xs : List V) (its : List Value) (r : Nat) (c p : Addr) (i : Nat) (h : Heap) : Prop := IsPool h p its ∧ ∃ st last idx, IsComb h c p st last idx ∧ ((i = 0 ∧ (if r > xs.length then (2 : Int) else 0) = st ∧ idx = List.range r) ∨ (∃ j, i = j + 1 ∧ st = 1 ∧ (Cb.all xs.length r)[j]? = some idx))
theorem turn_comb {P : Program} {w : World} {K : PySem.W.Frag} {tg : Expr} {xs : List V} {its : List Value} {r : Nat} {c p : Addr} (rv : Vals xs its) (hcp : p ≠ c) (hr : r ≤ 1000) : Turn P w K tg (ItCb xs r) [c, p] c (CbAt xs its r c p) where
  mem := by simp
  obj := fun i h st b hb => by
    obtain ⟨hp, s0, la, idx, hc, _⟩ := st
    have e' : b = c ∨ b = p := by simpa using hb
    rcases e' with q | q
    · rw [q]; exact ⟨_, hc, fun v q => nomatch q⟩
    · rw [q]; exact ⟨_, hp, fun v q => nomatch q⟩
  keep := fun i h h' st k => by
    obtain ⟨hp, s0, la, idx, hc, q⟩ := st
    exact ⟨k p (by simp) _ hp, s0, la, idx, k c (by simp) _ hc, q⟩
  item := by
    intro X hP hw hK hcalm i pins s σ H E I hf st hg
    subst hP hw hK
    obtain ⟨hp, s0, la, idx, hc, q⟩ := st
    have hlen := rv.length
    have big : (1000 : Nat) ≤ sizeLine := by decide
    have key : ∀ (l : List Nat), (Cb.all xs.length r)[i]? = some l → ∀ h', IsComb h' c p 1 (.ref s.heap.objs.size) l → h'.get? s.heap.objs.size = some { cls := .type "tuple", data := .seq (l.map fun i => its.toArray.getD i .none).toArray } → h'.objs.size = s.heap.objs.size + 1 → (∀ b o, b ≠ c → s.heap.get? b = some o → h'.get? b = some o) →
        ∃ u, some (Value.ref s.heap.objs.size) = some u ∧ wpAny (model X.prog X.w) X.A (letOwnedTupleGo tg (.ref c) u) (fun _ s2 => ∃ x H', Inv X pins σ H' s2 ∧ RelV x u ∧ (ItCb xs r).yld i H x H' ∧ CbAt xs its r c p (i + 1) s2.heap ∧ ∀ b ∈ [c, p], H' b = none) E { s with heap := h' } := by
      intro l hl h' a1 a2 a3 a4
      refine ⟨_, rfl, go_of (n := "itertools.combinations") a1 rfl rfl (by decide) ?_⟩
      have ml := Cb.mem_all.mp (List.mem_of_getElem? hl)
      have new : ObjOk X.prog X.w (upd H s.heap.objs.size (.tup (pickV xs l))) h' s.heap.objs.size (.tup (pickV xs l)) := by
        refine ⟨by unfold pickV; rw [List.length_map, ml.1]; omega, _, vals_pick rv ml.2.2, ⟨_, a2, rfl, _, rfl⟩⟩
      have I1 : Inv X pins σ (upd H s.heap.objs.size (.tup (pickV xs l))) { s with heap := h' } :=
        I.turnedNew (t' := s.toks) (ch := [c, p]) (fun b o hb q => a4 b o (fun z => hb (by simp [z])) q) hf (Nat.le_refl _) new
      refine ⟨.ref s.heap.objs.size, _, I1, rfl, ⟨_, l, rfl, I.hok.fresh (Nat.le_refl _), hl, rfl⟩, ⟨a4 p _ hcp hp, 1, _, l, a1, .inr ⟨i, rfl, rfl, hl⟩⟩, fun b hb => ?_⟩
      have hlt : b < s.heap.objs.size := by
        have e' : b = c ∨ b = p := by simpa using hb
        rcases e' with q | q
        · rw [q]; exact Heap.lt_size hc
        · rw [q]; exact Heap.lt_size hp
      rw [upd_ne (Nat.ne_of_lt hlt)]
      exact (hf b hb).1
    have hgo : i < (Cb.all xs.length r).length := hg
    rcases q with ⟨rfl, e2, rfl⟩ | ⟨j, rfl, rfl, hj⟩
    · have hrn : r ≤ xs.length := Nat.le_of_not_lt fun z => by rw [Cb.all_none z] at hgo; cases hgo
      rw [if_neg (Nat.not_lt.mpr hrn)] at e2
      subst e2
      exact pyNext_comb_first hc hp hcp (by rw [List.length_range]; exact hr) fun h' a1 a2 a3 a4 => key _ (Cb.all_head hrn) h' a1 a2 a3 a4
    · obtain ⟨nx, hnx⟩ : ∃ nx, (Cb.all xs.length r)[j + 1]? = some nx := ⟨_, List.getElem?_eq_getElem hgo⟩
      have hn := Cb.all_next hj
      rw [hnx, hlen] at hn
      refine pyNext_comb_more hc hp hcp hn ?_ fun h' a1 a2 a3 a4 => key _ hnx h' a1 a2 a3 a4
      rw [Cb.all_len hnx]
      exact hr
  done := by
    intro X hP hw hK hcalm i pins s σ H E I hf st hg
    subst hP hw hK
    obtain ⟨hp, s0, la, idx, hc, q⟩ := st
    have hlen := rv.length
    have hst : (Cb.all xs.length r).length ≤ i := hg
    have hn : s0 = 2 ∨ (s0 = 1 ∧ Cb.step its.length idx = none) := by
      rcases q with ⟨rfl, e2, _⟩ | ⟨j, rfl, rfl, hj⟩
      · by_cases z : r > xs.length
        · rw [if_pos z] at e2
          exact .inl e2.symm
        · have := (List.getElem?_eq_some_iff.mp (Cb.all_head (Nat.le_of_not_lt z))).1
          omega
      · refine .inr ⟨rfl, ?_⟩
        rw [← hlen, Cb.all_next hj]
        exact List.getElem?_eq_none hst
    exact pyNext_comb_end (I.ok.hd hcalm) hc hp hn fun h' hk => ⟨rfl, I.turnedL (t' := s.toks) (ch := [c, p]) (fun b o hb q => hk b o (fun z => hb (by simp [z])) q) hf⟩
  self := fun A i s Q E st h => by
    obtain ⟨hp, s0, la, idx, hc, _⟩ := st
    exact pyIter_comb hc h
section
variable {X : Cx} {tg : Expr}
theorem walk_comb {pins : List (Addr × Obj)} {σ : L2.St} {H : Hp} {s : Shared} {R : It → Hp → Prop} {E : Value → Shared → Prop} {xs : List V} {its : List Value} {k : Nat} {tk : Nat} {h' : Heap} (I : Inv X pins σ H s) (hk : k ≤ 1000) (keep : ∀ b o, s.heap.get? b = some o → h'.get? b = some o) (rv : Vals xs its) (q : R (ItCb xs k) H) :
    wpAny (model X.prog X.w) X.A (pyIter (.ref (h'.objs.size + 1))) (PIE X pins σ tg R) E { s with heap := combHeap h' its k, toks := tk } := by
  have I1 : Inv X pins σ H { s with heap := h', toks := tk } := I.kept keep
  have J : Inv X pins σ H { s with heap := combHeap h' its k, toks := tk } := I1.kept fun b o e => combHeap_keep e
  have own : ∀ b ∈ [h'.objs.size + 1, h'.objs.size], FpOk X pins H b := fun b hb => by
    have hle : h'.objs.size ≤ b := by
      have e' : b = h'.objs.size + 1 ∨ b = h'.objs.size := by simpa using hb
      omega
    exact I1.fpOk hle (I1.hok.fresh hle)
  refine pyIter_comb combHeap_comb ⟨_, [h'.objs.size + 1, h'.objs.size], _, _, H, rfl, J, turn_comb rv (Nat.ne_of_lt (Nat.lt_succ_self _)) hk, ⟨combHeap_pool, _, _, _, combHeap_comb, .inl ⟨rfl, ?_, rfl⟩⟩, own, q⟩
  rw [rv.length]
theorem rg0 (n : Nat) : rgV 0 (n : Int) = (List.range n).map fun (i : Nat) => V.int (i : Int) := by
  unfold rgV
  rw [Int.sub_zero, Int.toNat_natCast]
  refine List.map_congr_left fun i _ => ?_
  rw [Int.zero_add]
/-- combinations(range(n), k) -/
def iCbR (te tk : TE) : TI := fun σ H R => te σ H fun x H1 => ∃ n : Nat, x = .int n ∧ n ≤ 1000 ∧ tk σ H1 fun y H2 => ∃ k : Nat, y = .int k ∧ k ≤ 1000 ∧ R (ItCb ((List.range n).map fun (i : Nat) => V.int (i : Int)) k) H2
theorem pi_combR {a b : Expr} {te tk : TE} {p p1 p2 pos : Pos} (hc : X.calm = true) (hg : Gl X "combinations") (hm : X.mg "combinations" = some (.type "itertools.combinations")) (hg2 : Gl X "range") (hm2 : X.mg "range" = none) (ha : PE X a te) (hb : PE X b tk)
    (na : starEach [.Call (.Name "range" p1) [a] [] p2, b] X.env = (false, eval (.Call (.Name "range" p1) [a] [] p2) X.env) :: starEach [b] X.env := by rfl) (nb : starEach [b] X.env = (false, eval b X.env) :: starEach [] X.env := by rfl) (nc : starEach [a] X.env = (false, eval a X.env) :: starEach [] X.env := by rfl)
    (hp : (backTo pos (starEach [b] X.env)).any (·.1) = false := by rfl) : PI X tg (.Call (.Name "combinations" p) [.Call (.Name "range" p1) [a] [] p2, b] [] pos) (iCbR te tk) := by
  refine ⟨fun pins s σ H R I h => ?_⟩
  refine Call_ (ld_glob I hg hm (PyProof.Rows.callWith_type1 (args_cons ?_ na) na hp))
  refine Call_ (ld_blt I hg2 hm2 boot_range (PyProof.Rows.callWith_type1 (one_arg ha I h (fun v s2 x H2 I2 r q => ?_) nc) nc))
  obtain ⟨n, rfl, hn, q⟩ := q
  obtain ⟨t, rfl⟩ := r
  refine call_range_1 ?_
  have I3 := ClX.pin_new (t' := s2.toks + 1 + 1) I2 (fun _ _ z => Heap.get?_push_of_some { cls := .type "range", data := .fields #[.int 0 s2.toks, .int n t, .int 1 (s2.toks + 1)] } z) (Nat.le_refl _) (Heap.get?_push_size s2.heap rfl) (fun v z => nomatch z)
  refine args_cons (thn (hb.run _ _ σ H2 _ I3 q) fun u s4 ⟨y, H4, I4, r4, q4⟩ => args_nil ?_) nb
  obtain ⟨k, rfl, hk, q4⟩ := q4
  obtain ⟨t4, rfl⟩ := r4
  have hr : IsRange s4.heap s2.heap.objs.size 0 n 1 s2.toks t (s2.toks + 1) := ClX.pin_at I4
  have hcalm : X.A.handled = none := (ClX.unpin I4).ok.hd hc
  refine call_comb (P := fun its => Vals ((List.range n).map fun (i : Nat) => V.int (i : Int)) its) hk (fun E Q hQ => ?_) (fun its r => by have := r.length; rw [List.length_map, List.length_range] at this; omega) fun h' tk its keep r => walk_comb (ClX.unpin I4) hk keep r q4
  refine collect_range (A := X.A.in1.in1) (n := n) hcalm hr (small_one (by omega) (by omega) (by omega) (by omega)) (by have := rangeSize_nat 0 (n : Int); rw [Int.sub_zero, Int.toNat_natCast] at this; exact this) (by omega) fun h' tk acc keep hacc => hQ h' tk acc.toList keep ?_
  have hacc2 : ItemsOf (fun i v => ∃ t, v = Value.int (0 + (i : Int) * 1) t) acc ((n : Int) - 0).toNat := by
    rw [Int.sub_zero, Int.toNat_natCast]
    exact hacc
  have := vals_rg hacc2
  rw [rg0] at this
  exact this
/-- combinations(xs, k) -/
def iCbL (K : PySem.W.Frag) (ta : TA) : TI := fun σ H R => ta σ H fun vs H1 => ∃ (a : Addr) (xs : List V) (k : Nat), vs = [.ref a, .int k] ∧ SqL K H1 a xs ∧ xs.length ≤ 1000 ∧ k ≤ 1000 ∧ R (ItCb xs k) H1
theorem pi_combL {a b : Expr} {ta : TA} {p pos : Pos} (hc : X.calm = true) (hg : Gl X "combinations") (hm : X.mg "combinations" = some (.type "itertools.combinations")) (ha : PA X [a, b] ta)
    (na : starEach [a, b] X.env = (false, eval a X.env) :: starEach [b] X.env := by rfl) (hp : (backTo pos (starEach [b] X.env)).any (·.1) = false := by rfl) : PI X tg (.Call (.Name "combinations" p) [a, b] [] pos) (iCbL X.K ta) := by
  refine ⟨fun pins s σ H R I h => ?_⟩
  refine Call_ (ld_glob I hg hm (PyProof.Rows.callWith_type1 (thn (ha.run pos pins s σ H _ I h) fun us s1 ⟨vs, H1, I1, r1, q1⟩ => ?_) na hp))
  obtain ⟨l, xs, k, e, hl, hx, hk, q⟩ := q1
  subst e
  cases r1 with
  | cons ru rr =>
    cases rr with
    | cons rk rr =>
      cases rr
      cases ru
      obtain ⟨t, rfl⟩ := rk
      obtain ⟨its, rv, pl, hz⟩ := I1.list hl
      have hlen := rv.length
      refine call_comb (P := fun js => js = its) hk (fun E Q hQ => ?_) (fun js e => by rw [e]; omega) fun h' tk js keep e => walk_comb I1 hk keep (by rw [e]; exact rv) q
      refine PyProof.Rows.collect_list pl.isList (hQ _ s1.toks its (fun b o e => ?_) rfl) (by omega)
      have lt := Heap.lt_size e
      exact (Heap.get?_update_other _ _ (Nat.ne_of_gt lt)).trans (Heap.get?_push_of_some _ e)
end
/-! ### the readings -/
theorem for_comb {xs : List V} {r : Nat} {g : TG} {tb : TS} {D : Ends} {σ : L2.St} {H : Hp} (Pv : Nat → L2.St → Hp → Prop) (h0 : Pv 0 σ H)
    (hs : ∀ (i : Nat) (l : List Nat) (T : Addr) (σ : L2.St) (H : Hp), (Cb.all xs.length r)[i]? = some l → Pv i σ H → H T = none → g (.ref T) σ (upd H T (.tup (pickV xs l))) fun σ2 H2 => tb { D with nx := Pv (i + 1), ct := Pv (i + 1), bk := D.nx } σ2 H2) (hd : ∀ σ H, Pv (Cb.all xs.length r).length σ H → D.nx σ H) :
    ∃ W : Nat → Nat → L2.St → Hp → Prop, (∃ m, W 0 m σ H) ∧ ∀ i m σ H, W i m σ H →
      ((ItCb xs r).stop i H ∧ D.nx σ H) ∨ ((ItCb xs r).go i H ∧ ∃ N : L2.St → Hp → Prop, (∀ σ' H', N σ' H' → ∃ m', m' < m ∧ W (i + 1) m' σ' H') ∧ ∀ v H', (ItCb xs r).yld i H v H' → g v σ H' fun σ2 H2 => tb { D with nx := N, ct := N, bk := D.nx } σ2 H2) := by
  refine ⟨fun i m σ H => m = (Cb.all xs.length r).length - i ∧ i ≤ (Cb.all xs.length r).length ∧ Pv i σ H, ⟨_, rfl, Nat.zero_le _, h0⟩, ?_⟩
  rintro i m σ H ⟨rfl, hi, p⟩
  by_cases hlt : i < (Cb.all xs.length r).length
  · refine .inr ⟨hlt, Pv (i + 1), fun σ' H' p' => ⟨(Cb.all xs.length r).length - (i + 1), by omega, rfl, hlt, p'⟩, fun v H' y => ?_⟩
    obtain ⟨T, l, rfl, hT, hl, rfl⟩ := y
    exact hs i l T σ H hl p hT
  · have e : i = (Cb.all xs.length r).length := by omega
    subst e
    exact .inl ⟨Nat.le_refl _, hd σ H p⟩
end CbL
namespace Sg
/-- places, as whole numbers -/
def zs (ns : List Nat) : List Int := ns.map fun (i : Nat) => (i : Int)
end Sg
/-! dicts whose keys are tuples of tuples of whole numbers, their values whole numbers -/
namespace DN
open PySem PySem.Spec PyProof.Rows L2 Evl
abbrev Tb := List (NestedKey × Addr × Int)
section
variable {K : PySem.W.Frag} {H H' : Hp}
mutual
/-- the value is the key, by what is tracked -/
inductive Is (K : PySem.W.Frag) (H : Hp) : NestedKey → V → Prop
  | num (i : Int) : Is K H (.num i) (.int i)
  | tup {b : Addr} {vs : List V} {ks : List NestedKey} : SqT K H b vs → All K H ks vs → Is K H (.tup ks) (.ref b)
inductive All (K : PySem.W.Frag) (H : Hp) : List NestedKey → List V → Prop
  | nil : All K H [] []
  | cons {k : NestedKey} {v : V} {ks : List NestedKey} {vs : List V} : Is K H k v → All K H ks vs → All K H (k :: ks) (v :: vs)
end
mutual
theorem Is.ex (e : Ex H H') : ∀ {k : NestedKey} {v : V}, Is K H k v → Is K H' k v
  | _, _, .num i => .num i
  | _, _, .tup a b => .tup (ex_t e a) (All.ex e b)
theorem All.ex (e : Ex H H') : ∀ {ks : List NestedKey} {vs : List V}, All K H ks vs → All K H' ks vs
  | _, _, .nil => .nil
  | _, _, .cons a b => .cons (Is.ex e a) (All.ex e b)
end
theorem all_ints : ∀ ns : List Int, All K H (ns.map .num) (ns.map V.int)
  | [] => .nil
  | n :: ns => .cons (.num n) (all_ints ns)
end
section
variable {X : Cx} {pins : List (Addr × Obj)} {σ : L2.St} {H : Hp} {s : Shared}
mutual
theorem is_at (I : Inv X pins σ H s) : ∀ {k : NestedKey} {v : V} {u : Value}, Is X.K H k v → RelV v u → NestedIs s.heap k u
  | _, _, _, .num i, ⟨t, e⟩ => by rw [e]; exact .int i t
  | _, _, _, .tup a b, r => by
    cases r
    obtain ⟨its, rv, ⟨o, ho, hcl, n, hd⟩, _⟩ := I.tuple a
    exact .tup ho hcl hd (all_at I b (by simpa using rv))
theorem all_at (I : Inv X pins σ H s) : ∀ {ks : List NestedKey} {vs : List V} {us : List Value}, All X.K H ks vs → Vals vs us → NestedAll s.heap ks us
  | _, _, _, .nil, .nil => .nil
  | _, _, _, .cons a b, .cons r rr => .cons (is_at I a r) (all_at I b rr)
end
/-- the raw rows of the table -/
def Raw (xs : List (NestedKey × Addr × Value)) (L : Tb) : Prop := Paired (fun (x : NestedKey × Addr × Value) (e : NestedKey × Addr × Int) => x.1 = e.1 ∧ x.2.1 = e.2.1 ∧ ∃ t, x.2.2 = Value.int e.2.2 t) xs L
def T0 (P : Program) (w : World) (h : Heap) (a : Addr) (L : Tb) : Prop := (a == sysModules) = false ∧ ∃ xs, Raw xs L ∧ ∃ o es ep, h.get? a = some o ∧ o.ExactDict ∧ o.data = .dict es ep ∧ es.toList = xs.map (entryOfKey (nestedKind P w)) ∧ (xs.map (·.1)).Nodup
def O (P : Program) (w : World) (a : Addr) (L : Tb) : HO := .ext fun h => T0 P w h a L
theorem T0.stay {P : Program} {w : World} {h h' : Heap} {a : Addr} {L : Tb} (r : T0 P w h a L) (k : ∀ o, h.get? a = some o → h'.get? a = some o) : T0 P w h' a L := by
  obtain ⟨hd, xs, rr, o, es, ep, ho, q⟩ := r
  exact ⟨hd, xs, rr, o, es, ep, k o ho, q⟩
theorem o_new {P : Program} {w : World} {G : Hp} {h : Heap} {a : Addr} {L : Tb} (r : T0 P w h a L) : ObjOk P w G h a (O P w a L) := by
  obtain ⟨hd, xs, rr, o, es, ep, ho, q⟩ := r
  exact ⟨⟨hd, xs, rr, o, es, ep, ho, q⟩, ⟨o, ho⟩, fun h1 h2 p k => p.stay k⟩
theorem o_get (I : Inv X pins σ H s) {a : Addr} {L : Tb} (ha : H a = some (O X.prog X.w a L)) : T0 X.prog X.w s.heap a L := (I.hok a _ ha).1
/-- all keys of the table stand -/
def Keys (K : PySem.W.Frag) (H : Hp) (L : Tb) : Prop := ∀ e ∈ L, Is K H e.1 (.ref e.2.1) ∧ e.1.depth ≤ 8
theorem Keys.ex {K : PySem.W.Frag} {H H' : Hp} {L : Tb} (k : Keys K H L) (e : Ex H H') : Keys K H' L := fun x hx => ⟨(k x hx).1.ex e, (k x hx).2⟩
theorem raw_mem {xs : List (NestedKey × Addr × Value)} {L : Tb} (r : Raw xs L) : ∀ x ∈ xs, ∃ e ∈ L, x.1 = e.1 ∧ x.2.1 = e.2.1 := by
  unfold Raw at r
  induction r with
  | nil => exact fun x hx => nomatch hx
  | cons h t ih =>
    intro x hx
    rcases List.mem_cons.mp hx with rfl | hx
    · exact ⟨_, List.mem_cons_self .., h.1, h.2.1⟩
    · obtain ⟨e, he, q⟩ := ih x hx
      exact ⟨e, List.mem_cons_of_mem _ he, q⟩
theorem full (I : Inv X pins σ H s) {a : Addr} {L : Tb} (r : T0 X.prog X.w s.heap a L) (k : Keys X.K H L) : ∃ xs, Raw xs L ∧ s.heap.DictOfH (nestedKind X.prog X.w) a xs := by
  obtain ⟨hd, xs, rr, o, es, ep, ho, q1, q2, q3, q4⟩ := r
  refine ⟨xs, rr, o, es, ep, ho, q1, q2, q3, fun x hx => ?_, q4⟩
  obtain ⟨e, he, e1, e2⟩ := raw_mem rr x hx
  obtain ⟨k1, k2⟩ := k e he
  rw [e1, e2]
  exact ⟨is_at I k1 rfl, k2⟩
def find (L : Tb) (k : NestedKey) : Option Int := (L.find? fun e => decide (e.1 = k)).map (·.2.2)
theorem find_some {k : NestedKey} {i : Int} : ∀ {xs : List (NestedKey × Addr × Value)} {L : Tb}, Raw xs L → find L k = some i → ∃ b t, atKey xs k = some (b, Value.int i t)
  | _, _, .nil, h => nomatch h
  | x :: xs, e :: L, .cons ⟨h1, h2, t, h3⟩ r, h => by
    unfold find at h
    unfold atKey
    rw [List.find?_cons] at h ⊢
    rw [h1]
    cases c : decide (e.1 = k) with
    | true =>
      rw [c] at h
      have h : e.2.2 = i := Option.some.inj h
      refine ⟨x.2.1, t, ?_⟩
      show some x.2 = _
      rw [← h, ← h3]
    | false =>
      rw [c] at h
      exact find_some r h
theorem find_none {k : NestedKey} : ∀ {xs : List (NestedKey × Addr × Value)} {L : Tb}, Raw xs L → find L k = none → atKey xs k = none
  | _, _, .nil, _ => rfl
  | x :: xs, e :: L, .cons ⟨h1, h2, t, h3⟩ r, h => by
    unfold find at h
    unfold atKey
    rw [List.find?_cons] at h ⊢
    rw [h1]
    cases c : decide (e.1 = k) with
    | true =>
      rw [c] at h
      cases h
    | false =>
      rw [c] at h
      exact find_none r h
end
/-! ### the readings -/
/-- {} -/
def tNew (P : Program) (w : World) : TE := fun _ H Q => ∀ p, H p = none → Q (.ref p) (upd H p (O P w p []))
/-- d[k] -/
def tGet (K : PySem.W.Frag) (P : Program) (w : World) (td ty : TE) : TE := fun σ H Q => td σ H fun x H1 => ty σ H1 fun y H2 => ∃ (a b : Addr) (L : Tb) (k : NestedKey) (i : Int), x = .ref a ∧ y = .ref b ∧ H2 a = some (O P w a L) ∧ Keys K H2 L ∧ Is K H2 k (.ref b) ∧ k.depth ≤ 8 ∧ find L k = some i ∧ Q (.int i) H2
/-- d[k] = v, k new -/
def sPut (K : PySem.W.Frag) (P : Program) (w : World) (td ty tv : TE) : TS := fun D σ H => tv σ H fun v H1 => td σ H1 fun x H2 => ty σ H2 fun y H3 => ∃ (a b : Addr) (L : Tb) (k : NestedKey) (i : Int), v = .int i ∧ x = .ref a ∧ y = .ref b ∧ H3 a = some (O P w a L) ∧ Keys K H3 L ∧ Is K H3 k (.ref b) ∧ k.depth ≤ 8 ∧ find L k = none ∧ L.length < 100000 ∧ D.nx σ (upd H3 a (O P w a (L ++ [(k, b, i)])))
/-- {k: v} -/
def tOne (K : PySem.W.Frag) (P : Program) (w : World) (ty tv : TE) : TE := fun σ H Q => ∀ p, H p = none → ty σ (upd H p (O P w p [])) fun y H1 => tv σ H1 fun v H2 => ∃ (b : Addr) (k : NestedKey) (i : Int), y = .ref b ∧ v = .int i ∧ H2 p = some (O P w p []) ∧ Is K H2 k (.ref b) ∧ k.depth ≤ 8 ∧ Q (.ref p) (upd H2 p (O P w p [(k, b, i)]))
section
variable {X : Cx} {o i value : Expr} {td ty tv : TE} {pos pos' : Pos}
theorem t0_empty {P : Program} {w : World} {h : Heap} (hb : sysModules < h.objs.size) : T0 P w (h.push { cls := .type "dict", data := .dict #[] }) h.objs.size [] :=
  ⟨beq_eq_false_iff_ne.mpr (Ne.symm (Nat.ne_of_lt hb)), [], .nil, _, #[], _, Heap.get?_push_size _ rfl, ⟨rfl, rfl, rfl⟩, rfl, rfl, List.nodup_nil⟩
theorem pe_new : PE X (.Dict [] [] pos) (tNew X.prog X.w) := ⟨fun pins s σ H Q I h =>
  wpAny_Dict_empty ⟨.ref s.heap.objs.size, _, I.laid (a := s.heap.objs.size) (o := O X.prog X.w s.heap.objs.size []) (t' := s.toks) (fun _ _ q => Heap.get?_push_of_some _ q) (Nat.le_refl _) (o_new (t0_empty I.big)), rfl, h _ (I.hok.fresh (Nat.le_refl _))⟩⟩
theorem pe_get {k : Nat} (hr : Room k X.A) (ho : PE X o td) (hi : PE X i ty) (hs : NoSl i) : PE X (.Subscript o i pos) (tGet X.K X.prog X.w td ty) := by
  refine ⟨fun pins s σ H Q I h => ?_⟩
  have hu := hr.units
  refine subD_of PySem.F.slot_dict_getitem.lookup hs (thn (ho.run pins s σ H _ I h) fun u s1 ⟨x, H1, I1, rx, q1⟩ => thn (hi.run pins s1 σ H1 _ I1 q1) fun iv s2 ⟨y, H2, I2, ry, q2⟩ => ?_)
  obtain ⟨a, b, L, k, i, rfl, rfl, hL, hK, hk, hd, hf, q⟩ := q2
  cases rx
  cases ry
  obtain ⟨xs, rr, dd⟩ := full I2 (o_get I2 hL) hK
  obtain ⟨c, t, hp⟩ := find_some rr hf
  refine ⟨dd.typeIs, wpAny_getItem_heap (knd := nestedKind X.prog X.w) (show X.A.in1.units + 8 < cLine by simp only [Around.in1_units]; omega) ⟨is_at I2 hk rfl, hd⟩ dd hp ⟨.int i, H2, I2.tok _, ⟨t, rfl⟩, q⟩⟩
theorem raw_more {xs : List (NestedKey × Addr × Value)} {L : Tb} (r : Raw xs L) (k : NestedKey) (b : Addr) (i : Int) (t : Tok) : Raw (xs ++ [(k, b, Value.int i t)]) (L ++ [(k, b, i)]) := Paired.snoc r ⟨rfl, rfl, t, rfl⟩
theorem ps_put {k : Nat} (hr : Room k X.A) (ho : PE X o td) (hi : PE X i ty) (hv : PE X value tv) (hs : swapsWith value (some (.Subscript o i pos')) pos.line X.env = pure false) :
    PS X (.Assign [.Subscript o i pos'] value pos) (sPut X.K X.prog X.w td ty tv) := by
  refine ⟨fun pins s σ H D I h => ?_⟩
  have hu := hr.units
  refine wpAny_Assign_Subscript (thn (hv.run pins s σ H _ I h) fun r s1 ⟨v, H1, I1, rv, q1⟩ => thn (ho.run pins s1 σ H1 _ I1 q1) fun u s2 ⟨x, H2, I2, rx, q2⟩ => thn (hi.run pins s2 σ H2 _ I2 q2) fun iv s3 ⟨y, H3, I3, ry, q3⟩ => ?_) hs
  obtain ⟨a, b, L, k, i, rfl, rfl, rfl, hL, hK, hk, hd, hf, hl, q⟩ := q3
  cases rx
  cases ry
  obtain ⟨t, rfl⟩ := rv
  obtain ⟨xs, rr, dd⟩ := full I3 (o_get I3 hL) hK
  have nf := find_none rr hf
  have xl : xs.length = L.length := Paired.length rr
  have nm := (o_get I3 hL).1
  refine wpAny_setItem_heap (knd := nestedKind X.prog X.w) (show X.A.in1.units + 8 < cLine by simp only [Around.in1_units]; omega) ⟨is_at I3 hk rfl, hd⟩ dd (fun h' dd' sb => ?_) (by rw [sizeLine_eq]; omega)
  rw [storedH_new nf] at dd'
  obtain ⟨o', es, ep, g1, g2, g3, g4, g5, g6⟩ := dd'
  refine ⟨σ, _, d_write I3 (by rw [hL]; exact True.intro) sb ⟨o', g1⟩ (o_new ⟨nm, _, raw_more rr k b i t, o', es, ep, g1, g2, g3, g4, g6⟩), q⟩
def pOne (F : V → V → Hp → Prop) : List (V × V) → Hp → Prop
  | [(y, v)], H => F y v H
  | _, _ => False
theorem pOne_has {F : V → V → Hp → Prop} : ∀ {ps : List (V × V)} {H : Hp}, pOne F ps H → ∃ y v, ps = [(y, v)] ∧ F y v H
  | [], _, h => h.elim
  | [(y, v)], _, h => ⟨y, v, rfl, h⟩
  | _ :: _ :: _, _, h => h.elim
theorem pe_one {kx vx : Expr} {k : Nat} (hr : Room k X.A) (hi : PE X kx ty) (hv : PE X vx tv) : PE X (.Dict [some kx] [vx] pos) (tOne X.K X.prog X.w ty tv) := by
  refine ⟨fun pins s σ H Q I q => ?_⟩
  have hu := hr.units
  have hn := I.hok.fresh (Nat.le_refl s.heap.objs.size)
  have I1 := I.laid (a := s.heap.objs.size) (o := O X.prog X.w s.heap.objs.size []) (h' := s.heap.push { cls := .type "dict", data := .dict #[] }) (t' := s.toks) (fun _ _ q => Heap.get?_push_of_some _ q) (Nat.le_refl _) (o_new (t0_empty I.big))
  have hp := (pps_cons (pos := pos) hi hv pps_nil).run pins _ σ _ (pOne fun y v H2 => ∃ (b : Addr) (k : NestedKey) (i : Int), y = .ref b ∧ v = .int i ∧ H2 s.heap.objs.size = some (O X.prog X.w s.heap.objs.size []) ∧ Is X.K H2 k (.ref b) ∧ k.depth ≤ 8 ∧ Q (.ref s.heap.objs.size) (upd H2 s.heap.objs.size (O X.prog X.w s.heap.objs.size [(k, b, i)]))) I1 (q _ hn)
  have e0 : (pairTrees [some kx] [vx] X.env pos).length = 1 := pairTrees_length _ _ _ _ rfl rfl
  have n0 : pairTrees [some kx] [vx] X.env pos ≠ [] := fun z => by rw [z] at e0; cases e0
  have shp : (evalEachOpt [some kx] X.env).zip ((evalEach [vx] X.env).map fun v => do let x ← v; standAt pos; pure x) = (pairTrees [some kx] [vx] X.env pos).map fun p => (some p.1, p.2) := by rfl
  rw [arm_eval_Dict, shp, dictDisplay_pairs _ n0 (by rw [e0]; decide)]
  refine wpAny_bind (wpAny_standAt (wpAny_bind (wpAny_subDictH (knd := nestedKind X.prog X.w) (show X.A.units + 8 < cLine by omega) (by rw [e0]; decide) (thn hp fun ws s2 ⟨ps, H2, I2, rel, q1⟩ => ?_))))
  obtain ⟨y, v, rfl, b, k, i, rfl, rfl, hL, hk, hd, q2⟩ := pOne_has q1
  obtain ⟨w0, rfl, r1, r2⟩ : ∃ w0 : Value × Value, ws = [w0] ∧ RelV (.ref b) w0.1 ∧ RelV (.int i) w0.2 := by
    cases rel with
    | cons r rr =>
      cases rr
      exact ⟨_, rfl, r⟩
  obtain ⟨w1, w2⟩ := w0
  cases (show w1 = Value.ref b from r1)
  obtain ⟨t, e2⟩ := (show ∃ t, w2 = Value.int i t from r2)
  subst e2
  have T := o_get I2 hL
  obtain ⟨xs, rr, dd⟩ := full I2 T (fun e he => nomatch he)
  cases rr
  refine ⟨[(k, b, Value.int i t)], ⟨rfl, rfl, ⟨is_at I2 hk rfl, hd⟩, trivial⟩, dd, fun h' tk dd' sb => wpAny_pure ?_⟩
  have e3 : storedAllH ([] : List (NestedKey × Addr × Value)) [(k, b, Value.int i t)] = [(k, b, Value.int i t)] := rfl
  rw [e3] at dd'
  obtain ⟨o', es, ep, g1, g2, g3, g4, g5, g6⟩ := dd'
  exact ⟨.ref _, _, d_write I2 (by rw [hL]; exact True.intro) sb ⟨o', g1⟩ (o_new ⟨T.1, _, .cons ⟨rfl, rfl, t, rfl⟩ .nil, o', es, ep, g1, g2, g3, g4, g6⟩), rfl, q2⟩
end
end DN
/-! for i, x in enumerate(a tuple) -/
namespace EnT
open PySem PySem.Spec PyProof.Rows L2
set_option maxHeartbeats 1000000 in
theorem made {v : Value} {ob : Obj} {Fx : Heap → Prop} (B : Begins v ob Fx) : Meets (Builtin.«enumerate.__new__» ⟨[.type "enumerate", v], []⟩) (fun _ Post s => Fx s.heap ∧
    Post (.ok (.ret (.ref (s.heap.push ob).objs.size))) { s with heap := (s.heap.push ob).push { cls := .type "enumerate", data := .fields #[.none, .bool false, .ref s.heap.objs.size, rawInt 0, .none, .none] } }) :=
  .of_wp fun prog w A Post s told => by
    obtain ⟨hp, gn, dd, tk, osx⟩ := s
    obtain ⟨begun, told⟩ := told
    have hsub := sub_enumerate
    have step : ∀ {A' : Around} {E : Value → Shared → Prop} {Q : Value → Shared → Prop}, Q (.ref hp.objs.size) ⟨hp.push ob, gn, dd, tk, osx⟩ → wpAny (model prog w) A' (pyIter v) Q E ⟨hp, gn, dd, tk, osx⟩ :=
      fun q => B.iter prog w _ _ ⟨hp, gn, dd, tk, osx⟩ _ begun q
    wp_walk using step
    refine wpAny_stack_any fun st => wpAny_pure ?_
    split
    · rename_i cl _ _ _ _ _
      cases (cl == Value.type "enumerate")
      · wp_walk using step
        exact ⟨_, rfl, told⟩
      · wp_walk using step
        exact ⟨_, rfl, told⟩
    · wp_walk using step
      exact ⟨_, rfl, told⟩
theorem call1 {prog : Program} {w : World} {A : Around} {E : Value → Shared → Prop} {s : Shared} {v : Value} {ob : Obj} {Fx : Heap → Prop} {Q : Value → Shared → Prop} (B : Begins v ob Fx) (begun : Fx s.heap)
    (k : ∀ g, IsEnum g (s.heap.objs.size + 1) s.heap.objs.size 0 .none → g.get? s.heap.objs.size = some ob → (∀ c u, s.heap.get? c = some u → g.get? c = some u) → Q (.ref (s.heap.objs.size + 1)) { s with heap := g }) : wpAny (model prog w) A (call (.type "enumerate") [v]) Q E s := by
  refine callType_new F.called_enumerate (by decide) (F.typeCall_enumerate_1 _) (F.newCall_enumerate_1 _) (fun obj => F.args_object_init_2 obj _) F.entry_enumerate_new (made B) ⟨begun, ?_⟩
  have sz : (s.heap.push ob).objs.size = s.heap.objs.size + 1 := Heap.size_push ..
  show _ ∧ _
  rw [sz]
  have here : IsEnum ((s.heap.push ob).push { cls := .type "enumerate", data := .fields #[.none, .bool false, .ref s.heap.objs.size, rawInt 0, .none, .none] }) (s.heap.objs.size + 1) s.heap.objs.size 0 .none := by
    have z := Heap.get?_push_size (s.heap.push ob) (o := { cls := .type "enumerate", data := .fields #[.none, .bool false, .ref s.heap.objs.size, rawInt 0, .none, .none] }) rfl
    rw [sz] at z
    exact z
  exact ⟨⟨_, here, rfl⟩, k _ here (Heap.get?_push_of_some _ (Heap.get?_push_size _ B.free)) fun c u x => Heap.get?_push_of_some _ (Heap.get?_push_of_some _ x)⟩
/-- the tuple at a, each item in a new pair with its place -/
def Over (K : PySem.W.Frag) (a : Addr) : It :=
  ⟨fun n G => ∃ (xs : List V) (x : V), SqT K G a xs ∧ xs[n]? = some x, fun n G v G' => ∃ T x, v = .ref T ∧ G T = none ∧ G' = upd G T (.tup [.int (n : Nat), x]) ∧ ∀ xs, SqT K G a xs → xs[n]? = some x, fun n G => ∃ xs : List V, SqT K G a xs ∧ xs.length = n⟩
theorem turn {P : Program} {w : World} {K : PySem.W.Frag} {elts : List Expr} {kk : Nat} {tpos : Pos} (a e it : Addr) : Turn P w K (.Tuple elts kk tpos) (Over K a) [e, it] e (fun n h => (∃ old, IsEnum h e it ((n : Nat) : Int) old) ∧ h.IsTupleIter it a n ∧ e ≠ it) where
  mem := by simp
  obj := fun n h st b hb => by
    obtain ⟨⟨old, en⟩, ⟨o, ho, hc, hd⟩, _⟩ := st
    have two : b = e ∨ b = it := by simpa using hb
    rcases two with z | z
    · rw [z]
      exact ⟨_, en, fun v q => nomatch q⟩
    · rw [z]
      exact ⟨o, ho, fun v q => by rw [hd] at q; cases q⟩
  keep := fun n h h' st keeps => by
    obtain ⟨⟨old, en⟩, iter, apart⟩ := st
    exact ⟨⟨old, keeps e (by simp) _ en⟩, iter.at fun o q => keeps it (by simp) o q, apart⟩
  item := by
    intro X hP hw hK calm n pins s σ G E I fp st more
    subst hP hw hK
    obtain ⟨⟨old, en⟩, iter, apart⟩ := st
    obtain ⟨xs, x, sq, at_⟩ := more
    obtain ⟨its, rv, tup, _⟩ := I.tuple sq
    obtain ⟨u, hu, ru⟩ := rv.get at_
    have el : e < s.heap.objs.size := Heap.lt_size en
    have il : it < s.heap.objs.size := by
      obtain ⟨_, q, _⟩ := iter
      exact Heap.lt_size q
    have eIsT : s.heap.IsTuple a its.toArray := tup
    have ne1 : e ≠ a := fun z => by
      obtain ⟨o, ho, hc, _⟩ := eIsT
      rw [← z, show s.heap.get? e = _ from en] at ho
      cases ho
      exact absurd (Value.type.inj hc) (by decide)
    have ne2 : a ≠ it := fun z => by
      obtain ⟨o, ho, hc, _⟩ := eIsT
      obtain ⟨o2, ho2, hc2, _⟩ := iter
      rw [z, ho2] at ho
      cases ho
      rw [hc2] at hc
      exact absurd (Value.type.inj hc) (by decide)
    have D := Draws.tuple (prog := X.prog) (w := X.w) (A := X.A.in1) (by simp [I.ok.hd calm]) it a ne2 its.toArray
    refine wpAny_pyNext_enum_itemD D en ⟨iter, eIsT⟩ (by have := (List.getElem?_eq_some_iff.mp hu).1; simpa using this) apart (by simp [apart, ne1]) fun y h' tk gy out nxt hT hsz hk => ?_
    have ey : y = u := by
      have gy : its.toArray[n]? = some y := gy
      rw [List.getElem?_toArray, hu] at gy
      exact (Option.some.inj gy).symm
    subst ey
    refine ⟨_, rfl, wpAny_letOwnedTupleGo_enum (s := { s with heap := h', toks := tk + 1 }) out fun h2 back sb => ?_⟩
    have hT2 : h2.get? s.heap.objs.size = some { cls := .type "tuple", data := .seq #[.int n tk, y] } := (sb.2 _ (Nat.ne_of_gt el)).trans hT
    have new : ObjOk X.prog X.w (upd G s.heap.objs.size (.tup [.int (n : Nat), x])) h2 s.heap.objs.size (.tup [.int (n : Nat), x]) :=
      ⟨by show 2 ≤ sizeLine; decide, [.int n tk, y], .cons ⟨_, rfl⟩ (.cons ru .nil), ⟨_, hT2, rfl, _, rfl⟩⟩
    have I1 : Inv X pins σ (upd G s.heap.objs.size (.tup [.int (n : Nat), x])) { s with heap := h2, toks := tk + 1 } :=
      I.turnedNew (ch := [e, it]) (fun b ob hb q => (sb.2 b (fun z => hb (by simp [z]))).trans (hk b ob (fun z => hb (by simp [z])) (fun z => hb (by simp [z])) q)) fp (Nat.le_refl _) new
    refine ⟨.ref s.heap.objs.size, _, I1, rfl, ⟨_, x, rfl, I.hok.fresh (Nat.le_refl _), rfl, fun ys hy => by rw [I.tuple_inj hy sq]; exact at_⟩, ⟨⟨y, ?_⟩, nxt.1.at fun o q => (sb.2 it (Ne.symm apart)).trans q, apart⟩, fun b hb => ?_⟩
    · have e1 : ((n + 1 : Nat) : Int) = (n : Int) + 1 := by omega
      rw [e1]
      exact back
    · have below : b < s.heap.objs.size := by
        have two : b = e ∨ b = it := by simpa using hb
        rcases two with z | z
        · rw [z]; exact el
        · rw [z]; exact il
      rw [upd_ne (Nat.ne_of_lt below)]
      exact (fp b hb).1
  done := by
    intro X hP hw hK calm n pins s σ G E I fp st over
    subst hP hw hK
    obtain ⟨⟨old, en⟩, iter, apart⟩ := st
    obtain ⟨xs, sq, le⟩ := over
    obtain ⟨its, rv, tup, _⟩ := I.tuple sq
    obtain ⟨f0, f1, f2, f3, f4, f5⟩ := fp it (by simp)
    have hl := rv.length
    have ne2 : a ≠ it := fun z => by
      obtain ⟨o, ho, hc, _⟩ := tup
      obtain ⟨o2, ho2, hc2, _⟩ := iter
      rw [z, ho2] at ho
      cases ho
      rw [hc2] at hc
      exact absurd (Value.type.inj hc) (by decide)
    have D := Draws.tuple (prog := X.prog) (w := X.w) (A := X.A.in1) (by simp [I.ok.hd calm]) it a ne2 its.toArray
    have en2 : its.toArray.size = n := by simpa using hl.symm.trans le
    rw [← en2] at iter
    exact wpAny_pyNext_enum_endD D en ⟨iter, tup⟩ fun h' eb => ⟨rfl, I.turned (t' := s.toks) (fun b o hb q => eb b o hb q) f0 f1 f3 f4 f5⟩
  self := fun A n s Q E st h => let ⟨⟨_, en⟩, _⟩ := st; wpAny_pyIter_enum en h
def iE (K : PySem.W.Frag) (ta : TA) : TI := fun σ H R => ta σ H fun vs H1 => ∃ a xs, vs = [.ref a] ∧ SqT K H1 a xs ∧ R (Over K a) H1
theorem pi_e {X : Cx} {e : Expr} {ta : TA} {p pos tpos : Pos} {elts : List Expr} {kk : Nat} (hg : Gl X "enumerate") (hm : X.mg "enumerate" = none) (ha : PA X [e] ta) (hs : starEach [e] X.env = [(false, eval e X.env)] := by rfl) :
    PI X (.Tuple elts kk tpos) (.Call (.Name "enumerate" p) [e] [] pos) (iE X.K ta) := by
  refine ⟨fun pins s σ H R I h => ?_⟩
  refine Call_ (ld_blt I hg hm boot_enumerate (PyProof.Rows.callWith_type1 (thn (ha.run pos pins s σ H _ I h) fun us s1 ⟨vs, H1, I1, r1, q1⟩ => ?_) hs rfl))
  obtain ⟨a, xs, rfl, sq, q⟩ := q1
  cases r1 with
  | cons r rr =>
    cases rr
    cases r
    obtain ⟨its, rv, tup, _⟩ := I1.tuple sq
    refine call1 (begins_tuple a its.toArray) tup fun g en isit keep => wpAny_pyIter_enum en ?_
    have I2 : Inv X pins σ H1 { s1 with heap := g } := I1.kept (t' := s1.toks) keep
    refine ⟨s1.heap.objs.size + 1, [s1.heap.objs.size + 1, s1.heap.objs.size], _, _, H1, rfl, I2, turn a (s1.heap.objs.size + 1) s1.heap.objs.size, ⟨⟨.none, en⟩, ⟨_, isit, rfl, rfl⟩, Nat.succ_ne_self _⟩, fun b hb => ?_, q⟩
    have two : b = s1.heap.objs.size + 1 ∨ b = s1.heap.objs.size := by simpa using hb
    have le : s1.heap.objs.size ≤ b := by
      rcases two with z | z
      · rw [z]; exact Nat.le_add_right _ _
      · rw [z]; exact Nat.le_refl _
    exact I1.fpOk le (I1.hok.fresh le)
theorem for_enumT {K : PySem.W.Frag} {a : Addr} {xs : List V} {g : TG} {tb : TS} {D : Ends} {σ : L2.St} {H : Hp} (Pv : Nat → L2.St → Hp → Prop) (h0 : Pv 0 σ H) (hq : ∀ i σ H, Pv i σ H → SqT K H a xs)
    (hs : ∀ (i : Nat) (x : V) (T : Addr) (σ : L2.St) (H : Hp), xs[i]? = some x → Pv i σ H → H T = none → g (.ref T) σ (upd H T (.tup [.int (i : Nat), x])) fun σ2 H2 => tb { D with nx := Pv (i + 1), ct := Pv (i + 1), bk := D.nx } σ2 H2) (hd : ∀ σ H, Pv xs.length σ H → D.nx σ H) :
    ∃ W : Nat → Nat → L2.St → Hp → Prop, (∃ m, W 0 m σ H) ∧ ∀ i m σ H, W i m σ H →
      ((Over K a).stop i H ∧ D.nx σ H) ∨ ((Over K a).go i H ∧ ∃ N : L2.St → Hp → Prop, (∀ σ' H', N σ' H' → ∃ m', m' < m ∧ W (i + 1) m' σ' H') ∧ ∀ v H', (Over K a).yld i H v H' → g v σ H' fun σ2 H2 => tb { D with nx := N, ct := N, bk := D.nx } σ2 H2) := by
  refine ⟨fun i m σ H => m = xs.length - i ∧ i ≤ xs.length ∧ Pv i σ H, ⟨xs.length, by simp, Nat.zero_le _, h0⟩, ?_⟩
  rintro i m σ H ⟨rfl, hi, p⟩
  have q := hq i σ H p
  by_cases hlt : i < xs.length
  · refine .inr ⟨⟨xs, xs[i], q, by simp [hlt]⟩, Pv (i + 1), fun σ' H' p' => ⟨xs.length - (i + 1), by omega, rfl, hlt, p'⟩, fun v H' y => ?_⟩
    obtain ⟨T, x, rfl, hT, rfl, hx⟩ := y
    exact hs i x T σ H (hx xs q) p hT
  · have e : i = xs.length := by omega
    subst e
    exact .inl ⟨⟨xs, q, rfl⟩, hd σ H p⟩
end EnT
/-! squares of a table by their rows and columns -/
namespace Cb
theorem C_nodup (n : Nat) : ∀ r d lo, lo + d = n → (C n r lo).Nodup
  | 0, _, _, _ => by simp [C]
  | r + 1, 0, lo, h => by rw [C_end n r lo (by omega)]; exact List.nodup_nil
  | r + 1, d + 1, lo, h => by
    rw [C_step n r lo (by omega)]
    refine List.nodup_append.mpr ⟨?_, C_nodup n (r + 1) d (lo + 1) (by omega), fun a ha b hb e => ?_⟩
    · have := C_nodup n r d (lo + 1) (by omega)
      exact List.Pairwise.map _ (fun a b h e => h (List.cons.inj e).2) this
    · obtain ⟨c, hc, rfl⟩ := List.mem_map.mp ha
      have := (mem_C.mp hb).2.2 lo (by rw [← e]; exact List.mem_cons_self ..)
      omega
theorem all_nodup (n r : Nat) : (all n r).Nodup := C_nodup n r n 0 (by omega)
theorem C_shift (n : Nat) : ∀ r d lo, lo + d = n → C n r lo = (C d r 0).map fun l : List Nat => l.map fun y : Nat => lo + y
  | 0, _, _, _ => by simp [C]
  | r + 1, d, lo, h => by
    have e : ∀ n m, C n (r + 1) m = (List.range' m (n - m)).flatMap fun i => (C n r (i + 1)).map (i :: ·) := fun _ _ => rfl
    rw [e, e, show n - lo = d by omega, Nat.sub_zero, List.range'_eq_map_range, List.range'_eq_map_range, List.flatMap_map, List.flatMap_map, List.map_flatMap]
    have fm : ∀ {f g : Nat → List (List Nat)} {l : List Nat}, (∀ x ∈ l, f x = g x) → l.flatMap f = l.flatMap g := fun {f g l} h => by
      induction l with
      | nil => rfl
      | cons a l ih => rw [List.flatMap_cons, List.flatMap_cons, h a (List.mem_cons_self ..), ih fun x hx => h x (List.mem_cons_of_mem _ hx)]
    refine fm fun x hx => ?_
    have hx := List.mem_range.mp hx
    show (C n r (lo + x + 1)).map (fun l : List Nat => (lo + x) :: l) = ((C d r (0 + x + 1)).map (fun l : List Nat => (0 + x) :: l)).map fun l : List Nat => l.map fun y : Nat => lo + y
    rw [C_shift n r (d - (x + 1)) (lo + x + 1) (by omega), C_shift d r (d - (x + 1)) (0 + x + 1) (by omega), List.map_map, List.map_map, List.map_map]
    refine List.map_congr_left fun l _ => ?_
    show (lo + x) :: l.map (fun y : Nat => lo + x + 1 + y) = (lo + (0 + x)) :: (l.map fun y : Nat => 0 + x + 1 + y).map fun y : Nat => lo + y
    rw [List.map_map, Nat.zero_add]
    congr 1
    refine List.map_congr_left fun y _ => ?_
    show lo + x + 1 + y = lo + (x + 1 + y)
    omega
theorem all_step (n r : Nat) : all n (r + 1) = (List.range n).flatMap fun f => (all (n - f - 1) r).map fun l : List Nat => f :: l.map fun y : Nat => f + 1 + y := by
  have e : C n (r + 1) 0 = (List.range' 0 (n - 0)).flatMap fun i => (C n r (i + 1)).map (i :: ·) := rfl
  unfold all
  rw [e, Nat.sub_zero, ← List.range_eq_range']
  have fm : ∀ {f g : Nat → List (List Nat)} {l : List Nat}, (∀ x ∈ l, f x = g x) → l.flatMap f = l.flatMap g := fun {f g l} h => by
    induction l with
    | nil => rfl
    | cons a l ih => rw [List.flatMap_cons, List.flatMap_cons, h a (List.mem_cons_self ..), ih fun x hx => h x (List.mem_cons_of_mem _ hx)]
  refine fm fun x hx => ?_
  have hx := List.mem_range.mp hx
  rw [C_shift n r (n - x - 1) (x + 1) (by omega), List.map_map]
  rfl
theorem all_count (n : Nat) : ∀ r d lo, lo + d = n → (C n r lo).length ≤ 2 ^ d
  | 0, d, _, _ => Nat.one_le_two_pow
  | r + 1, 0, lo, h => by rw [C_end n r lo (by omega)]; exact Nat.zero_le _
  | r + 1, d + 1, lo, h => by
    rw [C_step n r lo (by omega), List.length_append, List.length_map, Nat.pow_succ]
    have h1 := all_count n r d (lo + 1) (by omega)
    have h2 := all_count n (r + 1) d (lo + 1) (by omega)
    omega
end Cb
namespace Bs
open Dt
def sub (R : List (List Int)) (rows cols : List Nat) : List (List Int) := rows.map fun i => cols.map fun j => at_ R i j
def val (R : List (List Int)) (rows cols : List Nat) : Int := detI rows.length (sub R rows cols)
theorem sub_sq (R : List (List Int)) {rows cols : List Nat} (h : cols.length = rows.length) : Sq rows.length (sub R rows cols) := by
  unfold sub
  refine ⟨by rw [List.length_map], fun r hr => ?_⟩
  obtain ⟨i, _, rfl⟩ := List.mem_map.mp hr
  rw [List.length_map, h]
theorem val_eq (R : List (List Int)) {rows cols : List Nat} (h : cols.length = rows.length) : ((val R rows cols : Int) : Rat) = det rows.length (mx (sub R rows cols)) := detI_eq (sub_sq R h)
theorem sub_at (R : List (List Int)) {rows cols : List Nat} {i j a b : Nat} (hi : rows[i]? = some a) (hj : cols[j]? = some b) : at_ (sub R rows cols) i j = at_ R a b := by
  unfold sub
  show ((rows.map fun i => cols.map fun j => at_ R i j)[i]?.getD [])[j]?.getD 0 = _
  rw [List.getElem?_map, hi]
  show (cols.map fun j => at_ R a j)[j]?.getD 0 = _
  rw [List.getElem?_map, hj]
  rfl
/-- all but the j-th -/
def out (l : List Nat) (j : Nat) : List Nat := l.take j ++ l.drop (j + 1)
theorem out_len {l : List Nat} {j : Nat} (h : j < l.length) : (out l j).length = l.length - 1 := by
  unfold out
  rw [List.length_append, List.length_take, List.length_drop]
  omega
theorem val_nil (R : List (List Int)) : val R [] [] = 1 := by
  have h := val_eq R (rows := []) (cols := []) rfl
  have e : det 0 (mx (sub R [] [])) = ((1 : Int) : Rat) := rfl
  show val R [] [] = 1
  exact Rat.intCast_inj.mp (h.trans e)
/-- along the last row -/
theorem val_last (R : List (List Int)) {ahead cols : List Nat} {r : Nat} (h : cols.length = ahead.length + 1) : ((val R (ahead ++ [r]) cols : Int) : Rat) = sm (ahead.length + 1) fun j => (sg ahead.length * sg j) * ((at_ R r (cols[j]?.getD 0) : Int) : Rat) * ((val R ahead (out cols j) : Int) : Rat) := by
  have hl : (ahead ++ [r]).length = ahead.length + 1 := by simp
  rw [val_eq R (by rw [hl, h]), hl]
  have ht := det_top (n := ahead.length + 1) (r := ahead.length) (M := mx (sub R (ahead ++ [r]) cols)) (by omega)
  have e1 : det (ahead.length + 1) (mx (sub R (ahead ++ [r]) cols)) = sg ahead.length * det (ahead.length + 1) (top ahead.length (mx (sub R (ahead ++ [r]) cols))) := by
    rw [ht, ← Rat.mul_assoc, sg_sq, Rat.one_mul]
  rw [e1, show det (ahead.length + 1) (top ahead.length (mx (sub R (ahead ++ [r]) cols))) = sm (ahead.length + 1) fun j => sg j * (top ahead.length (mx (sub R (ahead ++ [r]) cols))) 0 j * det ahead.length (minor (top ahead.length (mx (sub R (ahead ++ [r]) cols))) j) from rfl, ← sm_mul]
  refine sm_congr fun j hj => ?_
  have hc : cols[j]? = some (cols[j]?.getD 0) := by
    rw [List.getElem?_eq_getElem (by omega)]
    rfl
  have f1 : (top ahead.length (mx (sub R (ahead ++ [r]) cols))) 0 j = ((at_ R r (cols[j]?.getD 0) : Int) : Rat) := by
    show ((at_ (sub R (ahead ++ [r]) cols) ahead.length j : Int) : Rat) = _
    rw [sub_at R (i := ahead.length) (a := r) (by simp) hc]
  have f2 : det ahead.length (minor (top ahead.length (mx (sub R (ahead ++ [r]) cols))) j) = ((val R ahead (out cols j) : Int) : Rat) := by
    rw [val_eq R (by rw [out_len (by omega)]; omega)]
    refine det_congr fun a b ha hb => ?_
    show ((at_ (sub R (ahead ++ [r]) cols) (if a + 1 = 0 then ahead.length else skip ahead.length (a + 1 - 1)) (skip j b) : Int) : Rat) = ((at_ (sub R ahead (out cols j)) a b : Int) : Rat)
    rw [if_neg (by omega), Nat.add_sub_cancel, skip_lt ha]
    have ea : (ahead ++ [r])[a]? = some (ahead[a]) := by
      rw [List.getElem?_append_left ha]
      exact List.getElem?_eq_getElem ha
    have eb : (out cols j)[b]? = cols[skip j b]? := out_get cols j b (by omega)
    have sb : skip j b < cols.length := by
      unfold skip
      split <;> omega
    have ec : cols[skip j b]? = some cols[skip j b] := List.getElem?_eq_getElem sb
    rw [sub_at R ea ec, sub_at R (List.getElem?_eq_getElem ha) (eb.trans ec)]
  rw [f1, f2]
  grind
def isBad (x : Int) : Bool := !(decide (x = -1) || decide (x = 0) || decide (x = 1))
/-- all squares of one size -/
def sq (m w s : Nat) : List (List Nat × List Nat) := (Cb.all m s).flatMap fun rs => (Cb.all w s).map fun cs => (rs, cs)
def sqs (m w n : Nat) : List (List Nat × List Nat) := (List.range n).flatMap fun s => sq m w (s + 1)
theorem sqs_succ (m w n : Nat) : sqs m w (n + 1) = sqs m w n ++ sq m w (n + 1) := by
  unfold sqs
  rw [List.range_succ, List.flatMap_append, List.flatMap_cons, List.flatMap_nil, List.append_nil]
/-- the bad square of the fewest rows, of the least rows, of the least columns -/
def bad (R : List (List Int)) (m w : Nat) : Option (List Nat × List Nat) := (sqs m w (min m w)).find? fun x => isBad (val R x.1 x.2)
theorem find_split {α : Type} {p : α → Bool} {A B : List α} {x : α} (h : ∀ y ∈ A, p y = false) (hx : p x = true) : (A ++ x :: B).find? p = some x := by
  rw [List.find?_append, List.find?_eq_none.mpr (fun y hy => by rw [h y hy]; exact Bool.false_ne_true), List.find?_cons, hx]
  rfl
/-- those ahead of the j-th columns of the i-th rows -/
def upto (m w s i j : Nat) : List (List Nat × List Nat) := ((Cb.all m s).take i).flatMap (fun rs => (Cb.all w s).map fun cs => (rs, cs)) ++ ((Cb.all w s).take j).map fun cs => ((Cb.all m s)[i]?.getD [], cs)
theorem upto_zero (m w s : Nat) : upto m w s 0 0 = [] := by simp [upto]
theorem upto_full {m w s i : Nat} (hi : i < (Cb.all m s).length) : upto m w s i (Cb.all w s).length = upto m w s (i + 1) 0 := by
  unfold upto
  rw [List.take_length, List.take_zero, List.map_nil, List.append_nil, List.take_add_one, List.getElem?_eq_getElem hi, List.flatMap_append]
  simp
theorem upto_all (m w s : Nat) : upto m w s (Cb.all m s).length 0 = sq m w s := by
  unfold upto sq
  rw [List.take_length]
  simp
theorem upto_succ {m w s i j : Nat} {rs cs : List Nat} (hr : (Cb.all m s)[i]? = some rs) (hc : (Cb.all w s)[j]? = some cs) : upto m w s i (j + 1) = upto m w s i j ++ [(rs, cs)] := by
  unfold upto
  rw [List.take_add_one, hc, List.map_append, hr, List.append_assoc]
  rfl
theorem upto_new {m w s i j : Nat} {rs cs : List Nat} (hr : (Cb.all m s)[i]? = some rs) (hc : (Cb.all w s)[j]? = some cs) : (rs, cs) ∉ upto m w s i j := by
  have take_no : ∀ {l : List (List Nat)} {k : Nat} {x : List Nat}, l.Nodup → l[k]? = some x → x ∉ l.take k := fun {l k x} nd h z => by
    obtain ⟨a, ha, e⟩ := List.mem_iff_getElem.mp z
    rw [List.length_take] at ha
    have h1 := (List.getElem?_eq_some_iff.mp h)
    rw [List.getElem_take] at e
    have := (List.getElem?_inj (i := a) (j := k) (by omega) nd).mp (by rw [h, ← e]; exact List.getElem?_eq_getElem (by omega))
    omega
  intro z
  unfold upto at z
  rcases List.mem_append.mp z with h | h
  · obtain ⟨r2, hr2, h⟩ := List.mem_flatMap.mp h
    obtain ⟨c2, _, e⟩ := List.mem_map.mp h
    have e1 := (Prod.mk.inj e).1
    rw [e1] at hr2
    exact take_no (Cb.all_nodup m s) hr hr2
  · obtain ⟨c2, hc2, e⟩ := List.mem_map.mp h
    have e2 := (Prod.mk.inj e).2
    rw [e2] at hc2
    exact take_no (Cb.all_nodup w s) hc hc2
theorem sq_split {m w s i j : Nat} {rs cs : List Nat} (hr : (Cb.all m s)[i]? = some rs) (hc : (Cb.all w s)[j]? = some cs) : ∃ B, sq m w s = upto m w s i j ++ (rs, cs) :: B := by
  have hi := (List.getElem?_eq_some_iff.mp hr).1
  have hj := (List.getElem?_eq_some_iff.mp hc).1
  have e1 : Cb.all m s = (Cb.all m s).take i ++ rs :: (Cb.all m s).drop (i + 1) := by
    have h1 := (List.getElem?_eq_some_iff.mp hr).2
    conv => lhs; rw [← List.take_append_drop i (Cb.all m s)]
    rw [List.drop_eq_getElem_cons hi, h1]
  have e2 : Cb.all w s = (Cb.all w s).take j ++ cs :: (Cb.all w s).drop (j + 1) := by
    have h1 := (List.getElem?_eq_some_iff.mp hc).2
    conv => lhs; rw [← List.take_append_drop j (Cb.all w s)]
    rw [List.drop_eq_getElem_cons hj, h1]
  refine ⟨((Cb.all w s).drop (j + 1)).map (fun c => (rs, c)) ++ ((Cb.all m s).drop (i + 1)).flatMap (fun r => (Cb.all w s).map fun c => (r, c)), ?_⟩
  have e3 : sq m w s = ((Cb.all m s).take i ++ rs :: (Cb.all m s).drop (i + 1)).flatMap fun r => (Cb.all w s).map fun c => (r, c) := by
    unfold sq
    rw [← e1]
  have e4 : (Cb.all w s).map (fun c => (rs, c)) = ((Cb.all w s).take j).map (fun c => (rs, c)) ++ (rs, cs) :: ((Cb.all w s).drop (j + 1)).map (fun c => (rs, c)) := by
    conv => lhs; rw [e2]
    rw [List.map_append, List.map_cons]
  rw [e3, List.flatMap_append, List.flatMap_cons, e4]
  unfold upto
  rw [hr]
  simp [List.append_assoc]
theorem sqs_split {m w n s : Nat} (h : s < n) : ∃ B, sqs m w n = sqs m w s ++ (sq m w (s + 1) ++ B) := by
  induction n with
  | zero => omega
  | succ n ih =>
    by_cases e : s = n
    · subst e
      exact ⟨[], by rw [sqs_succ, List.append_nil]⟩
    · obtain ⟨B, hB⟩ := ih (by omega)
      exact ⟨B ++ sq m w (n + 1), by rw [sqs_succ, hB]; simp [List.append_assoc]⟩
theorem mem_sq {m w s : Nat} {rs cs : List Nat} : (rs, cs) ∈ sq m w s ↔ rs ∈ Cb.all m s ∧ cs ∈ Cb.all w s := by
  unfold sq
  rw [List.mem_flatMap]
  constructor
  · rintro ⟨r, hr, h⟩
    obtain ⟨c, hc, e⟩ := List.mem_map.mp h
    obtain ⟨rfl, rfl⟩ := Prod.mk.inj e
    exact ⟨hr, hc⟩
  · rintro ⟨hr, hc⟩
    exact ⟨rs, hr, List.mem_map.mpr ⟨cs, hc, rfl⟩⟩
theorem out_mem {w s : Nat} {cs : List Nat} {j : Nat} (h : cs ∈ Cb.all w (s + 1)) (hj : j < s + 1) : out cs j ∈ Cb.all w s := by
  obtain ⟨h1, h2, h3⟩ := Cb.mem_all.mp h
  have sl : (out cs j).Sublist cs := by
    unfold out
    have : (cs.take j ++ cs.drop (j + 1)).Sublist (cs.take j ++ cs.drop j) := (List.Sublist.refl _).append (by
      have z := List.drop_sublist 1 (cs.drop j)
      rwa [List.drop_drop] at z)
    rwa [List.take_append_drop] at this
  exact Cb.mem_all.mpr ⟨by rw [out_len (by rw [h1]; exact hj), h1, Nat.add_sub_cancel], h2.sublist sl, fun x hx => h3 x (sl.subset hx)⟩
theorem init_mem {m s : Nat} {rs : List Nat} (h : rs ∈ Cb.all m (s + 1)) : ∃ ahead r, rs = ahead ++ [r] ∧ ahead ∈ Cb.all m s ∧ r < m := by
  obtain ⟨h1, h2, h3⟩ := Cb.mem_all.mp h
  have hn : rs ≠ [] := fun z => by rw [z] at h1; simp at h1
  refine ⟨rs.dropLast, rs.getLast hn, (List.dropLast_concat_getLast hn).symm, Cb.mem_all.mpr ⟨by rw [List.length_dropLast, h1, Nat.add_sub_cancel], h2.sublist (List.dropLast_sublist _), fun x hx => h3 x ((List.dropLast_sublist _).subset hx)⟩, h3 _ (List.getLast_mem hn)⟩
end Bs
namespace SbE11
open PySem PySem.Spec PyProof.Rows L2 Evl HT 
/-! ### the text -/
def topS (i : Nat) : Stmt := PySem.Challenge.pw_signbook_k11_the_least_bad_square.main.body.getD i (.Pass ⟨0, 0, 0, 0⟩)
def clsB : Stmt → List Stmt
  | .ClassDef (body := b) .. => b
  | _ => []
abbrev s_is_whole : Stmt := topS 5
theorem sc_is_whole : FnScope ["thing"] ["thing"] (defScope s_is_whole) := ⟨rfl, rfl, rfl, by decide +kernel, rfl, by decide +kernel, by decide +kernel⟩
abbrev s_is_table : Stmt := topS 8
theorem sc_is_table : FnScope ["thing", "row"] ["thing"] (defScope s_is_table) := ⟨rfl, rfl, rfl, by decide +kernel, rfl, by decide +kernel, by decide +kernel⟩
abbrev s_is_row : Stmt := topS 9
theorem sc_is_row : FnScope ["thing", "entry"] ["thing"] (defScope s_is_row) := ⟨rfl, rfl, rfl, by decide +kernel, rfl, by decide +kernel, by decide +kernel⟩
abbrev s_check_table : Stmt := topS 10
theorem sc_check_table : FnScope ["thing"] ["thing"] (defScope s_check_table) := ⟨rfl, rfl, rfl, by decide +kernel, rfl, by decide +kernel, by decide +kernel⟩
abbrev s_shape : Stmt := topS 11
theorem sc_shape : FnScope ["table"] ["table"] (defScope s_shape) := ⟨rfl, rfl, rfl, by decide +kernel, rfl, by decide +kernel, by decide +kernel⟩
abbrev s_bad_square : Stmt := topS 13
theorem sc_bad_square : FnScope ["table", "many", "wide", "known", "size", "grown", "rows", "columns", "value"] ["table"] (defScope s_bad_square) := ⟨rfl, rfl, rfl, by decide +kernel, rfl, by decide +kernel, by decide +kernel⟩
abbrev s_is_bad : Stmt := topS 14
theorem sc_is_bad : FnScope ["value"] ["value"] (defScope s_is_bad) := ⟨rfl, rfl, rfl, by decide +kernel, rfl, by decide +kernel, by decide +kernel⟩
abbrev s_unfolded : Stmt := topS 15
theorem sc_unfolded : FnScope ["table", "rows", "columns", "known", "ahead", "last", "total", "at", "column", "entry", "part"] ["table", "rows", "columns", "known"] (defScope s_unfolded) := ⟨rfl, rfl, rfl, by decide +kernel, rfl, by decide +kernel, by decide +kernel⟩
abbrev s__law_source_of : Stmt := topS 17
theorem sc__law_source_of : FnScope ["_law_cell"] ["_law_cell"] (defScope s__law_source_of) := ⟨rfl, rfl, rfl, by decide +kernel, rfl, by decide +kernel, by decide +kernel⟩
abbrev s__law_next : Stmt := topS 18
theorem sc__law_next : FnScope ["_law_source", "_law_many", "_law_found", "_law_prime", "_law_figure"] ["_law_source", "_law_many"] (defScope s__law_next) := ⟨rfl, rfl, rfl, by decide +kernel, rfl, by decide +kernel, by decide +kernel⟩
abbrev s__law_one : Stmt := topS 19
theorem sc__law_one : FnScope ["_law_source", "_law_some"] ["_law_source", "_law_some"] (defScope s__law_one) := ⟨rfl, rfl, rfl, by decide +kernel, rfl, by decide +kernel, by decide +kernel⟩
abbrev s__law_cell_at : Stmt := topS 20
theorem sc__law_cell_at : FnScope ["_law_script", "_law_k"] ["_law_script", "_law_k"] (defScope s__law_cell_at) := ⟨rfl, rfl, rfl, by decide +kernel, rfl, by decide +kernel, by decide +kernel⟩
abbrev s__law_mixed : Stmt := topS 21
theorem sc__law_mixed : FnScope ["_law_source", "_law_some", "_law_left", "_law_found"] ["_law_source", "_law_some"] (defScope s__law_mixed) := ⟨rfl, rfl, rfl, by decide +kernel, rfl, by decide +kernel, by decide +kernel⟩
abbrev s__law_ends : Stmt := topS 22
theorem sc__law_ends : FnScope ["_law_source", "_law_many", "_law_places", "_law_found", "_law_k", "_law_two"] ["_law_source", "_law_many"] (defScope s__law_ends) := ⟨rfl, rfl, rfl, by decide +kernel, rfl, by decide +kernel, by decide +kernel⟩
abbrev s__law_net : Stmt := topS 23
theorem sc__law_net : FnScope ["_law_ends_here", "_law_arcs", "_law_far", "_law_k", "_law_begin", "_law_goal", "_law_step", "_law_other", "_law_a", "_law_b"] ["_law_ends_here", "_law_arcs"] (defScope s__law_net) := ⟨rfl, rfl, rfl, by decide +kernel, rfl, by decide +kernel, by decide +kernel⟩
abbrev s__law_net_drawn : Stmt := topS 24
theorem sc__law_net_drawn : FnScope ["_law_source", "_law_many", "_law_wide", "_law_arcs", "_law_k"] ["_law_source", "_law_many", "_law_wide"] (defScope s__law_net_drawn) := ⟨rfl, rfl, rfl, by decide +kernel, rfl, by decide +kernel, by decide +kernel⟩
abbrev s__law_stretches : Stmt := topS 25
theorem sc__law_stretches : FnScope ["_law_source", "_law_many", "_law_wide", "_law_order", "_law_found", "_law_k", "_law_start", "_law_length", "_law_column"] ["_law_source", "_law_many", "_law_wide"] (defScope s__law_stretches) := ⟨rfl, rfl, rfl, by decide +kernel, rfl, by decide +kernel, by decide +kernel⟩
abbrev s__law_swung : Stmt := topS 26
theorem sc__law_swung : FnScope ["_law_source", "_law_grid", "_law_rows", "_law_signs", "_law_found", "_law_row", "_law_sign", "_law_k", "_law_column", "_law_a", "_law_b"] ["_law_source", "_law_grid"] (defScope s__law_swung) := ⟨rfl, rfl, rfl, by decide +kernel, rfl, by decide +kernel, by decide +kernel⟩
abbrev s__law_table : Stmt := topS 27
theorem sc__law_table : FnScope ["_law_source", "_law_most", "_law_many", "_law_wide", "_law_kind", "_law_grid", "_law_k", "_law_row"] ["_law_source", "_law_most"] (defScope s__law_table) := ⟨rfl, rfl, rfl, by decide +kernel, rfl, by decide +kernel, by decide +kernel⟩
abbrev s__law_expanded : Stmt := topS 28
theorem sc__law_expanded : FnScope ["_law_grid", "_law_worth", "_law_j", "_law_entry", "_law_rest", "_law_row"] ["_law_grid"] (defScope s__law_expanded) := ⟨rfl, rfl, rfl, by decide +kernel, rfl, by decide +kernel, by decide +kernel⟩
abbrev s__law_picks : Stmt := topS 29
theorem sc__law_picks : FnScope ["_law_many", "_law_size", "_law_found", "_law_first", "_law_rest", "_law_k"] ["_law_many", "_law_size"] (defScope s__law_picks) := ⟨rfl, rfl, rfl, by decide +kernel, rfl, by decide +kernel, by decide +kernel⟩
abbrev s__law_bad : Stmt := topS 30
theorem sc__law_bad : FnScope ["_law_grid", "_law_size", "_law_rows", "_law_columns", "_law_worth", "_law_i", "_law_j"] ["_law_grid"] (defScope s__law_bad) := ⟨rfl, rfl, rfl, by decide +kernel, rfl, by decide +kernel, by decide +kernel⟩
abbrev s_law : Stmt := topS 31
theorem sc_law : FnScope ["_law_script", "_law_cell", "_law_source", "_law_grid", "_law_copy", "_law_due", "_law_heard", "_law_row"] ["_law_script"] (defScope s_law) := ⟨rfl, rfl, rfl, by decide +kernel, rfl, by decide +kernel, by decide +kernel⟩
/-- what the top has written -/
structure Txt (K : PySem.W.Frag) (mg : Str → Option Value) where
  f_is_whole : Addr
  fd_is_whole : FuncData
  F_is_whole : Fun K "is_whole" "is_whole" s_is_whole f_is_whole fd_is_whole
  g_is_whole : mg "is_whole" = some (.ref f_is_whole)
  k_is_whole : PySem.W.keepIn K (.ref f_is_whole) = true
  b_is_whole : Binds K fd_is_whole ["thing"] []
  f_is_table : Addr
  fd_is_table : FuncData
  F_is_table : Fun K "is_table" "is_table" s_is_table f_is_table fd_is_table
  g_is_table : mg "is_table" = some (.ref f_is_table)
  k_is_table : PySem.W.keepIn K (.ref f_is_table) = true
  b_is_table : Binds K fd_is_table ["thing"] []
  f_is_row : Addr
  fd_is_row : FuncData
  F_is_row : Fun K "is_row" "is_row" s_is_row f_is_row fd_is_row
  g_is_row : mg "is_row" = some (.ref f_is_row)
  k_is_row : PySem.W.keepIn K (.ref f_is_row) = true
  b_is_row : Binds K fd_is_row ["thing"] []
  f_check_table : Addr
  fd_check_table : FuncData
  F_check_table : Fun K "check_table" "check_table" s_check_table f_check_table fd_check_table
  g_check_table : mg "check_table" = some (.ref f_check_table)
  k_check_table : PySem.W.keepIn K (.ref f_check_table) = true
  b_check_table : Binds K fd_check_table ["thing"] []
  f_shape : Addr
  fd_shape : FuncData
  F_shape : Fun K "shape" "shape" s_shape f_shape fd_shape
  g_shape : mg "shape" = some (.ref f_shape)
  k_shape : PySem.W.keepIn K (.ref f_shape) = true
  b_shape : Binds K fd_shape ["table"] []
  f_bad_square : Addr
  fd_bad_square : FuncData
  F_bad_square : Fun K "bad_square" "bad_square" s_bad_square f_bad_square fd_bad_square
  g_bad_square : mg "bad_square" = some (.ref f_bad_square)
  k_bad_square : PySem.W.keepIn K (.ref f_bad_square) = true
  b_bad_square : Binds K fd_bad_square ["table"] []
  f_is_bad : Addr
  fd_is_bad : FuncData
  F_is_bad : Fun K "is_bad" "is_bad" s_is_bad f_is_bad fd_is_bad
  g_is_bad : mg "is_bad" = some (.ref f_is_bad)
  k_is_bad : PySem.W.keepIn K (.ref f_is_bad) = true
  b_is_bad : Binds K fd_is_bad ["value"] []
  f_unfolded : Addr
  fd_unfolded : FuncData
  F_unfolded : Fun K "unfolded" "unfolded" s_unfolded f_unfolded fd_unfolded
  g_unfolded : mg "unfolded" = some (.ref f_unfolded)
  k_unfolded : PySem.W.keepIn K (.ref f_unfolded) = true
  b_unfolded : Binds K fd_unfolded ["table", "rows", "columns", "known"] []
  f__law_source_of : Addr
  fd__law_source_of : FuncData
  F__law_source_of : Fun K "_law_source_of" "_law_source_of" s__law_source_of f__law_source_of fd__law_source_of
  g__law_source_of : mg "_law_source_of" = some (.ref f__law_source_of)
  k__law_source_of : PySem.W.keepIn K (.ref f__law_source_of) = true
  b__law_source_of : Binds K fd__law_source_of ["_law_cell"] []
  f__law_next : Addr
  fd__law_next : FuncData
  F__law_next : Fun K "_law_next" "_law_next" s__law_next f__law_next fd__law_next
  g__law_next : mg "_law_next" = some (.ref f__law_next)
  k__law_next : PySem.W.keepIn K (.ref f__law_next) = true
  b__law_next : Binds K fd__law_next ["_law_source", "_law_many"] []
  f__law_one : Addr
  fd__law_one : FuncData
  F__law_one : Fun K "_law_one" "_law_one" s__law_one f__law_one fd__law_one
  g__law_one : mg "_law_one" = some (.ref f__law_one)
  k__law_one : PySem.W.keepIn K (.ref f__law_one) = true
  b__law_one : Binds K fd__law_one ["_law_source", "_law_some"] []
  f__law_cell_at : Addr
  fd__law_cell_at : FuncData
  F__law_cell_at : Fun K "_law_cell_at" "_law_cell_at" s__law_cell_at f__law_cell_at fd__law_cell_at
  g__law_cell_at : mg "_law_cell_at" = some (.ref f__law_cell_at)
  k__law_cell_at : PySem.W.keepIn K (.ref f__law_cell_at) = true
  b__law_cell_at : Binds K fd__law_cell_at ["_law_script", "_law_k"] []
  f__law_mixed : Addr
  fd__law_mixed : FuncData
  F__law_mixed : Fun K "_law_mixed" "_law_mixed" s__law_mixed f__law_mixed fd__law_mixed
  g__law_mixed : mg "_law_mixed" = some (.ref f__law_mixed)
  k__law_mixed : PySem.W.keepIn K (.ref f__law_mixed) = true
  b__law_mixed : Binds K fd__law_mixed ["_law_source", "_law_some"] []
  f__law_ends : Addr
  fd__law_ends : FuncData
  F__law_ends : Fun K "_law_ends" "_law_ends" s__law_ends f__law_ends fd__law_ends
  g__law_ends : mg "_law_ends" = some (.ref f__law_ends)
  k__law_ends : PySem.W.keepIn K (.ref f__law_ends) = true
  b__law_ends : Binds K fd__law_ends ["_law_source", "_law_many"] []
  f__law_net : Addr
  fd__law_net : FuncData
  F__law_net : Fun K "_law_net" "_law_net" s__law_net f__law_net fd__law_net
  g__law_net : mg "_law_net" = some (.ref f__law_net)
  k__law_net : PySem.W.keepIn K (.ref f__law_net) = true
  b__law_net : Binds K fd__law_net ["_law_ends_here", "_law_arcs"] []
  f__law_net_drawn : Addr
  fd__law_net_drawn : FuncData
  F__law_net_drawn : Fun K "_law_net_drawn" "_law_net_drawn" s__law_net_drawn f__law_net_drawn fd__law_net_drawn
  g__law_net_drawn : mg "_law_net_drawn" = some (.ref f__law_net_drawn)
  k__law_net_drawn : PySem.W.keepIn K (.ref f__law_net_drawn) = true
  b__law_net_drawn : Binds K fd__law_net_drawn ["_law_source", "_law_many", "_law_wide"] []
  f__law_stretches : Addr
  fd__law_stretches : FuncData
  F__law_stretches : Fun K "_law_stretches" "_law_stretches" s__law_stretches f__law_stretches fd__law_stretches
  g__law_stretches : mg "_law_stretches" = some (.ref f__law_stretches)
  k__law_stretches : PySem.W.keepIn K (.ref f__law_stretches) = true
  b__law_stretches : Binds K fd__law_stretches ["_law_source", "_law_many", "_law_wide"] []
  f__law_swung : Addr
  fd__law_swung : FuncData
  F__law_swung : Fun K "_law_swung" "_law_swung" s__law_swung f__law_swung fd__law_swung
  g__law_swung : mg "_law_swung" = some (.ref f__law_swung)
  k__law_swung : PySem.W.keepIn K (.ref f__law_swung) = true
  b__law_swung : Binds K fd__law_swung ["_law_source", "_law_grid"] []
  f__law_table : Addr
  fd__law_table : FuncData
  F__law_table : Fun K "_law_table" "_law_table" s__law_table f__law_table fd__law_table
  g__law_table : mg "_law_table" = some (.ref f__law_table)
  k__law_table : PySem.W.keepIn K (.ref f__law_table) = true
  b__law_table : Binds K fd__law_table ["_law_source", "_law_most"] []
  f__law_expanded : Addr
  fd__law_expanded : FuncData
  F__law_expanded : Fun K "_law_expanded" "_law_expanded" s__law_expanded f__law_expanded fd__law_expanded
  g__law_expanded : mg "_law_expanded" = some (.ref f__law_expanded)
  k__law_expanded : PySem.W.keepIn K (.ref f__law_expanded) = true
  b__law_expanded : Binds K fd__law_expanded ["_law_grid"] []
  f__law_picks : Addr
  fd__law_picks : FuncData
  F__law_picks : Fun K "_law_picks" "_law_picks" s__law_picks f__law_picks fd__law_picks
  g__law_picks : mg "_law_picks" = some (.ref f__law_picks)
  k__law_picks : PySem.W.keepIn K (.ref f__law_picks) = true
  b__law_picks : Binds K fd__law_picks ["_law_many", "_law_size"] []
  f__law_bad : Addr
  fd__law_bad : FuncData
  F__law_bad : Fun K "_law_bad" "_law_bad" s__law_bad f__law_bad fd__law_bad
  g__law_bad : mg "_law_bad" = some (.ref f__law_bad)
  k__law_bad : PySem.W.keepIn K (.ref f__law_bad) = true
  b__law_bad : Binds K fd__law_bad ["_law_grid"] []
  f_law : Addr
  fd_law : FuncData
  F_law : Fun K "law" "law" s_law f_law fd_law
  g_law : mg "law" = some (.ref f_law)
  k_law : PySem.W.keepIn K (.ref f_law) = true
  b_law : Binds K fd_law ["_law_script"] []
  t_MOST : Tok
  g_MOST : mg "MOST" = some (.int 8 t_MOST)
  g_combinations : mg "combinations" = some (.type "itertools.combinations")
  n_all : mg "all" = none
  n_bool : mg "bool" = none
  n_enumerate : mg "enumerate" = none
  n_int : mg "int" = none
  n_isinstance : mg "isinstance" = none
  n_len : mg "len" = none
  n_list : mg "list" = none
  n_min : mg "min" = none
  n_range : mg "range" = none
  n_tuple : mg "tuple" = none
  n_zip : mg "zip" = none
/-! ### numbers -/
def Bd (n : Nat) (i : Int) : Prop := i.natAbs < 2 ^ n
theorem Bd.mono {a b : Nat} {i : Int} (h : Bd a i) (hab : a ≤ b) : Bd b i := Nat.lt_of_lt_of_le h (Nat.pow_le_pow_right (by decide) hab)
theorem Bd.mul {a b : Nat} {i j : Int} (h : Bd a i) (g : Bd b j) : Bd (a + b) (i * j) := wide_lt h g
theorem Bd.add {a : Nat} {i j : Int} (h : Bd a i) (g : Bd a j) : Bd (a + 1) (i + j) := by
  have h1 : i.natAbs < 2 ^ a := h
  have h2 : j.natAbs < 2 ^ a := g
  show (i + j).natAbs < 2 ^ (a + 1)
  rw [Nat.pow_succ]
  omega
theorem Bd.sub {a : Nat} {i j : Int} (h : Bd a i) (g : Bd a j) : Bd (a + 1) (i - j) := by
  have h1 : i.natAbs < 2 ^ a := h
  have h2 : j.natAbs < 2 ^ a := g
  show (i - j).natAbs < 2 ^ (a + 1)
  rw [Nat.pow_succ]
  omega
theorem Bd.neg {a : Nat} {i : Int} (h : Bd a i) : Bd a (-i) := by
  show (-i).natAbs < 2 ^ a
  rw [Int.natAbs_neg]
  exact h
theorem Bd.abs {a : Nat} {i j : Int} (h : Bd a i) (e : j.natAbs ≤ i.natAbs) : Bd a j := Nat.lt_of_le_of_lt e h
theorem Bd.mulOk {a b : Nat} {i j : Int} (h : Bd a i) (g : Bd b j) (h0 : 0 < a := by decide) (h1 : 0 < b := by decide) (hs : a + b ≤ 1000000 := by decide) : CMulW i j := wide_mul h g h0 h1 hs
theorem Bd.divOk {b : Nat} {i j : Int} (h : 0 < j) (g : Bd b j) (h0 : 0 < b := by decide) (h9 : b ≤ 9000 := by decide) : CDivW i j := wide_div h g h0 h9
/-- // by a divisor other than 0 below 2 ^ 9000 -/
def CDivNW (_ j : Int) : Prop := j ≠ 0 ∧ j.natAbs.log2 < 9000
theorem Bd.divNOk {b : Nat} {i j : Int} (h : j ≠ 0) (g : Bd b j) (h0 : 0 < b := by decide) (h9 : b ≤ 9000 := by decide) : CDivNW i j := ⟨h, Nat.lt_of_lt_of_le (PySem.Flt.log2_lt_of h0 g) h9⟩
theorem op_fdivNW {X : Cx} : OpR X (binaryOp .FloorDiv) (rI CDivNW fun i j => .int (i.fdiv j)) := opI fun _ _ _ _ _ _ _ hc q => floordiv_int hc.1 q (.inl (PyProof.noPylong_of_log2 hc.2))
/-! ### heaps -/
/-- all but what stands at s is as it was -/
def ExB (s : Addr) (H H' : Hp) : Prop := ∀ b o, b ≠ s → H b = some o → H' b = some o
theorem ExB.trans {s : Addr} {H H1 H2 : Hp} (a : ExB s H H1) (b : ExB s H1 H2) : ExB s H H2 := fun c o n h => b c o n (a c o n h)
theorem ExB.refl (s : Addr) (H : Hp) : ExB s H H := fun _ _ _ h => h
theorem ExB.of {s : Addr} {H H1 : Hp} (a : Ex H H1) : ExB s H H1 := fun c o _ h => a c o h
theorem ExB.ex {s : Addr} {H H1 H2 : Hp} (a : ExB s H1 H2) (n : H s = none) (e : Ex H H1) : Ex H H2 := fun b o h => a b o (ne_of_none h n) (e b o h)
theorem ExB.upd (s : Addr) (H : Hp) (o : HO) : ExB s H (upd H s o) := fun b u n h => by
  rw [upd_ne n]
  exact h
theorem Ex.updB {s : Addr} {H H' : Hp} {o : HO} (e : Ex H H') : ExB s H (upd H' s o) := fun b u n h => by
  rw [upd_ne n]
  exact e b u h
/-- the source of a law's numbers: n at least the numbers made so far -/
def SrcAt (H : Hp) (s : Addr) (n : Int) : Prop := ∃ p q r : Int, H s = some (.lst [.int p, .int q, .int r]) ∧ 0 ≤ q ∧ q < 2147483647 ∧ 0 ≤ r ∧ r ≤ n
theorem SrcAt.ex {H H' : Hp} {s : Addr} {n : Int} (h : SrcAt H s n) (e : Ex H H') : SrcAt H' s n := by
  obtain ⟨p, q, r, h1, h2⟩ := h
  exact ⟨p, q, r, e _ _ h1, h2⟩
theorem SrcAt.exB {H H' : Hp} {s t : Addr} {n : Int} (h : SrcAt H s n) (e : ExB t H H') (ne : s ≠ t) : SrcAt H' s n := by
  obtain ⟨p, q, r, h1, h2⟩ := h
  exact ⟨p, q, r, e _ _ ne h1, h2⟩
theorem SrcAt.le {H : Hp} {s : Addr} {n m : Int} (h : SrcAt H s n) (e : n ≤ m) : SrcAt H s m := by
  obtain ⟨p, q, r, h1, h2, h3, h4, h5⟩ := h
  exact ⟨p, q, r, h1, h2, h3, h4, by omega⟩
theorem SrcAt.obj {H : Hp} {s : Addr} {n : Int} (h : SrcAt H s n) : ∃ o, H s = some o := by
  obtain ⟨p, q, r, h1, _⟩ := h
  exact ⟨_, h1⟩
/-- classes that is_whole is asked about -/
def tyOk (t : String) : Prop := t = "int" ∨ t = "bool" ∨ t = "NoneType" ∨ t = "str" ∨ t = "tuple" ∨ t = "list" ∨ t = "dict"
theorem ty_int {t : String} (h : tyOk t) : kitB t "int" = some (t == "int" || t == "bool") := by
  rcases h with rfl | rfl | rfl | rfl | rfl | rfl | rfl <;> decide +kernel
theorem ty_bool {t : String} (h : tyOk t) : kitB t "bool" = some (t == "bool") := by
  rcases h with rfl | rfl | rfl | rfl | rfl | rfl | rfl <;> decide +kernel
theorem ty_tuple {t : String} (h : tyOk t) : kitB t "tuple" = some (t == "tuple") := by
  rcases h with rfl | rfl | rfl | rfl | rfl | rfl | rfl <;> decide +kernel
theorem ty_list {t : String} (h : tyOk t) : kitB t "list" = some (t == "list") := by
  rcases h with rfl | rfl | rfl | rfl | rfl | rfl | rfl <;> decide +kernel
theorem prime_at (r : Int) (h : 0 ≤ r) : ∃ p : Int, atI [V.int 2147483647, V.int 2147483629, V.int 2147483587, V.int 2147483579, V.int 2147483563, V.int 2147483549, V.int 2147483543] (r % 7) = some (.int p) ∧ 0 < p ∧ p ≤ 2147483647 := by
  have h1 : 0 ≤ r % 7 := Int.emod_nonneg _ (by decide)
  have h2 : r % 7 < 7 := Int.emod_lt_of_pos _ (by decide)
  generalize r % 7 = k at h1 h2
  have hk : k = 0 ∨ k = 1 ∨ k = 2 ∨ k = 3 ∨ k = 4 ∨ k = 5 ∨ k = 6 := by omega
  rcases hk with rfl | rfl | rfl | rfl | rfl | rfl | rfl <;> exact ⟨_, rfl, by decide, by decide⟩
/-! ### data, lists, tables -/
mutual
theorem dp_mono {K : PySem.W.Frag} {H H' : Hp} (h : ∀ a xs, SqL K H a xs → SqL K H' a xs) (h2 : ∀ a xs, SqT K H a xs → SqT K H' a xs) : ∀ {v : V} {d : PyData}, Dp K H v d → Dp K H' v d
  | _, _, .non => .non
  | _, _, .bl b => .bl b
  | _, _, .int i => .int i
  | _, _, .str x => .str x
  | _, _, .lst a b => .lst (h _ _ a) (dpAll_mono h h2 b)
  | _, _, .tup a b => .tup (h2 _ _ a) (dpAll_mono h h2 b)
theorem dpAll_mono {K : PySem.W.Frag} {H H' : Hp} (h : ∀ a xs, SqL K H a xs → SqL K H' a xs) (h2 : ∀ a xs, SqT K H a xs → SqT K H' a xs) : ∀ {vs : List V} {ds : List PyData}, DpAll K H vs ds → DpAll K H' vs ds
  | _, _, .nil => .nil
  | _, _, .cons a b => .cons (dp_mono h h2 a) (dpAll_mono h h2 b)
end
theorem dp_ex {K : PySem.W.Frag} {H H' : Hp} (e : Ex H H') {v : V} {d : PyData} (h : Dp K H v d) : Dp K H' v d := dp_mono (fun _ _ => ex_l e) (fun _ _ => ex_t e) h
theorem dpAll_ex {K : PySem.W.Frag} {H H' : Hp} (e : Ex H H') {v : List V} {d : List PyData} (h : DpAll K H v d) : DpAll K H' v d := dpAll_mono (fun _ _ => ex_l e) (fun _ _ => ex_t e) h
def NiceD (d : PyData) : Prop := d.canLay0 = true ∧ d.depth ≤ 8
/-- v is data, whatever becomes of the object at s -/
def DatV (K : PySem.W.Frag) (H : Hp) (s : Addr) (v : V) : Prop := ∀ H', ExB s H H' → ∃ d, Dp K H' v d ∧ NiceD d
theorem DatV.exB {K : PySem.W.Frag} {H H' : Hp} {s : Addr} {v : V} (h : DatV K H s v) (e : ExB s H H') : DatV K H' s v := fun H2 e2 => h H2 (e.trans e2)
theorem datv_int {K : PySem.W.Frag} {H : Hp} {s : Addr} (i : Int) : DatV K H s (.int i) := fun _ _ => ⟨_, .int i, rfl, Nat.zero_le _⟩
theorem datv_pair {K : PySem.W.Frag} {H : Hp} {s a : Addr} {x y : Int} (h : H a = some (.tup [.int x, .int y])) (n : a ≠ s) : DatV K H s (.ref a) := fun H' e =>
  ⟨_, .tup (SqT.of (e _ _ n h)) (.cons (.int x) (.cons (.int y) .nil)), rfl, Nat.le_of_ble_eq_true rfl⟩
theorem dpAll_ints {K : PySem.W.Frag} {H : Hp} : ∀ ns : List Int, DpAll K H (ns.map V.int) (ns.map PyData.int)
  | [] => .nil
  | n :: r => .cons (.int n) (dpAll_ints r)
theorem canLay_ints : ∀ ns : List Int, PyData.canLayAll0 (ns.map PyData.int) = true
  | [] => rfl
  | n :: r => by
    show (true && PyData.canLayAll0 (r.map PyData.int)) = true
    rw [canLay_ints r]
    rfl
theorem depth_ints : ∀ ns : List Int, PyData.depthAll (ns.map PyData.int) = 0
  | [] => rfl
  | n :: r => by
    show max 0 (PyData.depthAll (r.map PyData.int)) = 0
    rw [depth_ints r]
    rfl
theorem datv_row {K : PySem.W.Frag} {H : Hp} {s a : Addr} {ns : List Int} (h : H a = some (.lst (ns.map V.int))) (n : a ≠ s) : DatV K H s (.ref a) := fun H' e =>
  ⟨_, .lst (SqL.of (e _ _ n h)) (dpAll_ints ns), canLay_ints ns, by
    show PyData.depthAll (ns.map PyData.int) + 1 ≤ 8
    rw [depth_ints]
    decide⟩
theorem dat_all {K : PySem.W.Frag} {H : Hp} {s : Addr} : ∀ {xs : List V}, (∀ v ∈ xs, DatV K H s v) → ∃ ds, DpAll K H xs ds ∧ PyData.canLayAll0 ds = true ∧ PyData.depthAll ds ≤ 8
  | [], _ => ⟨[], .nil, rfl, by decide⟩
  | x :: xs, h => by
    obtain ⟨d, h1, h2, h3⟩ := h x (List.mem_cons_self ..) H (ExB.refl _ _)
    obtain ⟨ds, g1, g2, g3⟩ := dat_all (xs := xs) fun v hv => h v (List.mem_cons_of_mem _ hv)
    refine ⟨d :: ds, .cons h1 g1, ?_, ?_⟩
    · show (d.canLay0 && PyData.canLayAll0 ds) = true
      rw [h2, g2]
      rfl
    · show max d.depth (PyData.depthAll ds) ≤ 8
      omega
theorem shaped_list {ds : List PyData} (h : PyData.canLayAll0 ds = true) (h2 : PyData.depthAll ds ≤ 60) : SeqAt.shaped (.list ds) = true := by
  unfold SeqAt.shaped
  have e1 : (PyData.list ds).canLay0 = true := h
  have e2 : (PyData.list ds).depth ≤ 64 := by
    show PyData.depthAll ds + 1 ≤ 64
    omega
  rw [e1, decide_eq_true e2]
  rfl
theorem eqv_nil (ds : List PyData) : PyData.eqv (.list ds) (.list []) = ds.isEmpty := by
  cases ds <;> rfl
theorem Paired.perm {α β : Type} {R : α → β → Prop} {xs xs' : List α} (hp : xs'.Perm xs) : ∀ {ys : List β}, Paired R xs ys → ∃ ys', ys'.Perm ys ∧ Paired R xs' ys' := by
  induction hp with
  | nil => intro ys h; exact ⟨ys, .refl _, h⟩
  | cons x _ ih =>
    intro ys h
    cases h with
    | cons r t =>
      obtain ⟨ys', p, q⟩ := ih t
      exact ⟨_ :: ys', p.cons _, .cons r q⟩
  | swap x y l =>
    intro ys h
    cases h with
    | cons r t =>
      cases t with
      | cons r2 t2 => exact ⟨_, List.Perm.swap .., .cons r2 (.cons r t2)⟩
  | trans _ _ ih1 ih2 =>
    intro ys h
    obtain ⟨y1, p1, q1⟩ := ih2 h
    obtain ⟨y2, p2, q2⟩ := ih1 q1
    exact ⟨y2, p2.trans p1, q2⟩
theorem fresh_B {s p : Addr} {H H' : Hp} (e : ExB s H H') (hp : H' p = none) (hs : ∃ o, H' s = some o) : H p = none := by
  cases q : H p with
  | none => rfl
  | some o =>
    by_cases h : p = s
    · subst h
      obtain ⟨o', ho'⟩ := hs
      rw [ho'] at hp
      cases hp
    · rw [e p o h q] at hp
      cases hp
theorem SrcAt.ne {H : Hp} {s p : Addr} {n : Int} (h : SrcAt H s n) (hp : H p = none) : p ≠ s := by
  intro e
  subst e
  obtain ⟨o, ho⟩ := h.obj
  rw [ho] at hp
  cases hp
theorem SrcAt.neT {H : Hp} {s p : Addr} {n : Int} {xs : List V} (h : SrcAt H s n) (hp : H p = some (.tup xs)) : p ≠ s := by
  intro e
  subst e
  obtain ⟨_, _, _, ho, _⟩ := h
  rw [ho] at hp
  cases hp
theorem ExB.l {K : PySem.W.Frag} {s a : Addr} {H H' : Hp} {xs : List V} (e : ExB s H H') (n : a ≠ s) (h : SqL K H a xs) : SqL K H' a xs := by
  rcases h with (h | ⟨o, h⟩) | h
  · exact .inl (.inl (e _ _ n h))
  · exact .inl (.inr ⟨o, e _ _ n h⟩)
  · exact .inr h
theorem seqIx {i n : Int} {k : Nat} (h0 : 0 ≤ i) (h1 : i < (k : Int)) : seqIndex? i k = some i.toNat := by
  unfold seqIndex?
  split <;> simp_all <;> omega
theorem erase_perm {α : Type} : ∀ {ls : List α} {k : Nat} {y : α}, ls[k]? = some y → (y :: ls.eraseIdx k).Perm ls
  | [], _, _, h => by simp at h
  | a :: l, 0, y, h => by
    have e := Option.some.inj h
    subst e
    exact .refl _
  | a :: l, k + 1, y, h => (List.Perm.swap a y _).trans ((erase_perm (ls := l) (k := k) h).cons a)
theorem perm_pop {α : Type} {fs ls : List α} {k : Nat} {y : α} (h : ls[k]? = some y) : ((fs ++ [y]) ++ ls.eraseIdx k).Perm (fs ++ ls) := by
  have h1 := erase_perm h
  rw [List.append_assoc]
  exact List.Perm.append_left fs h1
/-- the table at p: its rows at the places as -/
def RowsAt (H : Hp) : List Addr → List (List Int) → Prop := Paired fun a r => H a = some (.lst (r.map V.int))
def Tab (H : Hp) (p : Addr) (as : List Addr) (rows : List (List Int)) : Prop := H p = some (.lst (as.map V.ref)) ∧ RowsAt H as rows
theorem RowsAt.ex {H H' : Hp} (e : Ex H H') : ∀ {as : List Addr} {rows : List (List Int)}, RowsAt H as rows → RowsAt H' as rows
  | _, _, .nil => .nil
  | _, _, .cons h t => .cons (e _ _ h) (RowsAt.ex e t)
theorem Tab.ex {H H' : Hp} {p : Addr} {as : List Addr} {rows : List (List Int)} (h : Tab H p as rows) (e : Ex H H') : Tab H' p as rows := ⟨e _ _ h.1, h.2.ex e⟩
/-! ### edges -/
def EdgesAt (H : Hp) : List Addr → List (Int × Int) → Prop := Paired fun a e => H a = some (.tup [.int e.1, .int e.2])
theorem paired_imp {α β : Type} {R R' : α → β → Prop} (h : ∀ a b, R a b → R' a b) : ∀ {xs : List α} {ys : List β}, Paired R xs ys → Paired R' xs ys
  | _, _, .nil => .nil
  | _, _, .cons r t => .cons (h _ _ r) (paired_imp h t)
theorem EdgesAt.mono {H H' : Hp} {as : List Addr} {es : List (Int × Int)} (h : ∀ a xs, H a = some (.tup xs) → H' a = some (.tup xs)) (x : EdgesAt H as es) : EdgesAt H' as es := paired_imp (fun _ _ r => h _ _ r) x
theorem tups_B {H H' : Hp} {s : Addr} {n : Int} (hs : SrcAt H s n) (e : ExB s H H') : ∀ a xs, H a = some (.tup xs) → H' a = some (.tup xs) := fun a _ h => e a _ (hs.neT h) h
theorem tups_E {H H' : Hp} (e : Ex H H') : ∀ a xs, H a = some (.tup xs) → H' a = some (.tup xs) := fun a _ h => e a _ h
theorem tups_U {H : Hp} {l : Addr} {xs : List V} {o : HO} (h : H l = some (.lst xs)) : ∀ a ys, H a = some (.tup ys) → upd H l o a = some (.tup ys) := fun a ys g => by
  rw [upd_ne (ne_of g h (by intro z; cases z))]
  exact g
def Conn (es : List (Int × Int)) (m : Int) : Prop := ∀ S : Int → Bool, (∀ e ∈ es, S e.1 = S e.2) → ∀ a b, 0 ≤ a → a ≤ m → 0 ≤ b → b ≤ m → S a = S b
theorem Conn.perm {es es' : List (Int × Int)} {m : Int} (h : Conn es m) (p : es'.Perm es) : Conn es' m := fun S hS => h S fun e he => hS e (p.mem_iff.mpr he)
def EdgeTree (pl : List Int) (es : List (Int × Int)) : Prop := ∀ j, j < es.length → ∃ i a b, i ≤ j ∧ pl[i]? = some a ∧ pl[j + 1]? = some b ∧ (es[j]? = some (a, b) ∨ es[j]? = some (b, a))
theorem EdgeTree.more {pl : List Int} {es : List (Int × Int)} {e : Int × Int} {i : Nat} {a b : Int} (h : EdgeTree pl es) (hi : i ≤ es.length) (ha : pl[i]? = some a) (hb : pl[es.length + 1]? = some b) (he : e = (a, b) ∨ e = (b, a)) : EdgeTree pl (es ++ [e]) := by
  intro j hj
  rw [List.length_append] at hj
  have hj' : j < es.length + 1 := hj
  by_cases h1 : j < es.length
  · obtain ⟨i', a', b', x1, x2, x3, x4⟩ := h j h1
    refine ⟨i', a', b', x1, x2, x3, ?_⟩
    rw [List.getElem?_append_left h1]
    exact x4
  · have h2 : j = es.length := by omega
    subst h2
    refine ⟨i, a, b, hi, ha, hb, ?_⟩
    rw [List.getElem?_append_right (Nat.le_refl _), Nat.sub_self]
    rcases he with rfl | rfl
    · exact .inl rfl
    · exact .inr rfl
theorem EdgeTree.conn {pl : List Int} {es : List (Int × Int)} {m : Nat} (h : EdgeTree pl es) (hl : es.length = m) (hp : pl.length = m + 1) (hall : ∀ a : Int, 0 ≤ a → a ≤ m → a ∈ pl) : Conn es m := by
  intro S hS
  have key : ∀ j : Nat, ∀ j' : Nat, j' ≤ j → ∀ a, pl[j']? = some a → ∀ z, pl[0]? = some z → S a = S z := by
    intro j
    induction j with
    | zero =>
      intro j' hj' a ha z hz
      have : j' = 0 := by omega
      subst this
      rw [hz] at ha
      rw [Option.some.inj ha]
    | succ j ih =>
      intro j' hj' a ha z hz
      by_cases h1 : j' ≤ j
      · exact ih j' h1 a ha z hz
      · have h2 : j' = j + 1 := by omega
        subst h2
        have hlt : j + 1 < pl.length := (List.getElem?_eq_some_iff.mp ha).1
        obtain ⟨i, x, y, hi, hx, hy, he⟩ := h j (by omega)
        rw [ha] at hy
        have ey := Option.some.inj hy
        subst ey
        have hSe : S x = S a := by
          rcases he with he | he
          · exact hS (x, a) (List.mem_of_getElem? he)
          · exact (hS (a, x) (List.mem_of_getElem? he)).symm
        rw [← hSe]
        exact ih i hi x hx z hz
  intro a b ha ha' hb hb'
  obtain ⟨i, hi⟩ := List.getElem?_of_mem (hall a ha ha')
  obtain ⟨j, hj⟩ := List.getElem?_of_mem (hall b hb hb')
  have hz : ∃ z, pl[0]? = some z := ⟨_, List.getElem?_eq_getElem (by omega)⟩
  obtain ⟨z, hz⟩ := hz
  rw [key i i (Nat.le_refl _) a hi z hz, key j j (Nat.le_refl _) b hj z hz]
theorem paired_map {α β : Type} {R : α → β → Prop} (f : β → α) (h : ∀ b, R (f b) b) : ∀ ys : List β, Paired R (ys.map f) ys
  | [] => .nil
  | b :: r => .cons (h b) (paired_map f h r)
theorem paired_eq_map {α β : Type} {f : β → α} : ∀ {xs : List α} {ys : List β}, Paired (fun x y => x = f y) xs ys → xs = ys.map f
  | _, _, .nil => rfl
  | _, _, .cons r t => by rw [r, paired_eq_map t]; rfl
theorem perm_ints {ys : List V} {ns : List Int} (h : ys.Perm (ns.map V.int)) : ∃ pl : List Int, ys = pl.map V.int ∧ pl.Perm ns := by
  obtain ⟨pl, p, q⟩ := Paired.perm (R := fun (x : V) y => x = V.int y) h (paired_map V.int (fun _ => rfl) ns)
  exact ⟨pl, paired_eq_map q, p⟩
theorem perm_refs {β : Type} {R : Addr → β → Prop} {ys : List V} {as : List Addr} {es : List β} (h : ys.Perm (as.map V.ref)) (hx : Paired R as es) : ∃ (as' : List Addr) (es' : List β), ys = as'.map V.ref ∧ es'.Perm es ∧ Paired R as' es' ∧ as'.Perm as := by
  obtain ⟨as', p, q⟩ := Paired.perm (R := fun (x : V) y => x = V.ref y) h (paired_map V.ref (fun _ => rfl) as)
  obtain ⟨es', p2, q2⟩ := Paired.perm p hx
  exact ⟨as', es', paired_eq_map q, p2, q2, p⟩
def numsTo (m : Nat) : List Int := (List.range m).map fun i : Nat => (i : Int)
theorem rgV_nums (m : Int) : rgV 0 m = (numsTo m.toNat).map V.int := by
  unfold rgV numsTo
  rw [List.map_map, Int.sub_zero]
  refine List.map_congr_left fun i _ => ?_
  show V.int (0 + (i : Int)) = V.int (i : Int)
  rw [Int.zero_add]
theorem mem_numsTo {m : Nat} {a : Int} : a ∈ numsTo m ↔ 0 ≤ a ∧ a < m := by
  unfold numsTo
  rw [List.mem_map]
  constructor
  · rintro ⟨i, hi, rfl⟩
    have := List.mem_range.mp hi
    omega
  · rintro ⟨h0, h1⟩
    exact ⟨a.toNat, List.mem_range.mpr (by omega), by omega⟩
theorem numsTo_length (m : Nat) : (numsTo m).length = m := by
  unfold numsTo
  rw [List.length_map, List.length_range]
theorem paired_snoc {α β : Type} {R : α → β → Prop} {a : α} {b : β} {xs : List α} {ys : List β} (h : Paired R xs ys) (r : R a b) : Paired R (xs ++ [a]) (ys ++ [b]) := Paired.snoc h r
theorem paired_mem {α β : Type} {R : α → β → Prop} : ∀ {xs : List α} {ys : List β} {x : α}, Paired R xs ys → x ∈ xs → ∃ y, y ∈ ys ∧ R x y
  | _, _, _, .nil, h => by simp at h
  | _, _, x, .cons (a := a) r t, h => by
    rcases List.mem_cons.mp h with e | h
    · subst e
      exact ⟨_, List.mem_cons_self .., r⟩
    · obtain ⟨y, hy, hr⟩ := paired_mem t h
      exact ⟨y, List.mem_cons_of_mem _ hy, hr⟩
/-! ### loops and comprehensions over more -/
theorem for_enum {K : PySem.W.Frag} {a : Addr} {xs : List V} {g : TG} {tb : TS} {D : Ends} {σ : L2.St} {H : Hp} (Pv : Nat → L2.St → Hp → Prop) (h0 : Pv 0 σ H) (hq : ∀ i σ H, Pv i σ H → SqL K H a xs)
    (hs : ∀ (i : Nat) (x : V) (T : Addr) (σ : L2.St) (H : Hp), xs[i]? = some x → Pv i σ H → H T = none → g (.ref T) σ (upd H T (.tup [.int (i : Nat), x])) fun σ2 H2 => tb { D with nx := Pv (i + 1), ct := Pv (i + 1), bk := D.nx } σ2 H2) (hd : ∀ σ H, Pv xs.length σ H → D.nx σ H) :
    ∃ W : Nat → Nat → L2.St → Hp → Prop, (∃ m, W 0 m σ H) ∧ ∀ i m σ H, W i m σ H →
      ((Ite K a).stop i H ∧ D.nx σ H) ∨ ((Ite K a).go i H ∧ ∃ N : L2.St → Hp → Prop, (∀ σ' H', N σ' H' → ∃ m', m' < m ∧ W (i + 1) m' σ' H') ∧ ∀ v H', (Ite K a).yld i H v H' → g v σ H' fun σ2 H2 => tb { D with nx := N, ct := N, bk := D.nx } σ2 H2) := by
  refine ⟨fun i m σ H => m = xs.length - i ∧ i ≤ xs.length ∧ Pv i σ H, ⟨xs.length, rfl, Nat.zero_le _, h0⟩, ?_⟩
  rintro i m σ H ⟨rfl, hi, p⟩
  have qx := hq i σ H p
  by_cases hlt : i < xs.length
  · have hx : xs[i]? = some xs[i] := List.getElem?_eq_getElem hlt
    refine .inr ⟨⟨xs, _, qx, hx⟩, Pv (i + 1), fun σ' H' p' => ⟨xs.length - (i + 1), by omega, rfl, hlt, p'⟩, fun v H' y => ?_⟩
    obtain ⟨T, x', rfl, hT, rfl, f1⟩ := y
    exact hs i x' T σ H (f1 xs qx) p hT
  · have e : i = xs.length := by omega
    subst e
    exact .inl ⟨⟨xs, qx, Nat.le_refl _⟩, hd σ H p⟩
theorem lc_zip {K : PySem.W.Frag} {a b : Addr} {xs ys : List V} {g : TG} {tt : TT} {te : TE} {vs : List Nat} {σ : L2.St} {H1 : Hp} {D : Addr} {Qd : Hp → Prop} (hl : xs.length = ys.length) (Pv : Nat → Hp → Prop) (h0 : Pv 0 (upd H1 D (.lst []))) (hq : ∀ i H, Pv i H → SqL K H a xs ∧ SqL K H b ys)
    (hs : ∀ (i : Nat) (x y : V) (T : Addr) (H : Hp), xs[i]? = some x → ys[i]? = some y → Pv i H → H T = none → g (.ref T) (wipe σ vs) (upd H T (.tup [x, y])) fun σ2 H2 => wipe σ2 vs = wipe σ vs ∧ tt σ2 H2 fun b H3 =>
      if b = true then te σ2 H3 fun y H4 => ∃ acc, H4 D = some (.lst acc) ∧ acc.length < sizeLine ∧ Pv (i + 1) (upd H4 D (.lst (acc ++ [y]))) else Pv (i + 1) H3) (hd : ∀ H, Pv xs.length H → Qd H) :
    ∃ W : Nat → Nat → Hp → Prop, (∃ m, W 0 m (upd H1 D (.lst []))) ∧ ∀ i m H, W i m H →
      ((Itz K a b).stop i H ∧ Qd H) ∨ ((Itz K a b).go i H ∧ ∃ Nx : Hp → Prop, (∀ H', Nx H' → ∃ m', m' < m ∧ W (i + 1) m' H') ∧ ∀ x H', (Itz K a b).yld i H x H' → g x (wipe σ vs) H' fun σ2 H2 => wipe σ2 vs = wipe σ vs ∧ tt σ2 H2 fun b H3 =>
        if b = true then te σ2 H3 fun y H4 => ∃ acc, H4 D = some (.lst acc) ∧ acc.length < sizeLine ∧ Nx (upd H4 D (.lst (acc ++ [y]))) else Nx H3) := by
  refine ⟨fun i m H => m = xs.length - i ∧ i ≤ xs.length ∧ Pv i H, ⟨xs.length, rfl, Nat.zero_le _, h0⟩, ?_⟩
  rintro i m H ⟨rfl, hi, p⟩
  obtain ⟨qx, qy⟩ := hq i H p
  by_cases hlt : i < xs.length
  · have hx : xs[i]? = some xs[i] := List.getElem?_eq_getElem hlt
    have hlt2 : i < ys.length := by omega
    have hy : ys[i]? = some ys[i] := List.getElem?_eq_getElem hlt2
    refine .inr ⟨⟨xs, ys, _, _, qx, qy, hx, hy⟩, Pv (i + 1), fun H' p' => ⟨xs.length - (i + 1), by omega, rfl, hlt, p'⟩, fun v H' y => ?_⟩
    obtain ⟨T, x', y', rfl, hT, rfl, f1, f2⟩ := y
    exact hs i x' y' T H (f1 xs qx) (f2 ys qy) p hT
  · have e : i = xs.length := by omega
    subst e
    exact .inl ⟨⟨xs, ys, qx, qy, Or.inl (Nat.le_refl _)⟩, hd H p⟩
abbrev g2 (K : PySem.W.Frag) (j1 j2 : Nat) : TG := gTup K 2 (gCons (gName j1) (gCons (gName j2) gNil))
theorem take_snoc {α : Type} {l : List α} {i : Nat} {x : α} (h : l[i]? = some x) : l.take (i + 1) = l.take i ++ [x] := by
  rw [List.take_add_one, h]
  rfl
/-- [f(x, y) for x, y in zip(xs, ys)] -/
theorem el_zip {K : PySem.W.Frag} {ta : TA} {te : TE} {vs : List Nat} {j1 j2 : Nat} {σ : L2.St} {H : Hp} {a b : Addr} {xs ys : List Int} (f : Int → Int → Int) (h : EvA ta σ H [.ref a, .ref b]) (hx : SqL K H a (xs.map V.int)) (hy : SqL K H b (ys.map V.int)) (hl : xs.length = ys.length) (hz : xs.length ≤ 1000)
    (hw : ∀ u v, wipe (((wipe σ vs).set j1 (some u)).set j2 (some v)) vs = wipe σ vs)
    (he : ∀ x y H1, x ∈ xs → y ∈ ys → Ex H H1 → Ev te (((wipe σ vs).set j1 (some (.int x))).set j2 (some (.int y))) H1 (.int (f x y))) : EvL (tLc (iZip K ta) (g2 K j1 j2) tYes te vs) σ H ((List.zipWith f xs ys).map V.int) := fun H0 e Q q => h H0 e _ fun H1 e1 => by
  have hx1 := ex_l (e.trans e1) hx
  have hy1 := ex_l (e.trans e1) hy
  refine ⟨a, b, _, _, rfl, hx1, hy1, fun D hD => ?_⟩
  refine lc_zip (xs := xs.map V.int) (ys := ys.map V.int) (by rw [List.length_map, List.length_map]; exact hl) (fun i H' => Ex H1 H' ∧ H' D = some (.lst (((List.zipWith f xs ys).take i).map V.int))) ⟨Ex.new hD, upd_same⟩ (fun i H' p => ⟨ex_l p.1 hx1, ex_l p.1 hy1⟩) (fun i x y T H' gx gy p nT => ?_) (fun H' p => ?_)
  · obtain ⟨p1, p2⟩ := p
    rw [List.getElem?_map] at gx gy
    obtain ⟨x', hx', rfl⟩ := Option.map_eq_some_iff.mp gx
    obtain ⟨y', hy', rfl⟩ := Option.map_eq_some_iff.mp gy
    refine ⟨T, _, rfl, SqT.of upd_same, rfl, _, _, rfl, _, _, rfl, rfl, hw _ _, ?_⟩
    show te _ _ _
    have xT : Ex H' (upd H' T (.tup [.int x', .int y'])) := Ex.new nT
    refine he x' y' H (List.mem_of_getElem? hx') (List.mem_of_getElem? hy') (Ex.refl H) _ ((e.trans e1).trans (p1.trans xT)) _ fun H4 e4 => ?_
    refine ⟨_, e4 _ _ (xT _ _ p2), ?_, Ex.mut ((p1.trans xT).trans e4) hD, ?_⟩
    · rw [List.length_map, List.length_take]
      have := (List.getElem?_eq_some_iff.mp hx').1
      exact small1000 (by omega)
    · have hzz : (List.zipWith f xs ys)[i]? = some (f x' y') := by
        rw [List.getElem?_zipWith, hx', hy']
      rw [upd_same, take_snoc hzz, List.map_append]
      rfl
  · obtain ⟨p1, p2⟩ := p
    rw [List.take_of_length_le (by rw [List.length_zipWith, List.length_map]; omega)] at p2
    exact q D H' (fresh_back e1 hD) (e1.trans p1) p2
/-- [g(x, y) for x, y in qs], qs a list of pairs -/
theorem el_pairs {K : PySem.W.Frag} {n : Nat} {te : TE} {vs : List Nat} {j1 j2 : Nat} {σ : L2.St} {H : Hp} {a : Addr} {bs : List Addr} {qs : List (Int × Int)} (f : Int × Int → Int) (hσ : σ[n]? = some (some (.ref a))) (hx : H a = some (.lst (bs.map V.ref))) (hE : EdgesAt H bs qs) (hz : qs.length ≤ 1000)
    (hw : ∀ u v, wipe (((wipe σ vs).set j1 (some u)).set j2 (some v)) vs = wipe σ vs)
    (he : ∀ e H1, e ∈ qs → Ex H H1 → Ev te (((wipe σ vs).set j1 (some (.int e.1))).set j2 (some (.int e.2))) H1 (.int (f e))) : EvL (tLc (iList K (tVar n)) (g2 K j1 j2) tYes te vs) σ H ((qs.map f).map V.int) := fun H1 e1 Q q => by
  have hx1 := e1 _ _ hx
  have el : bs.length = qs.length := Paired.length hE
  refine ⟨_, hσ, a, rfl, ⟨_, SqL.of hx1⟩, fun D hD => ?_⟩
  refine lc_list (K := K) (a := a) (xs := bs.map V.ref) (fun i H' => Ex H1 H' ∧ H' D = some (.lst (((qs.map f).take i).map V.int))) ⟨Ex.new hD, upd_same⟩ (fun i H' _ p => SqL.of (p.1 _ _ hx1)) (fun i x H' gx p => ?_) (fun H' p => ?_)
  · obtain ⟨p1, p2⟩ := p
    rw [List.getElem?_map] at gx
    obtain ⟨b, hb, rfl⟩ := Option.map_eq_some_iff.mp gx
    obtain ⟨ed, hed, hr⟩ := paired_get hE hb
    refine ⟨b, _, rfl, SqT.of ((e1.trans p1) _ _ hr), rfl, _, _, rfl, _, _, rfl, rfl, hw _ _, ?_⟩
    show te _ _ _
    refine he ed H (List.mem_of_getElem? hed) (Ex.refl H) _ (e1.trans p1) _ fun H4 e4 => ?_
    refine ⟨_, e4 _ _ p2, ?_, Ex.mut (p1.trans e4) hD, ?_⟩
    · rw [List.length_map, List.length_take, List.length_map]
      exact small1000 (by omega)
    · have hzz : (qs.map f)[i]? = some (f ed) := by rw [List.getElem?_map, hed]; rfl
      rw [upd_same, take_snoc hzz, List.map_append]
      rfl
  · obtain ⟨p1, p2⟩ := p
    rw [List.take_of_length_le (by rw [List.length_map, List.length_map]; omega)] at p2
    exact q D H' hD p1 p2
/-- [[..] for i in range(m)]: new rows -/
theorem lc_rows {ta : TA} {te : TE} {vs : List Nat} {j : Nat} {σ : L2.St} {H : Hp} {Q : VK} {m : Nat} (F : Nat → List Int) (h : EvA ta σ H [.int (m : Int)]) (hm : m ≤ 1000) (hw : ∀ u, wipe ((wipe σ vs).set j (some u)) vs = wipe σ vs)
    (he : ∀ i H1, Ex H H1 → i < m → EvL te ((wipe σ vs).set j (some (.int (i : Int)))) H1 ((F i).map V.int))
    (k : ∀ p as H2, H p = none → (∀ a ∈ as, H a = none) → as.Nodup → p ∉ as → Ex H H2 → Tab H2 p as ((List.range m).map F) → Q (.ref p) H2) : tLc (iRng1 ta) (gName j) tYes te vs σ H Q := by
  refine h H (Ex.refl H) _ fun H1 e1 => ⟨(m : Int), rfl, by omega, by omega, fun D hD => ?_⟩
  have hDH : H D = none := fresh_back e1 hD
  refine lc_range (lo := 0) (n := (m : Int).toNat) (fun i H' => ∃ as, Ex H1 H' ∧ H' D = some (.lst (as.map V.ref)) ∧ RowsAt H' as ((List.range i).map F) ∧ (∀ a ∈ as, H a = none) ∧ as.Nodup ∧ D ∉ as) ⟨[], Ex.new hD, upd_same, .nil, fun a ha => by simp at ha, List.nodup_nil, by simp⟩ (fun i H' hi p => ?_) (fun H' p => ?_)
  · obtain ⟨as, p1, p2, p3, p4, p5, p6⟩ := p
    have el : as.length = i := by rw [Paired.length p3, List.length_map, List.length_range]
    have e0 : (0 : Int) + (i : Int) = (i : Int) := Int.zero_add _
    refine ⟨hw _, ?_⟩
    show te ((wipe σ vs).set j (some (.int ((0 : Int) + (i : Int))))) H' _
    rw [e0]
    refine he i H' (e1.trans p1) (by omega) H' (Ex.refl _) _ fun r H4 nr e4 hr => ?_
    have nrD : r ≠ D := fun z => by
      rw [z, p2] at nr
      cases nr
    refine ⟨_, e4 _ _ p2, ?_, as ++ [r], Ex.mut (p1.trans e4) hD, ?_, ?_, ?_, ?_, ?_⟩
    · rw [List.length_map, el]
      exact small1000 (by omega)
    · rw [upd_same, List.map_append]
      rfl
    · rw [List.range_succ, List.map_append]
      have st : ∀ a (l : List Int), a ≠ D → H4 a = some (.lst (l.map V.int)) → upd H4 D (.lst (as.map V.ref ++ [.ref r])) a = some (.lst (l.map V.int)) := fun a l n g => by
        rw [upd_ne n]
        exact g
      refine paired_snoc ?_ (st r _ nrD hr)
      have aux : ∀ {as' : List Addr} {rs : List (List Int)}, D ∉ as' → RowsAt H' as' rs → RowsAt (upd H4 D (.lst (as.map V.ref ++ [.ref r]))) as' rs := by
        intro as' rs hn hp
        induction hp with
        | nil => exact .nil
        | cons g t ih => exact .cons (st _ _ (fun z => hn (by rw [z]; exact List.mem_cons_self ..)) (e4 _ _ g)) (ih fun z => hn (List.mem_cons_of_mem _ z))
      exact aux p6 p3
    · intro a ha
      rcases List.mem_append.mp ha with h | h
      · exact p4 a h
      · have : a = r := by simpa using h
        rw [this]
        exact fresh_back (e1.trans p1) nr
    · refine List.nodup_append.mpr ⟨p5, by simp, fun a ha b hb => ?_⟩
      have : b = r := by simpa using hb
      rw [this]
      intro z
      rw [z] at ha
      obtain ⟨x, _, hx⟩ := paired_mem p3 ha
      rw [nr] at hx
      cases hx
    · intro ha
      rcases List.mem_append.mp ha with h | h
      · exact p6 h
      · exact nrD (by simpa using h : D = r).symm
  · obtain ⟨as, p1, p2, p3, p4, p5, p6⟩ := p
    have em : (m : Int).toNat = m := by omega
    rw [em] at p3
    exact k D as H' hDH p4 p5 p6 (e1.trans p1) ⟨p2, p3⟩
/-! ### a dict of rows by places -/
theorem nodup_sub {α : Type} [DecidableEq α] : ∀ {l1 l2 : List α}, l1.Nodup → (∀ x ∈ l1, x ∈ l2) → l1.length ≤ l2.length
  | [], _, _, _ => Nat.zero_le _
  | a :: t, l2, hn, hs => by
    have h1 := List.nodup_cons.mp hn
    have ha := hs a (List.mem_cons_self ..)
    have ih := nodup_sub (l1 := t) (l2 := l2.erase a) h1.2 fun x hx => (List.mem_erase_of_ne (fun z => h1.1 (by rw [← z]; exact hx))).mpr (hs x (List.mem_cons_of_mem _ hx))
    rw [List.length_erase_of_mem ha] at ih
    have := List.length_pos_of_mem ha
    simp only [List.length_cons]
    omega
theorem rep_flat : ∀ m : Nat, (List.replicate m [V.int 0]).flatten = (List.replicate m 0).map V.int
  | 0 => rfl
  | m + 1 => by
    rw [List.replicate_succ, List.flatten_cons, rep_flat m]
    rfl
theorem nodup_nums (m : Nat) : (numsTo m).Nodup := by
  unfold numsTo
  exact List.Pairwise.map _ (fun a b h z => h (by omega)) List.nodup_range
theorem val_mem : ∀ {kvs : List (Key × V)} {L : List Int} {x : Int}, kvs.map (·.1) = L.map Sum.inl → ((valV kvs (Sum.inl x : Key)).isSome = true ↔ x ∈ L)
  | [], L, x, h => by
    cases L with
    | nil => simp [valV]
    | cons a l => simp at h
  | kv :: r, L, x, h => by
    cases L with
    | nil => simp at h
    | cons a l =>
      have h1 : kv.1 = Sum.inl a ∧ r.map (·.1) = l.map Sum.inl := by
        have := List.cons.inj h
        exact ⟨this.1, this.2⟩
      have ih := val_mem (kvs := r) (L := l) (x := x) h1.2
      by_cases e : x = a
      · subst e
        rw [valV_pos h1.1]
        simp
      · have ne : ¬ kv.1 = Sum.inl x := by
          rw [h1.1]
          intro z
          exact e (Sum.inl.inj z).symm
        have e2 : valV (kv :: r) (Sum.inl x : Key) = valV r (Sum.inl x : Key) := by
          simp [valV, List.find?_cons, ne]
        rw [e2, ih, List.mem_cons]
        exact ⟨Or.inr, fun z => z.resolve_left e⟩
/-- the dict at d: rows of m whole numbers by the places L -/
structure FarOk (H : Hp) (d : Addr) (m : Nat) (kvs : List (Key × V)) (L : List Int) : Prop where
  at_ : H d = some (.dK kvs)
  keys : kvs.map (·.1) = L.map Sum.inl
  nd : L.Nodup
  inn : ∀ x ∈ L, 0 ≤ x ∧ x ≤ m
  row : ∀ x v, valV kvs (Sum.inl x : Key) = some v → ∃ (a : Addr) (ns : List Int), v = .ref a ∧ H a = some (.lst (ns.map V.int)) ∧ ns.length = m ∧ ∀ y ∈ ns, y.natAbs ≤ L.length
theorem FarOk.len {H : Hp} {d : Addr} {m : Nat} {kvs : List (Key × V)} {L : List Int} (h : FarOk H d m kvs L) : kvs.length = L.length := by
  rw [← List.length_map (f := (·.1)), h.keys, List.length_map]
theorem FarOk.le {H : Hp} {d : Addr} {m : Nat} {kvs : List (Key × V)} {L : List Int} (h : FarOk H d m kvs L) : L.length ≤ m + 1 := by
  have := nodup_sub (l2 := numsTo (m + 1)) h.nd fun x hx => mem_numsTo.mpr (by have := h.inn x hx; omega)
  rw [numsTo_length] at this
  exact this
theorem FarOk.all {H : Hp} {d : Addr} {m : Nat} {kvs : List (Key × V)} {L : List Int} (h : FarOk H d m kvs L) (hl : m < L.length) : ∀ x : Int, 0 ≤ x → x ≤ m → x ∈ L := by
  intro x h0 h1
  by_cases hx : x ∈ L
  · exact hx
  · have h2 := nodup_sub (l1 := x :: L) (l2 := numsTo (m + 1)) (List.nodup_cons.mpr ⟨hx, h.nd⟩) fun y hy => mem_numsTo.mpr (by
      rcases List.mem_cons.mp hy with rfl | hy
      · omega
      · have := h.inn y hy
        omega)
    rw [numsTo_length, List.length_cons] at h2
    omega
theorem FarOk.ex {H H' : Hp} {d : Addr} {m : Nat} {kvs : List (Key × V)} {L : List Int} (h : FarOk H d m kvs L) (e : Ex H H') : FarOk H' d m kvs L :=
  ⟨e _ _ h.at_, h.keys, h.nd, h.inn, fun x v hv => by
    obtain ⟨a, ns, h1, h2, h3, h4⟩ := h.row x v hv
    exact ⟨a, ns, h1, e _ _ h2, h3, h4⟩⟩
theorem FarOk.get {H : Hp} {d : Addr} {m : Nat} {kvs : List (Key × V)} {L : List Int} (h : FarOk H d m kvs L) {x : Int} (hx : x ∈ L) : ∃ (a : Addr) (ns : List Int), valV kvs (Sum.inl x : Key) = some (.ref a) ∧ H a = some (.lst (ns.map V.int)) ∧ ns.length = m ∧ ∀ y ∈ ns, y.natAbs ≤ L.length := by
  have hs := (val_mem h.keys).mpr hx
  obtain ⟨v, hv⟩ := Option.isSome_iff_exists.mp hs
  obtain ⟨a, ns, h1, h2, h3, h4⟩ := h.row x v hv
  subst h1
  exact ⟨a, ns, hv, h2, h3, h4⟩
theorem FarOk.no {H : Hp} {d : Addr} {m : Nat} {kvs : List (Key × V)} {L : List Int} (h : FarOk H d m kvs L) {x : Int} (hx : x ∉ L) : valV kvs (Sum.inl x : Key) = none := by
  cases q : valV kvs (Sum.inl x : Key) with
  | none => rfl
  | some v => exact absurd ((val_mem h.keys).mp (by rw [q]; rfl)) hx
theorem FarOk.some_ {H : Hp} {d : Addr} {m : Nat} {kvs : List (Key × V)} {L : List Int} (h : FarOk H d m kvs L) (x : Int) : (valV kvs (Sum.inl x : Key)).isSome = decide (x ∈ L) := by
  rw [Bool.eq_iff_iff, val_mem h.keys, decide_eq_true_iff]
theorem FarOk.put {H : Hp} {d : Addr} {m : Nat} {kvs : List (Key × V)} {L : List Int} {x : Int} {a : Addr} {ns : List Int} (h : FarOk H d m kvs L) (hx : x ∉ L) (h0 : 0 ≤ x ∧ x ≤ m) (ha : H a = some (.lst (ns.map V.int))) (hl : ns.length = m) (hb : ∀ y ∈ ns, y.natAbs ≤ L.length + 1) :
    FarOk (upd H d (.dK (putK kvs (Sum.inl x) (.ref a)))) d m (putK kvs (Sum.inl x) (.ref a)) (L ++ [x]) := by
  have hn := h.no hx
  have ne : ∀ b (l : List V), H b = some (.lst l) → b ≠ d := fun b l g => ne_of g h.at_ (by intro z; cases z)
  refine ⟨upd_same, ?_, ?_, ?_, ?_⟩
  · rw [putK_new _ hn, List.map_append, List.map_append, h.keys]
    rfl
  · refine List.nodup_append.mpr ⟨h.nd, by simp, fun y hy z hz => ?_⟩
    have : z = x := by simpa using hz
    rw [this]
    intro e
    exact hx (e ▸ hy)
  · intro y hy
    rcases List.mem_append.mp hy with q | q
    · exact h.inn y q
    · have : y = x := by simpa using q
      rw [this]
      exact h0
  · intro y v hv
    rw [valV_put] at hv
    rw [List.length_append]
    by_cases e : (Sum.inl y : Key) = Sum.inl x
    · rw [if_pos e] at hv
      have ev := Option.some.inj hv
      subst ev
      refine ⟨a, ns, rfl, ?_, hl, hb⟩
      rw [upd_ne (ne a _ ha)]
      exact ha
    · rw [if_neg e] at hv
      obtain ⟨b, l, h1, h2, h3, h4⟩ := h.row y v hv
      refine ⟨b, l, h1, ?_, h3, fun z hz => Nat.le_succ_of_le (h4 z hz)⟩
      rw [upd_ne (ne b _ h2)]
      exact h2
theorem ev_dget {σ : L2.St} {H : Hp} {i j : Nat} {d : Addr} {x : Int} {kvs : List (Key × V)} {v : V} (h1 : σ[i]? = some (some (.ref d))) (h2 : σ[j]? = some (some (.int x))) (hd : H d = some (.dK kvs)) (hv : valV kvs (Sum.inl x : Key) = some v) : Ev (tDGet (tVar i) (tVar j)) σ H v := fun H1 e Q q =>
  ⟨_, h1, _, h2, d, v, rfl, by rw [← hv]; exact DGet.k (k := Sum.inl x) (e _ _ hd), q H1 (Ex.refl _)⟩
/-- the kk-th number of the row that stands by x -/
def rowOf : Option HO → List Int
  | some (.lst xs) => xs.map fun v => match v with | .int i => i | _ => 0
  | _ => []
theorem rowOf_ints (ns : List Int) : rowOf (some (.lst (ns.map V.int))) = ns := by
  show (ns.map V.int).map (fun v => match v with | V.int i => i | _ => 0) = ns
  rw [List.map_map]
  exact List.map_id' ns
def valN (H : Hp) (kvs : List (Key × V)) (x : Int) (kk : Nat) : Int :=
  match valV kvs (Sum.inl x : Key) with
  | some (.ref a) => (rowOf (H a))[kk]?.getD 0
  | _ => 0
theorem valN_eq {H : Hp} {kvs : List (Key × V)} {x : Int} {kk : Nat} {a : Addr} {ns : List Int} (h : valV kvs (Sum.inl x : Key) = some (.ref a)) (g : H a = some (.lst (ns.map V.int))) : valN H kvs x kk = ns[kk]?.getD 0 := by
  unfold valN
  rw [h]
  show (rowOf (H a))[kk]?.getD 0 = _
  rw [g, rowOf_ints]
theorem atI_row {ns : List Int} {kk : Nat} (h : kk < ns.length) : atI (ns.map V.int) (kk : Int) = some (.int (ns[kk]?.getD 0)) := by
  refine atI_nat ?_
  rw [List.getElem?_map, List.getElem?_eq_getElem h]
  rfl
/-- a new table (new since H): m rows of w numbers, none greater than B -/
structure NewTab (H H' : Hp) (p : Addr) (as : List Addr) (rows : List (List Int)) (w B : Nat) : Prop where
  p0 : H p = none
  a0 : ∀ a ∈ as, H a = none
  nd : as.Nodup
  np : p ∉ as
  tab : Tab H' p as rows
  ok : ∀ r ∈ rows, r.length = w ∧ ∀ y ∈ r, y.natAbs ≤ B
theorem NewTab.ex {H H' H2 : Hp} {p : Addr} {as : List Addr} {rows : List (List Int)} {w B : Nat} (h : NewTab H H' p as rows w B) (e : Ex H' H2) : NewTab H H2 p as rows w B := ⟨h.p0, h.a0, h.nd, h.np, h.tab.ex e, h.ok⟩
theorem rows_but {H H' : Hp} : ∀ {as : List Addr} {rows : List (List Int)}, RowsAt H as rows → (∀ a ∈ as, ∀ o, H a = some o → H' a = some o) → RowsAt H' as rows
  | _, _, .nil, _ => .nil
  | _, _, .cons g t, h => .cons (h _ (List.mem_cons_self ..) _ g) (rows_but t fun a ha => h a (List.mem_cons_of_mem _ ha))
theorem NewTab.exB {H H' H2 : Hp} {s p : Addr} {as : List Addr} {rows : List (List Int)} {w B : Nat} (h : NewTab H H' p as rows w B) (e : ExB s H' H2) (hs : ∃ o, H s = some o) : NewTab H H2 p as rows w B := by
  obtain ⟨o, ho⟩ := hs
  have n1 : p ≠ s := fun z => by
    have := h.p0
    rw [z, ho] at this
    cases this
  have n2 : ∀ a ∈ as, a ≠ s := fun a ha z => by
    have := h.a0 a ha
    rw [z, ho] at this
    cases this
  exact ⟨h.p0, h.a0, h.nd, h.np, ⟨e _ _ n1 h.tab.1, rows_but h.tab.2 fun a ha o' g => e a o' (n2 a ha) g⟩, h.ok⟩
theorem NewTab.back {H0 H H' : Hp} {s p : Addr} {as : List Addr} {rows : List (List Int)} {w B : Nat} (h : NewTab H H' p as rows w B) (e : ExB s H0 H) (hs : ∃ o, H s = some o) : NewTab H0 H' p as rows w B :=
  ⟨fresh_B e h.p0 hs, fun a ha => fresh_B e (h.a0 a ha) hs, h.nd, h.np, h.tab, h.ok⟩
theorem NewTab.mono {H H' : Hp} {p : Addr} {as : List Addr} {rows : List (List Int)} {w B B' : Nat} (h : NewTab H H' p as rows w B) (hb : B ≤ B') : NewTab H H' p as rows w B' :=
  ⟨h.p0, h.a0, h.nd, h.np, h.tab, fun r hr => ⟨(h.ok r hr).1, fun y hy => Nat.le_trans ((h.ok r hr).2 y hy) hb⟩⟩
/-- found.append(a new row) -/
theorem NewTab.app {H H' H2 : Hp} {p r : Addr} {as : List Addr} {rows : List (List Int)} {row : List Int} {w B : Nat} (h : NewTab H H' p as rows w B) (e0 : ∀ a, H' a = none → H a = none) (e : Ex H' H2) (nr : H' r = none) (hr : H2 r = some (.lst (row.map V.int))) (hl : row.length = w) (hb : ∀ y ∈ row, y.natAbs ≤ B) :
    NewTab H (upd H2 p (.lst (as.map V.ref ++ [.ref r]))) p (as ++ [r]) (rows ++ [row]) w B := by
  have nrp : r ≠ p := fun z => by
    rw [z, h.tab.1] at nr
    cases nr
  have nra : r ∉ as := fun ha => by
    obtain ⟨x, _, hx⟩ := paired_mem h.tab.2 ha
    rw [nr] at hx
    cases hx
  refine ⟨h.p0, fun a ha => ?_, ?_, ?_, ⟨?_, ?_⟩, fun x hx => ?_⟩
  · rcases List.mem_append.mp ha with q | q
    · exact h.a0 a q
    · have : a = r := by simpa using q
      rw [this]
      exact e0 r nr
  · refine List.nodup_append.mpr ⟨h.nd, by simp, fun a ha b hb z => ?_⟩
    have : b = r := by simpa using hb
    exact nra (by rw [← this, ← z]; exact ha)
  · intro ha
    rcases List.mem_append.mp ha with q | q
    · exact h.np q
    · exact nrp (by simpa using q : p = r).symm
  · rw [upd_same, List.map_append]
    rfl
  · refine paired_snoc (rows_but h.tab.2 fun a ha o g => ?_) ?_
    · rw [upd_ne (fun z => h.np (by rw [← z]; exact ha))]
      exact e a o g
    · rw [upd_ne nrp]
      exact hr
  · rcases List.mem_append.mp hx with q | q
    · exact h.ok x q
    · have : x = row := by simpa using q
      rw [this]
      exact ⟨hl, hb⟩
theorem NewTab.new {H : Hp} {H1 : Hp} {p : Addr} {w B : Nat} (h : H p = none) (h1 : H1 p = some (.lst [])) : NewTab H H1 p [] [] w B := ⟨h, fun a ha => by simp at ha, List.nodup_nil, by simp, ⟨h1, .nil⟩, fun r hr => by simp at hr⟩
theorem noneB {s : Addr} {H H' : Hp} (e : ExB s H H') (hs : ∃ o, H' s = some o) : ∀ a, H' a = none → H a = none := fun a h => fresh_B e h hs
theorem ev_chain {r r' : R2} {ta tb tc : TE} {σ : L2.St} {H : Hp} {x y z : V} {b c : Bool} (ha : Ev ta σ H x) (hb : Ev tb σ H y) (hc : Ev tc σ H z) (h1 : RV r x y H (.bl b)) (h2 : RV r' y z H (.bl c)) : Ev (tChain r r' ta tb tc) σ H (.bl (b && c)) := fun H1 e Q q =>
  ha H1 e _ fun H2 e2 => hb H2 (e.trans e2) _ fun H3 e3 => h1 H3 ((e.trans e2).trans e3) _ fun H4 e4 => ⟨b, rfl, by
    cases b with
    | true =>
      show tc σ H4 _
      exact hc H4 (((e.trans e2).trans e3).trans e4) _ fun H5 e5 => h2 H5 ((((e.trans e2).trans e3).trans e4).trans e5) Q fun H6 e6 => q H6 ((((e2.trans e3).trans e4).trans e5).trans e6)
    | false =>
      show Q (.bl false) H4
      exact q H4 ((e2.trans e3).trans e4)⟩
theorem ev_int1 {ta : TE} {σ : L2.St} {H : Hp} {b : Bool} (h : Ev ta σ H (.bl b)) : Ev (tCB (fun xs H Q => (∃ i, xs = [V.int i] ∧ Q (V.int i) H) ∨ ∃ k, xs = [V.bl k] ∧ Q (V.int (if k = true then 1 else 0)) H) (tCons ta tNil)) σ H (.int (if b = true then 1 else 0)) := fun H1 e Q q =>
  h H1 e _ fun H2 e2 => .inr ⟨b, rfl, q H2 e2⟩
/-- [e for i in range(m)], e whole numbers -/
theorem el_rng {ta : TA} {te : TE} {vs : List Nat} {j m : Nat} {σ : L2.St} {H : Hp} (f : Nat → Int) (h : EvA ta σ H [.int (m : Int)]) (hm : m ≤ 1000) (hw : ∀ x, wipe ((wipe σ vs).set j (some x)) vs = wipe σ vs)
    (he : ∀ (i : Nat) H1, Ex H H1 → i < m → Ev te ((wipe σ vs).set j (some (.int (i : Int)))) H1 (.int (f i))) : EvL (tLc (iRng1 ta) (gName j) tYes te vs) σ H (((List.range m).map f).map V.int) := by
  have g := el_lcR1 (t := tYes) (te := te) (j := j) (vs := vs) (σ := σ) (H := H) (n := (m : Int)) (ta := ta) (fun _ => true) (fun o => .int (f o)) h (by omega) hw (fun o H1 e ho Hx ex Qx qx => qx Hx (Ex.refl _)) (fun o H1 e ho hf => he o H1 e (by omega))
  have eg : given (m : Int).toNat (fun _ => true) (fun o => V.int (f o)) = ((List.range m).map f).map V.int := by
    unfold given
    rw [Int.toNat_natCast, List.filter_eq_self.mpr (fun _ _ => rfl), List.map_map]
    rfl
  rw [eg] at g
  exact g
/-- [f(row) for row in rows] -/
theorem el_col {K : PySem.W.Frag} {n : Nat} {te : TE} {vs : List Nat} {j : Nat} {σ : L2.St} {H : Hp} {a : Addr} {bs : List Addr} {qs : List (List Int)} (f : List Int → Int) (hσ : σ[n]? = some (some (.ref a))) (hx : H a = some (.lst (bs.map V.ref))) (hE : RowsAt H bs qs) (hz : qs.length ≤ 1000)
    (hw : ∀ u, wipe ((wipe σ vs).set j (some u)) vs = wipe σ vs)
    (he : ∀ b r H1, r ∈ qs → H b = some (.lst (r.map V.int)) → Ex H H1 → Ev te ((wipe σ vs).set j (some (.ref b))) H1 (.int (f r))) : EvL (tLc (iList K (tVar n)) (gName j) tYes te vs) σ H ((qs.map f).map V.int) := fun H1 e1 Q q => by
  have hx1 := e1 _ _ hx
  have el : bs.length = qs.length := Paired.length hE
  refine ⟨_, hσ, a, rfl, ⟨_, SqL.of hx1⟩, fun D hD => ?_⟩
  refine lc_list (K := K) (a := a) (xs := bs.map V.ref) (fun i H' => Ex H1 H' ∧ H' D = some (.lst (((qs.map f).take i).map V.int))) ⟨Ex.new hD, upd_same⟩ (fun i H' _ p => SqL.of (p.1 _ _ hx1)) (fun i x H' gx p => ?_) (fun H' p => ?_)
  · obtain ⟨p1, p2⟩ := p
    rw [List.getElem?_map] at gx
    obtain ⟨b, hb, rfl⟩ := Option.map_eq_some_iff.mp gx
    obtain ⟨ed, hed, hr⟩ := paired_get hE hb
    refine ⟨hw _, ?_⟩
    show te _ _ _
    refine he b ed H (List.mem_of_getElem? hed) hr (Ex.refl H) _ (e1.trans p1) _ fun H4 e4 => ?_
    refine ⟨_, e4 _ _ p2, ?_, Ex.mut (p1.trans e4) hD, ?_⟩
    · rw [List.length_map, List.length_take, List.length_map]
      exact small1000 (by omega)
    · have hzz : (qs.map f)[i]? = some (f ed) := by rw [List.getElem?_map, hed]; rfl
      rw [upd_same, take_snoc hzz, List.map_append]
      rfl
  · obtain ⟨p1, p2⟩ := p
    rw [List.take_of_length_le (by rw [List.length_map, List.length_map]; omega)] at p2
    exact q D H' hD p1 p2
/-- [a number drawn for i in range(m)] -/
theorem lc_draw {ta : TA} {te : TE} {vs : List Nat} {j m : Nat} {σ : L2.St} {H : Hp} {Q : VK} {s : Addr} {n : Int} (P : Int → Prop) (h : EvA ta σ H [.int (m : Int)]) (hm : m ≤ 1000) (hs : SrcAt H s n) (hw : ∀ u, wipe ((wipe σ vs).set j (some u)) vs = wipe σ vs)
    (he : ∀ (i : Nat) H1, ExB s H H1 → i < m → SrcAt H1 s (n + i) → ∀ Q1 : VK, (∀ x H2, P x → ExB s H1 H2 → SrcAt H2 s (n + i + 1) → Q1 (.int x) H2) → te ((wipe σ vs).set j (some (.int (i : Int)))) H1 Q1)
    (k : ∀ (D : Addr) (ns : List Int) (H2 : Hp), H D = none → ExB s H H2 → SrcAt H2 s (n + m) → H2 D = some (.lst (ns.map V.int)) → ns.length = m → (∀ x ∈ ns, P x) → Q (.ref D) H2) : tLc (iRng1 ta) (gName j) tYes te vs σ H Q := by
  refine h H (Ex.refl H) _ fun H1 e1 => ⟨(m : Int), rfl, by omega, by omega, fun D hD => ?_⟩
  have hDH : H D = none := fresh_back e1 hD
  have hDs : D ≠ s := (hs.ex e1).ne hD
  refine lc_range (lo := 0) (n := (m : Int).toNat) (fun i H' => ∃ ns, ExB s H H' ∧ SrcAt H' s (n + i) ∧ H' D = some (.lst (ns.map V.int)) ∧ ns.length = i ∧ ∀ x ∈ ns, P x) ⟨[], ExB.of (e1.trans (Ex.new hD)), (hs.ex (e1.trans (Ex.new hD))).le (by omega), upd_same, rfl, fun x hx => by simp at hx⟩ (fun i H' hi p => ?_) (fun H' p => ?_)
  · obtain ⟨ns, p1, p2, p3, p4, p5⟩ := p
    have e0 : (0 : Int) + (i : Int) = (i : Int) := Int.zero_add _
    refine ⟨hw _, ?_⟩
    show te ((wipe σ vs).set j (some (.int ((0 : Int) + (i : Int))))) H' _
    rw [e0]
    refine he i H' p1 (by omega) p2 _ fun x H2 hx e2 s2 => ?_
    refine ⟨_, e2 _ _ hDs p3, small1000 (by rw [List.length_map]; omega), ns ++ [x], ?_, ?_, ?_, ?_, ?_⟩
    · refine fun b o nb hb => ?_
      rw [upd_ne (ne_of_none hb hDH)]
      exact e2 _ _ nb (p1 _ _ nb hb)
    · obtain ⟨a1, a2, a3, a4, a5, a6, a7, a8⟩ := s2
      exact ⟨a1, a2, a3, by rw [upd_ne hDs.symm]; exact a4, a5, a6, a7, by omega⟩
    · rw [upd_same, List.map_append]
      rfl
    · rw [List.length_append, p4]
      rfl
    · intro y hy
      rcases List.mem_append.mp hy with q | q
      · exact p5 y q
      · have : y = x := by simpa using q
        rw [this]
        exact hx
  · obtain ⟨ns, p1, p2, p3, p4, p5⟩ := p
    have em : (m : Int).toNat = m := by omega
    rw [em] at p4 p2
    exact k D ns H' hDH p1 p2 p3 p4 p5
/-- the same over a list of whole numbers -/
theorem lc_drawL {K : PySem.W.Frag} {tl te : TE} {vs : List Nat} {j : Nat} {σ : L2.St} {H : Hp} {Q : VK} {s a : Addr} {n : Int} {xs : List Int} (P : Int → Prop) (h : Ev tl σ H (.ref a)) (hx : H a = some (.lst (xs.map V.int))) (has : a ≠ s) (hm : xs.length ≤ 1000) (hs : SrcAt H s n) (hw : ∀ u, wipe ((wipe σ vs).set j (some u)) vs = wipe σ vs)
    (he : ∀ (i : Nat) (y : Int) H1, ExB s H H1 → i < xs.length → SrcAt H1 s (n + i) → ∀ Q1 : VK, (∀ x H2, P x → ExB s H1 H2 → SrcAt H2 s (n + i + 1) → Q1 (.int x) H2) → te ((wipe σ vs).set j (some (.int y))) H1 Q1)
    (k : ∀ (D : Addr) (ns : List Int) (H2 : Hp), H D = none → ExB s H H2 → SrcAt H2 s (n + xs.length) → H2 D = some (.lst (ns.map V.int)) → ns.length = xs.length → (∀ x ∈ ns, P x) → Q (.ref D) H2) : tLc (iList K tl) (gName j) tYes te vs σ H Q := by
  refine h H (Ex.refl H) _ fun H1 e1 => ⟨a, rfl, ⟨_, SqL.of (e1 _ _ hx)⟩, fun D hD => ?_⟩
  have hDH : H D = none := fresh_back e1 hD
  have hDs : D ≠ s := (hs.ex e1).ne hD
  refine lc_list (K := K) (a := a) (xs := xs.map V.int) (fun i H' => ∃ ns, ExB s H H' ∧ SrcAt H' s (n + i) ∧ H' D = some (.lst (ns.map V.int)) ∧ ns.length = i ∧ ∀ x ∈ ns, P x) ⟨[], ExB.of (e1.trans (Ex.new hD)), (hs.ex (e1.trans (Ex.new hD))).le (by omega), upd_same, rfl, fun x hx => by simp at hx⟩ (fun i H' _ ⟨_, p1, _⟩ => SqL.of (p1 _ _ has hx)) (fun i y H' gy p => ?_) (fun H' p => ?_)
  · obtain ⟨ns, p1, p2, p3, p4, p5⟩ := p
    rw [List.getElem?_map] at gy
    obtain ⟨y', hy', rfl⟩ := Option.map_eq_some_iff.mp gy
    have hi := (List.getElem?_eq_some_iff.mp hy').1
    refine ⟨hw _, ?_⟩
    show te _ H' _
    refine he i y' H' p1 hi p2 _ fun x H2 hx' e2 s2 => ?_
    refine ⟨_, e2 _ _ hDs p3, small1000 (by rw [List.length_map]; omega), ns ++ [x], ?_, ?_, ?_, ?_, ?_⟩
    · refine fun b o nb hb => ?_
      rw [upd_ne (ne_of_none hb hDH)]
      exact e2 _ _ nb (p1 _ _ nb hb)
    · obtain ⟨a1, a2, a3, a4, a5, a6, a7, a8⟩ := s2
      exact ⟨a1, a2, a3, by rw [upd_ne hDs.symm]; exact a4, a5, a6, a7, by omega⟩
    · rw [upd_same, List.map_append]
      rfl
    · rw [List.length_append, p4]
      rfl
    · intro z hz
      rcases List.mem_append.mp hz with q | q
      · exact p5 z q
      · have : z = x := by simpa using q
        rw [this]
        exact hx'
  · obtain ⟨ns, p1, p2, p3, p4, p5⟩ := p
    rw [List.length_map] at p4 p2
    exact k D ns H' hDH p1 p2 p3 p4 p5
theorem rows_set {H : Hp} {v : List V} {x : Addr} : ∀ {as : List Addr} {rows : List (List Int)} {k : Nat} {row : List Int}, RowsAt H as rows → as.Nodup → as[k]? = some x → v = row.map V.int → RowsAt (upd H x (.lst v)) as (rows.set k row)
  | _, _, _, _, .nil, _, h, _ => by simp at h
  | a :: as, r :: rows, 0, row, .cons g t, nd, h, hv => by
    have e : a = x := Option.some.inj h
    subst e
    have h1 := List.nodup_cons.mp nd
    refine .cons (by rw [upd_same, hv]) (rows_but t fun b hb o q => ?_)
    rw [upd_ne (fun z => h1.1 (by rw [← z]; exact hb))]
    exact q
  | a :: as, r :: rows, k + 1, row, .cons g t, nd, h, hv => by
    have h1 := List.nodup_cons.mp nd
    have hx : as[k]? = some x := h
    refine .cons ?_ (rows_set t h1.2 hx hv)
    rw [upd_ne (fun z => h1.1 (by rw [z]; exact List.mem_of_getElem? hx))]
    exact g
theorem NewTab.set {H H' : Hp} {p x : Addr} {as : List Addr} {rows : List (List Int)} {w B k j : Nat} {row : List Int} {y : Int} (h : NewTab H H' p as rows w B) (hx : as[k]? = some x) (hr : rows[k]? = some row) (hy : y.natAbs ≤ B) : NewTab H (upd H' x (.lst ((row.map V.int).set j (.int y)))) p as (rows.set k (row.set j y)) w B := by
  have npx : p ≠ x := fun z => h.np (by rw [z]; exact List.mem_of_getElem? hx)
  have o := h.ok row (List.mem_of_getElem? hr)
  refine ⟨h.p0, h.a0, h.nd, h.np, ⟨?_, rows_set h.tab.2 h.nd hx (by rw [List.map_set])⟩, fun r hr' => ?_⟩
  · rw [upd_ne npx]
    exact h.tab.1
  · rcases List.mem_or_eq_of_mem_set hr' with q | q
    · exact h.ok r q
    · rw [q]
      refine ⟨by rw [List.length_set]; exact o.1, fun z hz => ?_⟩
      rcases List.mem_or_eq_of_mem_set hz with q2 | q2
      · exact o.2 z q2
      · rw [q2]
        exact hy
section
variable {prog : Program} {w : World} {A : Around} {E : Value → Shared → Prop} {s : Shared}
theorem slice_rev2 {sl : Addr} {vl vu vs : Value} {Q : Int × Int × Nat → Shared → Prop} (hs : s.heap.IsSliceOf sl vl vu vs) (pl : IsPart vl none) (pu : IsPart vu none) (ps : IsPart vs (some (-1)))
    (h : Q (1, -1, 2) s) : wpAny (model prog w) A (Builtin.Slice.sliceApplied (.ref sl) (pure ((2 : Nat) : Int))) Q E s := by
  obtain ⟨os, hos, hcs, hds⟩ := id hs
  unfold Builtin.Slice.sliceApplied Builtin.Slice.sliceFields
  refine wpAny_bind (wpAny_bind (wpAny_field hos hds (x := vl) rfl (wpAny_bind (wpAny_field hos hds (x := vu) rfl (wpAny_bind (wpAny_field hos hds (x := vs) rfl (wpAny_pure ?_)))))))
  refine wpAny_bind (slicePart_ ps ?_)
  show wpAny _ _ (if ((-1 : Int) == 0) = true then _ else _) _ _ s
  rw [if_neg (by decide)]
  refine wpAny_bind (slicePart_ pl (wpAny_bind (slicePart_ pu (wpAny_bind (wpAny_pure ?_)))))
  exact wpAny_pure h
theorem item_rev2 {t sl : Addr} {x y vl vu vs : Value} {Q : Value → Shared → Prop} (ht : IsTup s.heap t #[x, y]) (hs : s.heap.IsSliceOf sl vl vu vs) (pl : IsPart vl none) (pu : IsPart vu none) (ps : IsPart vs (some (-1)))
    (h : Q (.ref s.heap.objs.size) { s with heap := s.heap.push { cls := .type "tuple", data := .seq #[y, x] } }) : wpAny (model prog w) A (getItem (.ref t) (.ref sl)) Q E s := by
  have htake : sizeOk (.seq (#[y, x] : Array Value)) := by
    show 2 ≤ sizeLine
    decide
  obtain ⟨os, hos, hcs, hds⟩ := id hs
  have hTs : s.TypeIs (.ref sl) "slice" := ⟨os, hos, hcs⟩
  unfold getItem
  try with_reducible refine wpAny_holding ?_
  first | refine wpAny_bind (wpAny_pure ?_) | skip
  refine wpAny_bind (wpAny_sequenceKey ht.typeIs (by decide) ?_)
  refine wpAny_bind (wpAny_callSpecial?_slot (name := Str.ofString "__getitem__") ht.typeIs PyProof.Rows.slot_tuple_getitem
    (wpAny_call_entry PyProof.Rows.slot_tuple_getitem ht.typeIs entry_tuple_getitem ?_ (args_tuple_getitem _ _)))
  show wpAny _ _ (Builtin.Tuple.tupleItemsOf (.ref t) >>= _) _ _ s
  refine wpAny_bind (tupleItemsOf_ ht ?_)
  refine wpAny_bind (wpAny_typeOf hTs ?_)
  rw [if_pos (by decide)]
  refine wpAny_bind (slice_rev2 hs pl pu ps ?_)
  show wpAny _ _ (if (((1 : Int) == 0 && (-1 : Int) == 1 && (2 : Nat) == 2) = true) then _ else _) _ _ s
  rw [if_neg (by decide)]
  first
    | exact wpAny_bind (m := Builtin.Tuple.tupleExact _) (wpAny_newObj_type (wpAny_pure ⟨_, rfl, wpAny_pure h⟩) htake)
    | exact wpAny_bind (m := Builtin.Tuple.tupleExact _) (wpAny_newObj_type (wpAny_bind (wpAny_pure (wpAny_pure ⟨_, rfl, wpAny_pure h⟩))) htake)
    | exact wpAny_bind (wpAny_bind (m := Builtin.Tuple.tupleExact _) (wpAny_newObj_type (wpAny_pure (wpAny_pure ⟨_, rfl, wpAny_pure h⟩)) htake))
    | exact wpAny_bind (wpAny_bind (m := Builtin.Tuple.tupleExact _) (wpAny_newObj_type (wpAny_pure ⟨_, rfl, wpAny_pure h⟩) htake))
end
section
variable {X : Cx}
/-- t[::-1], t a pair -/
def tRevT (K : PySem.W.Frag) (te : TE) : TE := fun σ H Q => te σ H fun v H1 => ∃ a x y, v = .ref a ∧ SqT K H1 a [x, y] ∧ ∀ p, H1 p = none → Q (.ref p) (upd H1 p (.tup [y, x]))
theorem pe_revT {e : Expr} {te : TE} {k : Nat} {p1 p2 p3 pos : Pos} (he : PE X e te) : PE X (.Subscript e (.Slice none none (some (.UnaryOp .USub (.Constant (.int 1) k p1) p2)) p3) pos) (tRevT X.K te) := by
  refine ⟨fun pins s σ H Q I h => ?_⟩
  refine Subscript_ (thn (he.run pins s σ H _ I h) fun v s1 ⟨z, H1, I1, r1, q1⟩ => ?_)
  obtain ⟨a, x, y, ex, hx, q⟩ := q1
  subst ex
  cases r1
  have hst : PO X (some (.UnaryOp .USub (.Constant (.int 1) k p1) p2)) (tPart (tUn (rU fun i => .int (-i)) (tC (.int 1)))) := po_some (pe_un un_neg pe_int)
  refine wpAny_Slice (thn (po_none.run pins s1 σ H1 (fun o H2 => o = none ∧ H2 = H1) I1 ⟨rfl, rfl⟩) fun vl s2 ⟨l, H2, I2, pl, el, e2⟩ => ?_)
  subst el e2
  refine thn (po_none.run pins s2 σ H2 (fun o H3 => o = none ∧ H3 = H2) I2 ⟨rfl, rfl⟩) fun vu s3 ⟨u, H3, I3, pu, eu, e3⟩ => ?_
  subst eu e3
  refine thn (hst.run pins s3 σ H3 (fun o H4 => o = some (-1) ∧ H4 = H3) I3 ⟨1, rfl, -1, rfl, rfl, rfl⟩) fun vs s4 ⟨o, H4, I4, ps, eo, e4⟩ => ?_
  subst eo e4
  have I5 : Inv X pins σ H4 { s4 with heap := s4.heap.push { cls := .type "slice", data := .fields #[vl, vu, vs] } } := I4.kept (t' := s4.toks) fun b ob q => Heap.get?_push_of_some _ q
  obtain ⟨its, r, ht, hz⟩ := I5.tuple hx
  obtain ⟨ua, ub, rfl, ra, rb⟩ := vals2 r
  show wpAny (model X.prog X.w) X.A (subscriptTail e (.Slice none none (some (.UnaryOp .USub (.Constant (.int 1) k p1) p2)) p3) (.ref a) (.ref s4.heap.objs.size)) (EP X pins σ Q) X.xe { s4 with heap := s4.heap.push { cls := .type "slice", data := .fields #[vl, vu, vs] } }
  refine tail_any (ops := [.ref a, .ref s4.heap.objs.size]) ht.typeIs (PyProof.Rows.slot_tuple_getitem.lookup) ?_ (by with_unfolding_all rfl)
  refine item_rev2 ht (Heap.IsSliceOf.new _ vl vu vs) pl pu ps ?_
  refine ⟨.ref _, _, I5.laid (t' := s4.toks) (o := .tup [y, x]) (fun b ob q => Heap.get?_push_of_some _ q) (Nat.le_refl _) ?_, rfl, q _ (I5.hok.fresh (Nat.le_refl _))⟩
  exact ⟨by show 2 ≤ sizeLine; decide, [ub, ua], .cons rb (.cons ra .nil), IsTup.new _ _⟩
end

theorem mem_dims {rows : List (List Int)} {w B : Nat} (h : ∀ r ∈ rows, r.length = w ∧ ∀ y ∈ r, y.natAbs ≤ B) {r : List Int} (hr : r ∈ rows) : r.length = w := (h r hr).1
/-- a table as the program takes it: 1 to 8 rows of 1 to 8 -/
structure TabOk (H : Hp) (p : Addr) (as : List Addr) (rows : List (List Int)) (m w : Nat) : Prop where
  tab : Tab H p as rows
  m_ : rows.length = m
  w_ : ∀ r ∈ rows, r.length = w
  b : 1 ≤ m ∧ m ≤ 8 ∧ 1 ≤ w ∧ w ≤ 8
theorem TabOk.ex {H H' : Hp} {p : Addr} {as : List Addr} {rows : List (List Int)} {m w : Nat} (h : TabOk H p as rows m w) (e : Ex H H') : TabOk H' p as rows m w := ⟨h.tab.ex e, h.m_, h.w_, h.b⟩
theorem TabOk.al {H : Hp} {p : Addr} {as : List Addr} {rows : List (List Int)} {m w : Nat} (h : TabOk H p as rows m w) : as.length = m := by rw [Paired.length h.tab.2, h.m_]
theorem TabOk.row0 {H : Hp} {p : Addr} {as : List Addr} {rows : List (List Int)} {m w : Nat} (h : TabOk H p as rows m w) : ∃ a0 r0, as[0]? = some a0 ∧ rows[0]? = some r0 ∧ H a0 = some (.lst (r0.map V.int)) ∧ r0.length = w ∧ atI (as.map V.ref) 0 = some (.ref a0) := by
  have hb := h.b
  have hl := h.al
  obtain ⟨a0, ha0⟩ : ∃ a0, as[0]? = some a0 := ⟨_, List.getElem?_eq_getElem (by omega)⟩
  obtain ⟨r0, hr0, hh⟩ := paired_get h.tab.2 ha0
  exact ⟨a0, r0, ha0, hr0, hh, h.w_ r0 (List.mem_of_getElem? hr0), atI_nat (j := 0) (by rw [List.getElem?_map, ha0]; rfl)⟩
theorem all_true (n : Nat) : (List.replicate n true).all id = true := by
  induction n with
  | zero => rfl
  | succ n ih => rw [List.replicate_succ, List.all_cons, ih]; rfl
/-- [f(x) for x in xs], each True -/
theorem el_yes {K : PySem.W.Frag} {n j : Nat} {a : Addr} {xs : List V} {te : TE} {vs : List Nat} {σ : L2.St} {H : Hp} (hσ : σ[n]? = some (some (.ref a))) (hx : H a = some (.lst xs)) (hl : xs.length ≤ 1000)
    (hs : ∀ x H', x ∈ xs → Ex H H' → Ev te ((wipe σ vs).set j (some x)) H' (.bl true)) (hw : ∀ x, wipe ((wipe σ vs).set j (some x)) vs = wipe σ vs) : EvL (tLc (iList K (tVar n)) (gName j) tYes te vs) σ H ((List.replicate xs.length true).map V.bl) := by
  intro H0 e0 Q0 q0
  have hx0 := e0 _ _ hx
  refine ⟨_, hσ, a, rfl, ⟨_, SqL.of hx0⟩, fun D hD => ?_⟩
  refine lc_list (K := K) (a := a) (xs := xs) (fun i H' => Ex H0 H' ∧ H' D = some (.lst ((List.replicate i true).map V.bl))) ⟨Ex.new hD, upd_same⟩ (fun i H' _ p => SqL.of (p.1 _ _ hx0)) (fun i x H' gx p => ?_) (fun H' p => ?_)
  · obtain ⟨p1, p2⟩ := p
    have hi := (List.getElem?_eq_some_iff.mp gx).1
    refine ⟨hw _, ?_⟩
    show te _ _ _
    refine hs x H (List.mem_of_getElem? gx) (Ex.refl H) _ (e0.trans p1) _ fun H4 e4 => ?_
    refine ⟨_, e4 _ _ p2, ?_, Ex.mut (p1.trans e4) hD, ?_⟩
    · rw [List.length_map, List.length_replicate]
      exact small1000 (by omega)
    · rw [upd_same, List.replicate_succ', List.map_append]
      rfl
  · obtain ⟨p1, p2⟩ := p
    exact q0 D H' hD p1 p2
theorem ev_all {K : PySem.W.Frag} {ta : TE} {n : Nat} {σ : L2.St} {H : Hp} (h : EvL ta σ H ((List.replicate n true).map V.bl)) : Ev (tCB (rAll K) (tCons ta tNil)) σ H (.bl true) := fun H1 e Q q =>
  h H1 e _ fun p H2 _ e2 hp => ⟨p, _, rfl, SqL.of hp, by rw [all_true]; exact q H2 e2⟩
theorem ev_fn {sp : Sp} {E : XK} {ta : TA} {σ : L2.St} {H : Hp} {vs : List V} {z : V} (h : EvA ta σ H vs) (hs : ∀ H1, Ex H H1 → ∀ Q : VK, (∀ H2, Ex H1 H2 → Q z H2) → sp vs H1 Q E) : Ev (tCall sp [] E ta) σ H z := fun H1 e Q q =>
  h H1 e _ fun H2 e2 => by
    rw [List.append_nil]
    exact hs H2 (e.trans e2) Q fun H3 e3 => q H3 (e2.trans e3)
theorem ev_isi {K : PySem.W.Frag} {ta tb : TE} {σ : L2.St} {H : Hp} {x : V} {n : String} {t : String} {b : Bool} (ha : Ev ta σ H x) (hb : Ev tb σ H (.ty n)) (ht : ∀ H1, Ex H H1 → TyX K H1 x (.type t)) (hk : kitB t n = some b) : Ev (tCB (rIsi K) (tCons ta (tCons tb tNil))) σ H (.bl b) := fun H1 e Q q =>
  ha H1 e _ fun H2 e2 => hb H2 (e.trans e2) _ fun H3 e3 => ⟨x, .ty n, _, _, b, rfl, .ty n, ht H3 ((e.trans e2).trans e3), kit_ty hk, q H3 (e2.trans e3)⟩
theorem rv_le {i j : Int} {H : Hp} : RV (rI0 fun i j => .bl (decide (i ≤ j))) (.int i) (.int j) H (.bl (decide (i ≤ j))) := rv_I0
/-- a rising list of places below n -/
def Rising (n : Int) (ns : List Int) : Prop := (∀ x ∈ ns, 0 ≤ x ∧ x < n) ∧ ns.Pairwise (· < ·)

/-- [[..] for y in ys], ys whole numbers: new rows -/
theorem lc_rowsL {K : PySem.W.Frag} {nn : Nat} {te : TE} {vs : List Nat} {j : Nat} {σ : L2.St} {H : Hp} {Q : VK} {a : Addr} {ys : List Int} (F : Int → List Int) (hσ : σ[nn]? = some (some (.ref a))) (hx : H a = some (.lst (ys.map V.int))) (hm : ys.length ≤ 1000) (hw : ∀ u, wipe ((wipe σ vs).set j (some u)) vs = wipe σ vs)
    (he : ∀ y H1, y ∈ ys → Ex H H1 → EvL te ((wipe σ vs).set j (some (.int y))) H1 ((F y).map V.int))
    (k : ∀ p as H2, H p = none → (∀ a ∈ as, H a = none) → as.Nodup → p ∉ as → Ex H H2 → Tab H2 p as (ys.map F) → Q (.ref p) H2) : tLc (iList K (tVar nn)) (gName j) tYes te vs σ H Q := by
  refine ⟨_, hσ, a, rfl, ⟨_, SqL.of hx⟩, fun D hD => ?_⟩
  refine lc_list (K := K) (a := a) (xs := ys.map V.int) (fun i H' => ∃ as, Ex H H' ∧ H' D = some (.lst (as.map V.ref)) ∧ RowsAt H' as ((ys.take i).map F) ∧ (∀ a ∈ as, H a = none) ∧ as.Nodup ∧ D ∉ as) ⟨[], Ex.new hD, upd_same, .nil, fun a ha => by simp at ha, List.nodup_nil, by simp⟩ (fun i H' _ ⟨_, p1, _⟩ => SqL.of (p1 _ _ hx)) (fun i x H' gx p => ?_) (fun H' p => ?_)
  · obtain ⟨as, p1, p2, p3, p4, p5, p6⟩ := p
    rw [List.getElem?_map] at gx
    obtain ⟨y, hy, rfl⟩ := Option.map_eq_some_iff.mp gx
    have hi := (List.getElem?_eq_some_iff.mp hy).1
    have el : as.length = i := by rw [Paired.length p3, List.length_map, List.length_take]; omega
    refine ⟨hw _, ?_⟩
    show te _ H' _
    refine he y H' (List.mem_of_getElem? hy) p1 H' (Ex.refl _) _ fun r H4 nr e4 hr => ?_
    have nrD : r ≠ D := fun z => by
      rw [z, p2] at nr
      cases nr
    refine ⟨_, e4 _ _ p2, ?_, as ++ [r], Ex.mut (p1.trans e4) hD, ?_, ?_, ?_, ?_, ?_⟩
    · rw [List.length_map, el]
      exact small1000 (by omega)
    · rw [upd_same, List.map_append]
      rfl
    · rw [take_snoc hy, List.map_append]
      refine paired_snoc (rows_but p3 fun b hb o g => ?_) ?_
      · rw [upd_ne (fun z => p6 (by rw [← z]; exact hb))]
        exact e4 _ _ g
      · rw [upd_ne nrD]
        exact hr
    · intro b hb
      rcases List.mem_append.mp hb with h | h
      · exact p4 b h
      · rw [show b = r by simpa using h]
        exact fresh_back p1 nr
    · refine List.nodup_append.mpr ⟨p5, by simp, fun b hb c hc z => ?_⟩
      have : c = r := by simpa using hc
      have hb' : r ∈ as := by rw [← this, ← z]; exact hb
      obtain ⟨x, _, hx'⟩ := paired_mem p3 hb'
      rw [nr] at hx'
      cases hx'
    · intro hb
      rcases List.mem_append.mp hb with h | h
      · exact p6 h
      · exact nrD (by simpa using h : D = r).symm
  · obtain ⟨as, p1, p2, p3, p4, p5, p6⟩ := p
    rw [List.length_map, List.take_length] at p3
    exact k D as H' hD p4 p5 p6 p1 ⟨p2, p3⟩
/-- [f(y) for y in ys], ys whole numbers -/
theorem el_mapI {K : PySem.W.Frag} {n : Nat} {te : TE} {vs : List Nat} {j : Nat} {σ : L2.St} {H : Hp} {a : Addr} {qs : List Int} (f : Int → Int) (hσ : σ[n]? = some (some (.ref a))) (hx : H a = some (.lst (qs.map V.int))) (hz : qs.length ≤ 1000)
    (hw : ∀ u, wipe ((wipe σ vs).set j (some u)) vs = wipe σ vs)
    (he : ∀ y H1, y ∈ qs → Ex H H1 → Ev te ((wipe σ vs).set j (some (.int y))) H1 (.int (f y))) : EvL (tLc (iList K (tVar n)) (gName j) tYes te vs) σ H ((qs.map f).map V.int) := fun H1 e1 Q q => by
  have hx1 := e1 _ _ hx
  refine ⟨_, hσ, a, rfl, ⟨_, SqL.of hx1⟩, fun D hD => ?_⟩
  refine lc_list (K := K) (a := a) (xs := qs.map V.int) (fun i H' => Ex H1 H' ∧ H' D = some (.lst (((qs.map f).take i).map V.int))) ⟨Ex.new hD, upd_same⟩ (fun i H' _ p => SqL.of (p.1 _ _ hx1)) (fun i x H' gx p => ?_) (fun H' p => ?_)
  · obtain ⟨p1, p2⟩ := p
    rw [List.getElem?_map] at gx
    obtain ⟨b, hb, rfl⟩ := Option.map_eq_some_iff.mp gx
    refine ⟨hw _, ?_⟩
    show te _ _ _
    refine he b H (List.mem_of_getElem? hb) (Ex.refl H) _ (e1.trans p1) _ fun H4 e4 => ?_
    refine ⟨_, e4 _ _ p2, ?_, Ex.mut (p1.trans e4) hD, ?_⟩
    · rw [List.length_map, List.length_take, List.length_map]
      exact small1000 (by omega)
    · have hzz : (qs.map f)[i]? = some (f b) := by rw [List.getElem?_map, hb]; rfl
      rw [upd_same, take_snoc hzz, List.map_append]
      rfl
  · obtain ⟨p1, p2⟩ := p
    rw [List.take_of_length_le (by rw [List.length_map, List.length_map]; omega)] at p2
    exact q D H' hD p1 p2
theorem TabOk.row {H : Hp} {p : Addr} {as : List Addr} {rows : List (List Int)} {m w : Nat} (h : TabOk H p as rows m w) {i : Int} (h0 : 0 ≤ i) (h1 : i < m) : ∃ a r, atI (as.map V.ref) i = some (.ref a) ∧ rows[i.toNat]? = some r ∧ H a = some (.lst (r.map V.int)) ∧ r.length = w := by
  have hl := h.al
  obtain ⟨a, ha⟩ : ∃ a, as[i.toNat]? = some a := ⟨_, List.getElem?_eq_getElem (by omega)⟩
  obtain ⟨r, hr, hh⟩ := paired_get h.tab.2 ha
  exact ⟨a, r, at_of (j := i.toNat) (by omega) (by rw [List.getElem?_map, ha]; rfl), hr, hh, h.w_ r (List.mem_of_getElem? hr)⟩
theorem atI_rowI {ns : List Int} {i : Int} (h0 : 0 ≤ i) (h : i < ns.length) : atI (ns.map V.int) i = some (.int (ns[i.toNat]?.getD 0)) := by
  have e : i = ((i.toNat : Nat) : Int) := by omega
  have h2 := atI_row (ns := ns) (kk := i.toNat) (by omega)
  rw [← e] at h2
  exact h2

/-- [[..] for x, row in zip(xs, rows)]: new rows -/
theorem lc_rowsZ {K : PySem.W.Frag} {ta : TA} {te : TE} {vs : List Nat} {j1 j2 : Nat} {σ : L2.St} {H : Hp} {Q : VK} {a b : Addr} {xs : List Int} {as : List Addr} {rows : List (List Int)} (F : Int → List Int → List Int) (h : EvA ta σ H [.ref a, .ref b]) (hx : H a = some (.lst (xs.map V.int))) (ht : Tab H b as rows) (hl : xs.length = rows.length) (hz : xs.length ≤ 1000)
    (hw : ∀ u v, wipe (((wipe σ vs).set j1 (some u)).set j2 (some v)) vs = wipe σ vs)
    (he : ∀ x c r H1, x ∈ xs → r ∈ rows → H c = some (.lst (r.map V.int)) → Ex H H1 → EvL te (((wipe σ vs).set j1 (some (.int x))).set j2 (some (.ref c))) H1 ((F x r).map V.int))
    (k : ∀ p bs H2, H p = none → (∀ a ∈ bs, H a = none) → bs.Nodup → p ∉ bs → Ex H H2 → Tab H2 p bs (List.zipWith F xs rows) → Q (.ref p) H2) : tLc (iZip K ta) (g2 K j1 j2) tYes te vs σ H Q := by
  refine h H (Ex.refl H) _ fun H1 e1 => ⟨a, b, _, _, rfl, SqL.of (e1 _ _ hx), SqL.of (e1 _ _ ht.1), fun D hD => ?_⟩
  have hDH : H D = none := fresh_back e1 hD
  have el0 : as.length = rows.length := Paired.length ht.2
  refine lc_zip (xs := xs.map V.int) (ys := as.map V.ref) (by rw [List.length_map, List.length_map, el0]; exact hl) (fun i H' => ∃ bs, Ex H1 H' ∧ H' D = some (.lst (bs.map V.ref)) ∧ RowsAt H' bs ((List.zipWith F xs rows).take i) ∧ (∀ a ∈ bs, H a = none) ∧ bs.Nodup ∧ D ∉ bs) ⟨[], Ex.new hD, upd_same, .nil, fun a ha => by simp at ha, List.nodup_nil, by simp⟩ (fun i H' ⟨_, p1, _⟩ => ⟨SqL.of ((e1.trans p1) _ _ hx), SqL.of ((e1.trans p1) _ _ ht.1)⟩) (fun i x y T H' gx gy p nT => ?_) (fun H' p => ?_)
  · obtain ⟨bs, p1, p2, p3, p4, p5, p6⟩ := p
    rw [List.getElem?_map] at gx gy
    obtain ⟨x', hx', rfl⟩ := Option.map_eq_some_iff.mp gx
    obtain ⟨c, hc, rfl⟩ := Option.map_eq_some_iff.mp gy
    obtain ⟨r, hr, hh⟩ := paired_get ht.2 hc
    have hi := (List.getElem?_eq_some_iff.mp hx').1
    have el : bs.length = i := by rw [Paired.length p3, List.length_take, List.length_zipWith]; omega
    have xT : Ex H' (upd H' T (.tup [.int x', .ref c])) := Ex.new nT
    refine ⟨T, _, rfl, SqT.of upd_same, rfl, _, _, rfl, _, _, rfl, rfl, hw _ _, ?_⟩
    show te _ _ _
    refine he x' c r H (List.mem_of_getElem? hx') (List.mem_of_getElem? hr) hh (Ex.refl H) _ ((e1.trans p1).trans xT) _ fun q H4 nq e4 hq => ?_
    have nqD : q ≠ D := fun z => by
      rw [z, xT _ _ p2] at nq
      cases nq
    have nqH' : H' q = none := fresh_back xT nq
    refine ⟨_, e4 _ _ (xT _ _ p2), ?_, bs ++ [q], Ex.mut ((p1.trans xT).trans e4) hD, ?_, ?_, ?_, ?_, ?_⟩
    · rw [List.length_map, el]
      exact small1000 (by omega)
    · rw [upd_same, List.map_append]
      rfl
    · have hzz : (List.zipWith F xs rows)[i]? = some (F x' r) := by rw [List.getElem?_zipWith, hx', hr]
      rw [take_snoc hzz]
      refine paired_snoc (rows_but p3 fun b hb o g => ?_) ?_
      · rw [upd_ne (fun z => p6 (by rw [← z]; exact hb))]
        exact e4 _ _ (xT _ _ g)
      · rw [upd_ne nqD]
        exact hq
    · intro b hb
      rcases List.mem_append.mp hb with h | h
      · exact p4 b h
      · rw [show b = q by simpa using h]
        exact fresh_back (e1.trans p1) nqH'
    · refine List.nodup_append.mpr ⟨p5, by simp, fun b hb c' hc' z => ?_⟩
      have : c' = q := by simpa using hc'
      have hb' : q ∈ bs := by rw [← this, ← z]; exact hb
      obtain ⟨y, _, hy⟩ := paired_mem p3 hb'
      rw [nqH'] at hy
      cases hy
    · intro hb
      rcases List.mem_append.mp hb with h | h
      · exact p6 h
      · exact nqD (by simpa using h : D = q).symm
  · obtain ⟨bs, p1, p2, p3, p4, p5, p6⟩ := p
    rw [List.take_of_length_le (by rw [List.length_zipWith, List.length_map]; omega)] at p3
    exact k D bs H' hDH p4 p5 p6 (e1.trans p1) ⟨p2, p3⟩
theorem flat_ints (ns : List Int) : (ns.map V.int).all flatV = true := by
  rw [List.all_eq_true]
  intro x hx
  obtain ⟨i, _, rfl⟩ := List.mem_map.mp hx
  rfl
/-- -1 at the picked places, else 1 -/
def sgnAt (ns : List Int) (kk : Nat) : Int := if inV (.int (kk : Int)) (ns.map V.int) = true then -1 else 1
theorem sgnAt_two (ns : List Int) (kk : Nat) : sgnAt ns kk = 1 ∨ sgnAt ns kk = -1 := by
  unfold sgnAt
  split
  · exact .inr rfl
  · exact .inl rfl
def sgns (ns : List Int) (m : Nat) : List Int := (List.range m).map (sgnAt ns)
theorem sgns_mem {ns : List Int} {m : Nat} {x : Int} (h : x ∈ sgns ns m) : x = 1 ∨ x = -1 := by
  obtain ⟨kk, _, rfl⟩ := List.mem_map.mp h
  exact sgnAt_two ns kk
def signedOf (rows : List (List Int)) (ris cis : List Int) (m w : Nat) : List (List Int) := List.zipWith (fun s r => List.zipWith (fun c y => s * c * y) (sgns cis w) r) (sgns ris m) rows
theorem bd_sgn {x : Int} (h : x = 1 ∨ x = -1) : Bd 2 x := by
  rcases h with rfl | rfl <;> (unfold Bd; decide)

section
variable {P : Program} {w : World} {K : PySem.W.Frag} {mg : Str → Option Value} {base : Heap}
-- DEF is_whole

def sp_is_whole (K : PySem.W.Frag) : Sp := fun vs H Q _ => ∃ (x : V) (t : String), vs = [x] ∧ TyX K H x (.type t) ∧ tyOk t ∧ Q (.bl (t == "int")) H

theorem ok_is_whole (T : Txt K mg) : FnOk P w K mg base CX0 1 T.f_is_whole T.fd_is_whole ["thing"] (sp_is_whole K) := by
  refine Fun.ok T.F_is_whole sc_is_whole (fun vs H Q E h => ?_) (fun cdv A outer s H vs Q E hr h => ?_)
  · obtain ⟨_, _, rfl, _⟩ := h; rfl
  · refine ⟨_, (pss_one (ps_ret (pe_and (pe_callB (id := "isinstance") (r := rIsi K) call_isi (by rfl) T.n_isinstance (by decide +kernel) (pa_cons (pv 0) (pa_cons (pe_bltn (v := .ty "int") (by rfl) T.n_int (by decide +kernel) rfl) pa_nil))) (pe_one (pe_not (pe_callB (id := "isinstance") (r := rIsi K) call_isi (by rfl) T.n_isinstance (by decide +kernel) (pa_cons (pv 0) (pa_cons (pe_bltn (v := .ty "bool") (by rfl) T.n_bool (by decide +kernel) rfl) pa_nil)))))))), ?_⟩
    obtain ⟨x, t, rfl, ty, ok, q⟩ := h
    refine ⟨x, rfl, x, _, _, _, _, rfl, ClsV.ty _, ty, kit_ty (ty_int ok), _, rfl, ?_⟩
    rcases ok with rfl | rfl | rfl | rfl | rfl | rfl | rfl
    · exact iteT ⟨x, rfl, x, _, _, _, _, rfl, ClsV.ty _, ty, kit_ty (ty_bool (.inl rfl)), _, rfl, q⟩
    · exact iteT ⟨x, rfl, x, _, _, _, _, rfl, ClsV.ty _, ty, kit_ty (ty_bool (.inr (.inl rfl))), _, rfl, q⟩
    all_goals exact iteF q
-- DEF _law_source_of

def sp__law_source_of (K : PySem.W.Frag) : Sp := fun vs H Q _ => ∃ c : Int, vs = [.int c] ∧ ∀ (s : Addr) (H' : Hp), H s = none → Ex H H' → SrcAt H' s 0 → Q (.ref s) H'

theorem ok__law_source_of (T : Txt K mg) : FnOk P w K mg base CX0 1 T.f__law_source_of T.fd__law_source_of ["_law_cell"] (sp__law_source_of K) := by
  refine Fun.ok T.F__law_source_of sc__law_source_of (fun vs H Q E h => ?_) (fun cdv A outer s H vs Q E hr h => ?_)
  · obtain ⟨_, rfl, _⟩ := h; rfl
  · refine ⟨_, (pss_one (ps_ret (pe_lst (pa_cons (pe_op op_mul (pv 0) (pe_callTy (T := "int") call_int1 (by rfl) T.n_int (by decide +kernel) (pa_cons (pe_cmpR op_ge (pv 0) (pe_op op_pow pe_int pe_int) (nomark _)) pa_nil))) (pa_cons (pe_op op_mod (pv 0) pe_int) (pa_cons pe_int pa_nil)))))), ?_⟩
    obtain ⟨c, rfl, k⟩ := h
    refine ⟨_, rfl, _, rfl, _, _, rfl, rfl, ⟨by decide, by decide, by decide⟩, _, _, rfl, rfl, .inr ⟨_, rfl, _, _, rfl, rfl, .inr ?_, ?_⟩⟩
    · split <;> exact ⟨by decide, by decide⟩
    refine ⟨_, rfl, _, _, rfl, rfl, (by show (0 : Int) < 2147483647; decide), (by show 3 ≤ sizeLine; decide), fun s hs => ?_⟩
    exact k s _ hs (Ex.new hs) ⟨_, _, _, upd_same, Int.emod_nonneg _ (by decide), Int.emod_lt_of_pos _ (by decide), Int.le_refl _, Int.le_refl _⟩
-- DEF _law_next

def sp__law_next (K : PySem.W.Frag) : Sp := fun vs H Q _ => ∃ (s : Addr) (m n : Int), vs = [.ref s, .int m] ∧ SrcAt H s n ∧ n ≤ 1000000000 ∧ 0 < m ∧ Bd 8000 m ∧
  ∀ (f : Int) (H' : Hp), 0 ≤ f → f < m → ExB s H H' → SrcAt H' s (n + 1) → Q (.int f) H'

theorem ok__law_next (T : Txt K mg) : FnOk P w K mg base CX0 1 T.f__law_next T.fd__law_next ["_law_source", "_law_many"] (sp__law_next K) := by
  refine Fun.ok T.F__law_next sc__law_next (fun vs H Q E h => ?_) (fun cdv A outer s H vs Q E hr h => ?_)
  · obtain ⟨_, _, _, rfl, _⟩ := h; rfl
  · refine ⟨_, (pss_cons (ps_if (pt_cmpR op_gt (pe_ix (r := rIxL K) ix_list (pv 0) pe_int (fun _ _ => rfl)) pe_int (nomark _))
        (pss_cons (ps_set (i := 2) sc__law_next.nd rfl (by first | exact Or.inl rfl | exact Or.inr rfl) (pe_op op_mod (pe_ix (r := rIxL K) ix_list (pv 0) pe_int (fun _ _ => rfl)) (pv 1)))
          (pss_cons (ps_asg (pe_op op_fdivW (pe_ix (r := rIxL K) ix_list (pv 0) pe_int (fun _ _ => rfl)) (pv 1)) (pg_sub (pv 0) pe_int set_list))
          (pss_one (ps_ret (pv 2)))))
        pss_nil)
      (pss_cons (ps_asg (pe_op op_add (pe_ix (r := rIxL K) ix_list (pv 0) pe_int (fun _ _ => rfl)) pe_int) (pg_sub (pv 0) pe_int set_list))
      (pss_cons (ps_set (i := 3) sc__law_next.nd rfl (by first | exact Or.inl rfl | exact Or.inr rfl) (pe_ix (r := rIxL K) ix_list (pe_lst (pa_cons pe_int (pa_cons pe_int (pa_cons pe_int (pa_cons pe_int (pa_cons pe_int (pa_cons pe_int (pa_cons pe_int pa_nil)))))))) (pe_op op_mod (pe_ix (r := rIxL K) ix_list (pv 0) pe_int (fun _ _ => rfl)) pe_int) (fun _ _ => rfl)))
      (pss_cons (ps_set (i := 4) sc__law_next.nd rfl (by first | exact Or.inl rfl | exact Or.inr rfl) (pe_op op_mod (pe_op op_pow (pe_op op_add (pe_op op_add (pe_ix (r := rIxL K) ix_list (pv 0) pe_int (fun _ _ => rfl)) (pe_op op_mul pe_int (pe_ix (r := rIxL K) ix_list (pv 0) pe_int (fun _ _ => rfl)))) pe_int) pe_int) (pv 3)))
      (pss_cons (ps_set (i := 4) sc__law_next.nd rfl (by first | exact Or.inl rfl | exact Or.inr rfl) (pe_op op_mod (pe_op op_mul (pe_op op_add (pv 4) (pe_ix (r := rIxL K) ix_list (pv 0) pe_int (fun _ _ => rfl))) (pe_op op_add (pe_op op_fdiv (pv 4) pe_int) pe_int)) (pv 3)))
      (pss_one (ps_ret (pe_op op_mod (pe_op op_fdiv (pv 4) pe_int) (pv 1))))))))), ?_⟩
    obtain ⟨s, m, n, rfl, ⟨p, u, r, hs, hu0, hu1, hr0, hr1⟩, hn, hm, bm, k⟩ := h
    refine ⟨_, rfl, s, _, _, _, rfl, rfl, SqL.of hs, rfl, _, _, rfl, rfl, _, rfl, ?_⟩
    refine ite2 (fun hp => ?_) (fun _ => ?_)
    · refine ⟨_, rfl, s, _, _, _, rfl, rfl, SqL.of hs, rfl, _, rfl, _, _, rfl, rfl, hm, ?_⟩
      refine ⟨_, rfl, s, _, _, _, rfl, rfl, SqL.of hs, rfl, _, rfl, _, _, rfl, rfl, Bd.divOk hm (bm.mono (by decide : 8000 ≤ 9000)), ?_⟩
      refine ⟨_, rfl, s, _, _, 0, rfl, rfl, hs, rfl, ?_⟩
      refine ⟨_, rfl, ?_⟩
      exact k _ _ (Int.emod_nonneg _ (by omega)) (Int.emod_lt_of_pos _ hm) (ExB.upd _ _ _) ⟨_, _, _, upd_same, hu0, hu1, hr0, by omega⟩
    · refine ⟨_, rfl, s, _, _, _, rfl, rfl, SqL.of hs, rfl, _, _, rfl, rfl, ?_⟩
      refine ⟨_, rfl, s, _, _, 2, rfl, rfl, hs, rfl, ?_⟩
      have hs2 : upd H s (.lst [.int p, .int u, .int (r + 1)]) s = some (.lst [.int p, .int u, .int (r + 1)]) := upd_same
      show tSeq _ _ _ _ (upd H s (.lst [.int p, .int u, .int (r + 1)]))
      generalize hH : upd H s (.lst [.int p, .int u, .int (r + 1)]) = H2 at hs2 ⊢
      refine ⟨(by show 7 ≤ sizeLine; decide), fun l hl => ?_⟩
      have nls : s ≠ l := ne_of_none hs2 hl
      have hs3 : upd H2 l (.lst [V.int 2147483647, V.int 2147483629, V.int 2147483587, V.int 2147483579, V.int 2147483563, V.int 2147483549, V.int 2147483543]) s = some (.lst [.int p, .int u, .int (r + 1)]) := by
        rw [upd_ne nls]
        exact hs2
      obtain ⟨pr, hpr, hp0, hp1⟩ := prime_at (r + 1) (by omega)
      refine ⟨_, rfl, s, _, _, _, rfl, rfl, SqL.of hs3, rfl, _, _, rfl, rfl, (by show (0 : Int) < 7; decide), l, _, _, _, rfl, rfl, SqL.of upd_same, hpr, ?_⟩
      have eH : ExB s H2 (upd H2 l (.lst [V.int 2147483647, V.int 2147483629, V.int 2147483587, V.int 2147483579, V.int 2147483563, V.int 2147483549, V.int 2147483543])) := ExB.of (Ex.new hl)
      generalize upd H2 l (.lst [V.int 2147483647, V.int 2147483629, V.int 2147483587, V.int 2147483579, V.int 2147483563, V.int 2147483549, V.int 2147483543]) = H3 at hs3 eH ⊢
      -- figure
      refine ⟨_, rfl, s, _, _, _, rfl, rfl, SqL.of hs3, rfl, _, rfl, s, _, _, _, rfl, rfl, SqL.of hs3, rfl, _, _, rfl, rfl, .inl ⟨by decide, by decide⟩, _, _, rfl, rfl, _, _, rfl, rfl, _, _, rfl, rfl, ⟨by decide, by decide, ?_⟩, ?_⟩
      · show (u + 7919 * (r + 1) + 1).natAbs < 2 ^ 64
        omega
      refine ⟨_, rfl, _, _, rfl, rfl, hp0, ?_⟩
      have f0 : 0 ≤ (u + 7919 * (r + 1) + 1) ^ (5 : Int).toNat % pr := Int.emod_nonneg _ (by omega)
      have f1 : (u + 7919 * (r + 1) + 1) ^ (5 : Int).toNat % pr < pr := Int.emod_lt_of_pos _ hp0
      show tSeq _ _ _ [some (.ref s), some (.int m), _, some (.int pr), some (.int ((u + 7919 * (r + 1) + 1) ^ (5 : Int).toNat % pr))] _
      generalize (u + 7919 * (r + 1) + 1) ^ (5 : Int).toNat % pr = f at f0 f1 ⊢
      refine ⟨_, rfl, _, rfl, s, _, _, _, rfl, rfl, SqL.of hs3, rfl, _, _, rfl, rfl, ?_⟩
      refine ⟨_, rfl, _, _, rfl, rfl, ⟨by decide, by decide⟩, _, _, rfl, rfl, _, _, rfl, rfl, .inl ?_, ?_⟩
      · constructor <;> omega
      refine ⟨_, rfl, _, _, rfl, rfl, hp0, ?_⟩
      refine ⟨_, rfl, _, _, rfl, rfl, ⟨by decide, by decide⟩, _, rfl, _, _, rfl, rfl, hm, ?_⟩
      refine k _ _ (Int.emod_nonneg _ (by omega)) (Int.emod_lt_of_pos _ hm) (ExB.trans ?_ eH) ⟨_, _, _, hs3, hu0, hu1, by omega, by omega⟩
      rw [← hH]
      exact ExB.upd _ _ _
-- DEF _law_cell_at

def sp__law_cell_at (K : PySem.W.Frag) : Sp := fun vs H Q _ => ∃ (a : Addr) (ns : List Int) (k : Int), vs = [.ref a, .int k] ∧ SqL K H a (ns.map V.int) ∧ 0 ≤ k ∧ ∀ c : Int, Q (.int c) H

theorem ok__law_cell_at (T : Txt K mg) : FnOk P w K mg base CX0 1 T.f__law_cell_at T.fd__law_cell_at ["_law_script", "_law_k"] (sp__law_cell_at K) := by
  refine Fun.ok T.F__law_cell_at sc__law_cell_at (fun vs H Q E h => ?_) (fun cdv A outer s H vs Q E hr h => ?_)
  · obtain ⟨_, _, _, rfl, _⟩ := h; rfl
  · refine ⟨_, (pss_cons (ps_if (pt_cmpR op_lt (pv 1) (pe_callB (id := "len") (r := rLenS K) call_len_seq (by rfl) T.n_len PySem.boot_len (pa_cons (pv 0) pa_nil)) (nomark _))
        (pss_one (ps_ret (pe_ix (r := rIxL K) ix_list (pv 0) (pv 1) (fun _ _ => rfl))))
        pss_nil)
      (pss_one (ps_ret pe_int))), ?_⟩
    obtain ⟨a, ns, k, rfl, hS, hk, q⟩ := h
    refine ⟨_, rfl, _, rfl, a, _, rfl, .inl hS, _, _, rfl, rfl, _, rfl, ?_⟩
    refine ite2 (fun hp => ?_) (fun _ => q 0)
    have hlt : k < ((ns.map V.int).length : Int) := of_decide_eq_true hp
    rw [List.length_map] at hlt
    have hn : k.toNat < ns.length := by omega
    have g : (ns.map V.int)[k.toNat]? = some (.int ns[k.toNat]) := by
      rw [List.getElem?_map, List.getElem?_eq_getElem hn]
      rfl
    refine ⟨_, rfl, _, rfl, a, _, k, _, rfl, rfl, hS, at_of (j := k.toNat) (by omega) g, ?_⟩
    exact q _
-- DEF _law_net

def sp__law_net (K : PySem.W.Frag) : Sp := fun vs H Q _ => ∃ (pE pA : Addr) (as bs : List Addr) (es qs : List (Int × Int)) (m : Nat), vs = [.ref pE, .ref pA] ∧ es.length = m ∧ 1 ≤ m ∧ m ≤ 8 ∧ H pE = some (.lst (as.map V.ref)) ∧ EdgesAt H as es ∧ H pA = some (.lst (bs.map V.ref)) ∧ EdgesAt H bs qs ∧ qs.length ≤ 8 ∧
  (∀ e ∈ es, 0 ≤ e.1 ∧ e.1 ≤ m ∧ 0 ≤ e.2 ∧ e.2 ≤ m) ∧ (∀ e ∈ qs, 0 ≤ e.1 ∧ e.1 ≤ m ∧ 0 ≤ e.2 ∧ e.2 ≤ m) ∧ Conn es m ∧
  ∀ (rs : List Addr) (rows : List (List Int)) (p : Addr) (H' : Hp), H p = none → (∀ a ∈ rs, H a = none) → rs.Nodup → p ∉ rs → Ex H H' → Tab H' p rs rows → rows.length = m → (∀ r ∈ rows, r.length = qs.length ∧ ∀ y ∈ r, y.natAbs ≤ 100) → Q (.ref p) H'

theorem ok__law_net (T : Txt K mg) : FnOk P w K mg base CX0 1 T.f__law_net T.fd__law_net ["_law_ends_here", "_law_arcs"] (sp__law_net K) := by
  refine Fun.ok T.F__law_net sc__law_net (fun vs H Q E h => ?_) (fun cdv A outer s H vs Q E hr h => ?_)
  · obtain ⟨_, _, _, _, _, _, _, rfl, _⟩ := h; rfl
  · refine ⟨_, (pss_cons (ps_set (i := 2) sc__law_net.nd rfl (by first | exact Or.inl rfl | exact Or.inr rfl) (pe_disp (pps_cons (pe_ix (r := rIxT K) ix_tup (pe_ix (r := rIxL K) ix_list (pv 0) pe_int (fun _ _ => rfl)) pe_int (fun _ _ => rfl)) (pe_op op_rep (pe_lst (pa_cons pe_int pa_nil)) (pe_callB (id := "len") (r := rLenS K) call_len_seq (by rfl) T.n_len PySem.boot_len (pa_cons (pv 0) pa_nil))) pps_nil) (by rfl) (by rfl) (fun z => by cases z) (by decide)))
      (pss_cons (ps_while PassesOwn.never (pt_cmpR op_le (pe_callB (id := "len") call_lenD (by rfl) T.n_len PySem.boot_len (pa_cons (pv 2) pa_nil)) (pe_callB (id := "len") (r := rLenS K) call_len_seq (by rfl) T.n_len PySem.boot_len (pa_cons (pv 0) pa_nil)) (nomark _))
        (pss_one (ps_for PassesOwn.never rfl (pi_enum (by rfl) T.n_enumerate (pa_cons (pv 0) pa_nil)) (pg_tup rfl (pgs_cons (pg_name (i := 3) sc__law_net.nd rfl (by first | exact Or.inl rfl | exact Or.inr rfl)) (pgs_cons (pg_tup rfl (pgs_cons (pg_name (i := 4) sc__law_net.nd rfl (by first | exact Or.inl rfl | exact Or.inr rfl)) (pgs_cons (pg_name (i := 5) sc__law_net.nd rfl (by first | exact Or.inl rfl | exact Or.inr rfl)) pgs_nil))) pgs_nil)))
            (pss_cons (ps_setLc (i := 6) (own := [("_law_other", 7)]) (g := gName 7) (tt := tYes) rfl sc__law_net.nd rfl rfl (sw_true rfl rfl rfl (by decide +kernel)) (pi_range1 (by rfl) T.n_range (pa_cons (pe_callB (id := "len") (r := rLenS K) call_len_seq (by rfl) T.n_len PySem.boot_len (pa_cons (pv 0) pa_nil)) pa_nil)) (blkOk_by (N := ["_law_ends_here", "_law_arcs", "_law_far", "_law_k", "_law_begin", "_law_goal", "_law_step", "_law_other", "_law_a", "_law_b"]) (sc := (defScope s__law_net)) (by decide +kernel)) (fun _ _ _ _ _ => pg_name (i := 7) sc__law_net.nd rfl (Or.inl rfl)) (fun _ _ _ _ _ => pts_nil) (fun _ _ _ _ _ => (pe_callTy (T := "int") call_int1 (by rfl) T.n_int (by decide +kernel) (pa_cons (pe_cmpR op_eq (pv 3) (pv 7) (nomark _)) pa_nil))))
              (pss_one (ps_if (PW.pt (pw_and (pt_cmp (pc_din (hu_of hr) (pv 4) (pv 2))) (pw_and1 (pt_cmp (pc_dnotin (hu_of hr) (pv 5) (pv 2))))))
                (pss_one (ps_dput (hu_of hr) (pv 2) (pv 5) (pe_lc (own := [("_law_a", 8), ("_law_b", 9)]) (wi := iZip K _) (g := gTup K 2 (gCons (gName 8) (gCons (gName 9) gNil))) (tt := tYes) rfl sc__law_net.nd (pi_zip (by rfl) T.n_zip (pa_cons (pe_dget (hu_of hr) (pv 2) (pv 4) (fun _ _ => rfl)) (pa_cons (pv 6) pa_nil))) (blkOk_by (N := ["_law_ends_here", "_law_arcs", "_law_far", "_law_k", "_law_begin", "_law_goal", "_law_step", "_law_other", "_law_a", "_law_b"]) (sc := (defScope s__law_net)) (by decide +kernel)) (fun _ _ _ _ _ => (pg_tup rfl (pgs_cons (pg_name (i := 8) sc__law_net.nd rfl (Or.inl rfl)) (pgs_cons (pg_name (i := 9) sc__law_net.nd rfl (Or.inl rfl)) pgs_nil)))) (fun _ _ _ _ _ => pts_nil) (fun _ _ _ _ _ => (pe_op op_add (pv 8) (pv 9)))) rfl))
                (pss_one (ps_if (PW.pt (pw_and (pt_cmp (pc_din (hu_of hr) (pv 5) (pv 2))) (pw_and1 (pt_cmp (pc_dnotin (hu_of hr) (pv 4) (pv 2))))))
                    (pss_one (ps_dput (hu_of hr) (pv 2) (pv 4) (pe_lc (own := [("_law_a", 8), ("_law_b", 9)]) (wi := iZip K _) (g := gTup K 2 (gCons (gName 8) (gCons (gName 9) gNil))) (tt := tYes) rfl sc__law_net.nd (pi_zip (by rfl) T.n_zip (pa_cons (pe_dget (hu_of hr) (pv 2) (pv 5) (fun _ _ => rfl)) (pa_cons (pv 6) pa_nil))) (blkOk_by (N := ["_law_ends_here", "_law_arcs", "_law_far", "_law_k", "_law_begin", "_law_goal", "_law_step", "_law_other", "_law_a", "_law_b"]) (sc := (defScope s__law_net)) (by decide +kernel)) (fun _ _ _ _ _ => (pg_tup rfl (pgs_cons (pg_name (i := 8) sc__law_net.nd rfl (Or.inl rfl)) (pgs_cons (pg_name (i := 9) sc__law_net.nd rfl (Or.inl rfl)) pgs_nil)))) (fun _ _ _ _ _ => pts_nil) (fun _ _ _ _ _ => (pe_op op_sub (pv 8) (pv 9)))) rfl))
                    pss_nil))))))))
      (pss_one (ps_ret (pe_lc (own := [("_law_k", 3)]) (g := gName 3) (tt := tYes) rfl sc__law_net.nd (pi_range1 (by rfl) T.n_range (pa_cons (pe_callB (id := "len") (r := rLenS K) call_len_seq (by rfl) T.n_len PySem.boot_len (pa_cons (pv 0) pa_nil)) pa_nil)) (blkOk_by (N := ["_law_ends_here", "_law_arcs", "_law_far", "_law_k", "_law_begin", "_law_goal", "_law_step", "_law_other", "_law_a", "_law_b"]) (sc := (defScope s__law_net)) (by decide +kernel)) (fun _ _ _ _ _ => pg_name (i := 3) sc__law_net.nd rfl (Or.inr rfl)) (fun _ _ _ _ _ => pts_nil) (fun _ _ _ _ _ => (pe_lc (own := [("_law_begin", 4), ("_law_goal", 5)]) (wi := iList K _) (g := gTup K 2 (gCons (gName 4) (gCons (gName 5) gNil))) (tt := tYes) rfl sc__law_net.nd (pi_list (pv 1)) (blkOk_by (N := ["_law_ends_here", "_law_arcs", "_law_far", "_law_k", "_law_begin", "_law_goal", "_law_step", "_law_other", "_law_a", "_law_b"]) (sc := (relS ({ kind := .function, names := [(".0", .local), ("_law_k", .cell), ("_law_arcs", .free), ("_law_far", .free)], isGenerator := false, isCoroutine := false } : Scope) (defScope s__law_net))) (by decide +kernel)) (fun _ _ _ _ _ => (pg_tup rfl (pgs_cons (pg_name (i := 4) sc__law_net.nd rfl (Or.inl rfl)) (pgs_cons (pg_name (i := 5) sc__law_net.nd rfl (Or.inl rfl)) pgs_nil)))) (fun _ _ _ _ _ => pts_nil) (fun _ _ _ _ _ => (pe_op op_sub (pe_ix (r := rIxL K) ix_list (pe_dget (hu_of hr) (pv 2) (pv 5) (fun _ _ => rfl)) (pv 3) (fun _ _ => rfl)) (pe_ix (r := rIxL K) ix_list (pe_dget (hu_of hr) (pv 2) (pv 4) (fun _ _ => rfl)) (pv 3) (fun _ _ => rfl))))))))))), ?_⟩
    obtain ⟨pE, pA, as, bs, es, qs, m, rfl, hes, hm1, hm8, hE, hEE, hA, hAE, hq8, he0, hq0, hC, k⟩ := h
    have hal : as.length = m := by rw [Paired.length hEE, hes]
    -- far
    obtain ⟨a0, as', rfl⟩ : ∃ a0 as', as = a0 :: as' := by
      cases as with
      | nil => simp at hal; omega
      | cons a r => exact ⟨a, r, rfl⟩
    obtain ⟨e0, es', rfl, h00⟩ : ∃ e0 es', es = e0 :: es' ∧ H a0 = some (.tup [.int e0.1, .int e0.2]) := by
      cases hEE with
      | cons g t => exact ⟨_, _, rfl, g⟩
    have hE0 := he0 e0 (List.mem_cons_self ..)
    refine fun d nd => ?_
    have x0 : Ex H (upd H d (.dK [])) := Ex.new nd
    refine ⟨_, rfl, pE, _, 0, _, rfl, rfl, SqL.of (x0 _ _ hE), atI_nat (j := 0) rfl, a0, _, 0, _, rfl, rfl, SqT.of (x0 _ _ h00), rfl, ?_⟩
    refine ⟨Nat.le_of_ble_eq_true rfl, fun z1 nz1 => ?_⟩
    have x1 : Ex (upd H d (.dK [])) (upd (upd H d (.dK [])) z1 (.lst [.int 0])) := Ex.new nz1
    refine ⟨_, rfl, pE, _, rfl, .inl (SqL.of ((x0.trans x1) _ _ hE)), z1, _, _, rfl, rfl, upd_same, ?_, ?_, ?_, fun z2 nz2 => ?_⟩
    · rw [List.length_map, hal]; omega
    · rw [List.length_map, hal]; omega
    · rw [List.length_map, hal]
      exact sz_of (by simp; omega)
    have zz : (List.replicate (((a0 :: as').map V.ref).length : Int).toNat [V.int 0]).flatten = (List.replicate m 0).map V.int := by
      rw [List.length_map, hal, Int.toNat_natCast]
      exact rep_flat m
    rw [zz]
    have x2 : Ex (upd (upd H d (.dK [])) z1 (.lst [.int 0])) (upd (upd (upd H d (.dK [])) z1 (.lst [.int 0])) z2 (.lst ((List.replicate m 0).map V.int))) := Ex.new nz2
    have hd2 := (x1.trans x2) _ _ (upd_same (H := H) (a := d) (o := .dK []))
    refine ⟨hd2, [(Sum.inl e0.1, .ref z2)], rfl, Nat.le_of_ble_eq_true rfl, ?_⟩
    have xa := (x0.trans x1).trans x2
    have hz2 : upd (upd (upd H d (.dK [])) z1 (.lst [.int 0])) z2 (.lst ((List.replicate m 0).map V.int)) z2 = some (.lst ((List.replicate m 0).map V.int)) := upd_same
    generalize upd (upd (upd H d (.dK [])) z1 (.lst [.int 0])) z2 (.lst ((List.replicate m 0).map V.int)) = H2 at hd2 xa hz2 ⊢
    clear x0 x1 x2 nz1 nz2 zz
    have z2d : z2 ≠ d := ne_of hz2 hd2 (by intro z; cases z)
    have F0 : FarOk (upd H2 d (.dK (mergeK [] [(Sum.inl e0.1, .ref z2)]))) d m [(Sum.inl e0.1, .ref z2)] [e0.1] := by
      refine ⟨upd_same, rfl, by simp, fun x hx => ?_, fun x v hv => ?_⟩
      · have : x = e0.1 := by simpa using hx
        rw [this]
        exact ⟨hE0.1, hE0.2.1⟩
      · have hx : x = e0.1 ∧ v = .ref z2 := by
          by_cases h : (Sum.inl e0.1 : Key) = Sum.inl x
          · rw [valV_pos (p := (Sum.inl e0.1, V.ref z2)) h] at hv
            exact ⟨(Sum.inl.inj h).symm, (Option.some.inj hv).symm⟩
          · have : valV [((Sum.inl e0.1 : Key), V.ref z2)] (Sum.inl x : Key) = none := by simp [valV, List.find?_cons, h]
            rw [this] at hv
            cases hv
        obtain ⟨_, rfl⟩ := hx
        refine ⟨z2, List.replicate m 0, rfl, ?_, List.length_replicate, fun y hy => ?_⟩
        · rw [upd_ne z2d]
          exact hz2
        · rw [List.eq_of_mem_replicate hy]
          exact Nat.zero_le _
    have XB : ExB d H (upd H2 d (.dK (mergeK [] [(Sum.inl e0.1, .ref z2)]))) := Ex.updB xa
    have ndl : ∀ {b : Addr} {o : HO}, H b = some o → b ≠ d := fun g => ne_of_none g nd
    generalize upd H2 d (.dK (mergeK [] [(Sum.inl e0.1, .ref z2)])) = H3 at F0 XB
    clear hz2 hd2 xa
    -- the loop
    refine ⟨fun μ σ H' => ∃ (y3 y4 y5 y6 y7 y8 y9 : Option V) (kvs : List (Key × V)) (L : List Int), σ = [some (.ref pE), some (.ref pA), some (.ref d), y3, y4, y5, y6, y7, y8, y9] ∧ μ = m + 1 - L.length ∧ ExB d H H' ∧ FarOk H' d m kvs L ∧ 1 ≤ L.length,
      ⟨m, _, _, _, _, _, _, _, _, _, rfl, rfl, XB, F0, Nat.le_refl 1⟩, ?_⟩
    rintro μ σ H4 ⟨y3, y4, y5, y6, y7, y8, y9, kvs, L, rfl, rfl, e4, F4, hL1⟩
    refine ⟨_, rfl, d, kvs, rfl, F4.at_, _, rfl, pE, _, rfl, .inl (SqL.of (e4 _ _ (ndl hE) hE)), _, _, rfl, rfl, _, rfl, ?_⟩
    rw [F4.len, List.length_map, hal]
    refine ite2 (fun hc => ?_) (fun hc => ?_)
    · have hLm : L.length ≤ m := by have := of_decide_eq_true hc; omega
      refine ⟨fun σ' H' => ∃ (y3 y4 y5 y6 y7 y8 y9 : Option V) (kvs' : List (Key × V)) (L' : List Int), σ' = [some (.ref pE), some (.ref pA), some (.ref d), y3, y4, y5, y6, y7, y8, y9] ∧ L.length < L'.length ∧ ExB d H H' ∧ FarOk H' d m kvs' L',
        fun σ' H' ⟨z3, z4, z5, z6, z7, z8, z9, kvs', L', a1, a2, a3, a4⟩ => ⟨m + 1 - L'.length, by omega, z3, z4, z5, z6, z7, z8, z9, kvs', L', a1, rfl, a3, a4, by omega⟩, ?_⟩
      refine ⟨_, rfl, pE, _, rfl, SqL.of (e4 _ _ (ndl hE) hE), for_enum (xs := (a0 :: as').map V.ref) (fun i σ' H' => ∃ (y3 y4 y5 y6 y7 y8 y9 : Option V) (kvs' : List (Key × V)) (L' : List Int), σ' = [some (.ref pE), some (.ref pA), some (.ref d), y3, y4, y5, y6, y7, y8, y9] ∧ ExB d H H' ∧ FarOk H' d m kvs' L' ∧
        (L.length < L'.length ∨ (L' = L ∧ ∀ j, j < i → ∀ e, (e0 :: es')[j]? = some e → (e.1 ∈ L ↔ e.2 ∈ L)))) ?_ (fun i σ' H' ⟨_, _, _, _, _, _, _, _, _, _, x, _, _⟩ => SqL.of (x _ _ (ndl hE) hE)) ?_ ?_⟩
      · exact ⟨_, _, _, _, _, _, _, _, _, rfl, e4, F4, .inr ⟨rfl, fun j hj => absurd hj (Nat.not_lt_zero _)⟩⟩
      · rintro i x T σ' H5 hi ⟨z3, z4, z5, z6, z7, z8, z9, kvs', L', rfl, e5, F5, hor⟩ nT
        rw [List.getElem?_map] at hi
        obtain ⟨ai, hai, rfl⟩ := Option.map_eq_some_iff.mp hi
        obtain ⟨ei, hei, hti⟩ := paired_get hEE hai
        have xT : Ex H5 (upd H5 T (.tup [.int (i : Nat), .ref ai])) := Ex.new nT
        have mi := he0 ei (List.mem_of_getElem? hei)
        refine ⟨T, _, rfl, SqT.of upd_same, rfl, _, _, rfl, _, _, rfl, ⟨ai, _, rfl, SqT.of (xT _ _ (e5 _ _ (ndl hti) hti)), rfl, _, _, rfl, _, _, rfl, rfl, rfl, ?_⟩⟩
        have F6 := F5.ex xT
        have e6 : ExB d H (upd H5 T (.tup [.int (i : Nat), .ref ai])) := e5.trans (ExB.of xT)
        generalize upd H5 T (.tup [.int (i : Nat), .ref ai]) = H6 at F6 e6 ⊢
        -- step
        have Est : EvL (tLc (iRng1 (tCons (tCB (rLenS K) (tCons (tVar 0) tNil)) tNil)) (gName 7) tYes (tCB (fun xs H Q => (∃ i, xs = [V.int i] ∧ Q (V.int i) H) ∨ ∃ k, xs = [V.bl k] ∧ Q (V.int (if k = true then 1 else 0)) H) (tCons (tOp rEq (tVar 3) (tVar 7)) tNil)) [7])
            [some (.ref pE), some (.ref pA), some (.ref d), some (.int (i : Nat)), some (.int ei.1), some (.int ei.2), z6, z7, z8, z9] H6 (((List.range m).map fun o => if decide (V.int (i : Nat) = V.int (o : Nat)) = true then (1 : Int) else 0).map V.int) := by
          have g := el_lcR1 (t := tYes) (te := tCB (fun xs H Q => (∃ i, xs = [V.int i] ∧ Q (V.int i) H) ∨ ∃ k, xs = [V.bl k] ∧ Q (V.int (if k = true then 1 else 0)) H) (tCons (tOp rEq (tVar 3) (tVar 7)) tNil)) (j := 7) (vs := [7]) (σ := [some (.ref pE), some (.ref pA), some (.ref d), some (.int (i : Nat)), some (.int ei.1), some (.int ei.2), z6, z7, z8, z9]) (H := H6) (n := (m : Int)) (ta := tCons (tCB (rLenS K) (tCons (tVar 0) tNil)) tNil)
            (fun _ => true) (fun o => .int (if decide (V.int (i : Nat) = V.int (o : Nat)) = true then 1 else 0)) (ea_cons (ev_is (ev_len (ev_var rfl) (SqL.of (e6 _ _ (ndl hE) hE))) (by rw [List.length_map, hal])) ea_nil) (by omega) (fun x => rfl) (fun o H1 e ho Hx ex Qx qx => qx Hx (Ex.refl _)) (fun o H1 e ho hf H2 e2 Q2 q2 => ⟨_, rfl, _, rfl, rfl, .inr ⟨_, rfl, q2 H2 (Ex.refl _)⟩⟩)
          have eg : given (m : Int).toNat (fun _ => true) (fun o => V.int (if decide (V.int (i : Nat) = V.int (o : Nat)) = true then 1 else 0)) = ((List.range m).map fun o => if decide (V.int (i : Nat) = V.int (o : Nat)) = true then (1 : Int) else 0).map V.int := by
            unfold given
            rw [Int.toNat_natCast, List.filter_eq_self.mpr (fun _ _ => rfl), List.map_map]
            rfl
          rw [eg] at g
          exact g
        refine q_asgL Est fun st H7 _ e7 hst => ?_
        have F7 := F6.ex e7
        have e07 := e6.trans (ExB.of e7)
        have stb : ∀ y ∈ (List.range m).map fun o => if decide (V.int (i : Nat) = V.int (o : Nat)) = true then (1 : Int) else 0, y = 0 ∨ y = 1 := by
          intro y hy
          obtain ⟨o, _, rfl⟩ := List.mem_map.mp hy
          split
          · exact .inr rfl
          · exact .inl rfl
        have stl : ((List.range m).map fun o => if decide (V.int (i : Nat) = V.int (o : Nat)) = true then (1 : Int) else 0).length = m := by
          rw [List.length_map, List.length_range]
        generalize ((List.range m).map fun o => if decide (V.int (i : Nat) = V.int (o : Nat)) = true then (1 : Int) else 0) = sl at hst stb stl
        -- the ifs
        have nxt : ∀ H', ExB d H H' → FarOk H' d m kvs' L' → (ei.1 ∈ L' ↔ ei.2 ∈ L') → ∃ (y3 y4 y5 y6 y7 y8 y9 : Option V) (kvs' : List (Key × V)) (L' : List Int), [some (V.ref pE), some (.ref pA), some (.ref d), some (.int (i : Nat)), some (.int ei.1), some (.int ei.2), some (.ref st), z7, z8, z9] = [some (.ref pE), some (.ref pA), some (.ref d), y3, y4, y5, y6, y7, y8, y9] ∧ ExB d H H' ∧ FarOk H' d m kvs' L' ∧
            (L.length < L'.length ∨ (L' = L ∧ ∀ j, j < i + 1 → ∀ e, (e0 :: es')[j]? = some e → (e.1 ∈ L ↔ e.2 ∈ L))) := by
          intro H' x1 x2 x3
          refine ⟨_, _, _, _, _, _, _, kvs', L', rfl, x1, x2, ?_⟩
          rcases hor with h | ⟨rfl, h⟩
          · exact .inl h
          · refine .inr ⟨rfl, fun j hj e he => ?_⟩
            by_cases hji : j < i
            · exact h j hji e he
            · have : j = i := by omega
              subst this
              rw [hei] at he
              have := Option.some.inj he
              rw [← this]
              exact x3
        have grow : ∀ (x : Int) (a : Addr) (ns : List Int) (H' : Hp), ExB d H H' → FarOk H' d m kvs' L' → x ∉ L' → 0 ≤ x ∧ x ≤ m → H' a = some (.lst (ns.map V.int)) → ns.length = m → (∀ y ∈ ns, y.natAbs ≤ L'.length + 1) → ∃ (y3 y4 y5 y6 y7 y8 y9 : Option V) (kvs2 : List (Key × V)) (L2 : List Int), [some (V.ref pE), some (.ref pA), some (.ref d), some (.int (i : Nat)), some (.int ei.1), some (.int ei.2), some (.ref st), z7, z8, z9] = [some (.ref pE), some (.ref pA), some (.ref d), y3, y4, y5, y6, y7, y8, y9] ∧ ExB d H (upd H' d (.dK (putK kvs' (Sum.inl x) (.ref a)))) ∧ FarOk (upd H' d (.dK (putK kvs' (Sum.inl x) (.ref a)))) d m kvs2 L2 ∧
            (L.length < L2.length ∨ (L2 = L ∧ ∀ j, j < i + 1 → ∀ e, (e0 :: es')[j]? = some e → (e.1 ∈ L ↔ e.2 ∈ L))) := by
          intro x a ns H' x1 x2 x3 x4 x5 x6 x7
          refine ⟨_, _, _, _, _, _, _, _, L' ++ [x], rfl, x1.trans (ExB.upd _ _ _), x2.put x3 x4 x5 x6 x7, .inl ?_⟩
          rw [List.length_append]
          simp only [List.length_cons, List.length_nil]
          rcases hor with h | ⟨rfl, _⟩ <;> omega
        have hkv : kvs'.length < sizeLine := small1000 (by have := F7.len; have := F7.le; omega)
        show tIfS _ _ _ _ [some (V.ref pE), some (.ref pA), some (.ref d), some (.int (i : Nat)), some (.int ei.1), some (.int ei.2), some (.ref st), z7, z8, z9] H7
        refine ⟨_, rfl, _, rfl, d, _, rfl, DGet.k (k := Sum.inl ei.1) F7.at_, _, rfl, ?_⟩
        rw [F7.some_ ei.1]
        have snd : (∀ H', Ex H7 H' → ei.1 ∉ L' ∨ ei.2 ∈ L' → tIfS (tAnd (tB (tDIn (tVar 5) (tVar 2))) (tB (tDNotIn (tVar 4) (tVar 2)))) (sDPut (tVar 2) (tVar 4) (tLc (iZip K (tCons (tDGet (tVar 2) (tVar 5)) (tCons (tVar 6) tNil))) (g2 K 8 9) tYes (tOp (rI0 fun i j => V.int (i - j)) (tVar 8) (tVar 9)) [8, 9])) tNext
            { nx := fun σ' H' => ∃ (y3 y4 y5 y6 y7 y8 y9 : Option V) (kvs' : List (Key × V)) (L' : List Int), σ' = [some (.ref pE), some (.ref pA), some (.ref d), y3, y4, y5, y6, y7, y8, y9] ∧ ExB d H H' ∧ FarOk H' d m kvs' L' ∧ (L.length < L'.length ∨ (L' = L ∧ ∀ j, j < i + 1 → ∀ e, (e0 :: es')[j]? = some e → (e.1 ∈ L ↔ e.2 ∈ L))), rt := Q,
              bk := fun σ' H' => ∃ (y3 y4 y5 y6 y7 y8 y9 : Option V) (kvs' : List (Key × V)) (L' : List Int), σ' = [some (.ref pE), some (.ref pA), some (.ref d), y3, y4, y5, y6, y7, y8, y9] ∧ L.length < L'.length ∧ ExB d H H' ∧ FarOk H' d m kvs' L',
              ct := fun σ' H' => ∃ (y3 y4 y5 y6 y7 y8 y9 : Option V) (kvs' : List (Key × V)) (L' : List Int), σ' = [some (.ref pE), some (.ref pA), some (.ref d), y3, y4, y5, y6, y7, y8, y9] ∧ ExB d H H' ∧ FarOk H' d m kvs' L' ∧ (L.length < L'.length ∨ (L' = L ∧ ∀ j, j < i + 1 → ∀ e, (e0 :: es')[j]? = some e → (e.1 ∈ L ↔ e.2 ∈ L))) }
            [some (V.ref pE), some (.ref pA), some (.ref d), some (.int (i : Nat)), some (.int ei.1), some (.int ei.2), some (.ref st), z7, z8, z9] H') := by
          intro H' x1 hno
          have F8 := F7.ex x1
          have e8 := e07.trans (ExB.of x1)
          refine ⟨_, rfl, _, rfl, d, _, rfl, DGet.k (k := Sum.inl ei.2) F8.at_, _, rfl, ?_⟩
          rw [F8.some_ ei.2]
          by_cases h2 : ei.2 ∈ L'
          · rw [decide_eq_true h2]
            refine iteT ?_
            refine ⟨_, rfl, _, rfl, d, _, rfl, DGet.k (k := Sum.inl ei.1) F8.at_, _, rfl, ?_⟩
            rw [F8.some_ ei.1]
            by_cases h1 : ei.1 ∈ L'
            · rw [decide_eq_true h1]
              exact iteF (nxt _ e8 F8 ⟨fun _ => h2, fun _ => h1⟩)
            · rw [decide_eq_false h1]
              refine iteT ?_
              obtain ⟨ar, ns, hv, har, hnl, hnb⟩ := F8.get h2
              refine el_zip (K := K) (f := fun i j => i - j) (xs := ns) (ys := sl) (ea_cons (ev_dget rfl rfl F8.at_ hv) (ea_cons (ev_var rfl) ea_nil)) (SqL.of har) (SqL.of (x1 _ _ hst)) (by rw [hnl, stl]) (by omega) (fun u v => rfl) (fun x y H1 _ _ _ => ev_op (ev_var rfl) (ev_var rfl) rv_I0) H' (Ex.refl _) _ fun r H9 nr e9 hr => ?_
              have F9 := F8.ex e9
              refine ⟨_, rfl, _, rfl, d, _, rfl, DPut.k (k := Sum.inl ei.1) F9.at_ hkv, ?_⟩
              refine grow _ r _ H9 (e8.trans (ExB.of e9)) F9 h1 ⟨mi.1, mi.2.1⟩ hr (by rw [List.length_zipWith]; omega) fun y hy => ?_
              obtain ⟨u, v, hu, hv', rfl⟩ : ∃ u v, u ∈ ns ∧ v ∈ sl ∧ u - v = y := by
                obtain ⟨j, hj⟩ := List.getElem?_of_mem hy
                rw [List.getElem?_zipWith] at hj
                cases h3 : ns[j]? with
                | none => rw [h3] at hj; simp at hj
                | some u =>
                  cases h4 : sl[j]? with
                  | none => rw [h3, h4] at hj; simp at hj
                  | some v =>
                    rw [h3, h4] at hj
                    exact ⟨u, v, List.mem_of_getElem? h3, List.mem_of_getElem? h4, Option.some.inj hj⟩
              have b1 := hnb u hu
              rcases stb v hv' with rfl | rfl <;> omega
          · rw [decide_eq_false h2]
            refine iteF ?_
            have h1 : ei.1 ∉ L' := hno.resolve_right h2
            exact nxt _ e8 F8 ⟨fun z => absurd z h1, fun z => absurd z h2⟩
        by_cases h1 : ei.1 ∈ L'
        · rw [decide_eq_true h1]
          refine iteT ?_
          refine ⟨_, rfl, _, rfl, d, _, rfl, DGet.k (k := Sum.inl ei.2) F7.at_, _, rfl, ?_⟩
          rw [F7.some_ ei.2]
          by_cases h2 : ei.2 ∈ L'
          · rw [decide_eq_true h2]
            exact iteF (snd H7 (Ex.refl _) (.inr h2))
          · rw [decide_eq_false h2]
            refine iteT ?_
            obtain ⟨ar, ns, hv, har, hnl, hnb⟩ := F7.get h1
            refine el_zip (K := K) (f := fun i j => i + j) (xs := ns) (ys := sl) (ea_cons (ev_dget rfl rfl F7.at_ hv) (ea_cons (ev_var rfl) ea_nil)) (SqL.of har) (SqL.of hst) (by rw [hnl, stl]) (by omega) (fun u v => rfl) (fun x y H1 _ _ _ => ev_op (ev_var rfl) (ev_var rfl) rv_I0) H7 (Ex.refl _) _ fun r H9 nr e9 hr => ?_
            have F9 := F7.ex e9
            refine ⟨_, rfl, _, rfl, d, _, rfl, DPut.k (k := Sum.inl ei.2) F9.at_ hkv, ?_⟩
            refine grow _ r _ H9 (e07.trans (ExB.of e9)) F9 h2 ⟨mi.2.2.1, mi.2.2.2⟩ hr (by rw [List.length_zipWith]; omega) fun y hy => ?_
            obtain ⟨u, v, hu, hv', rfl⟩ : ∃ u v, u ∈ ns ∧ v ∈ sl ∧ u + v = y := by
              obtain ⟨j, hj⟩ := List.getElem?_of_mem hy
              rw [List.getElem?_zipWith] at hj
              cases h3 : ns[j]? with
              | none => rw [h3] at hj; simp at hj
              | some u =>
                cases h4 : sl[j]? with
                | none => rw [h3, h4] at hj; simp at hj
                | some v =>
                  rw [h3, h4] at hj
                  exact ⟨u, v, List.mem_of_getElem? h3, List.mem_of_getElem? h4, Option.some.inj hj⟩
            have b1 := hnb u hu
            rcases stb v hv' with rfl | rfl <;> omega
        · rw [decide_eq_false h1]
          exact iteF (snd H7 (Ex.refl _) (.inl h1))
      · rintro σ' H5 ⟨z3, z4, z5, z6, z7, z8, z9, kvs', L', rfl, e5, F5, hor⟩
        refine ⟨z3, z4, z5, z6, z7, z8, z9, kvs', L', rfl, ?_, e5, F5⟩
        rcases hor with h | ⟨rfl, h⟩
        · exact h
        · exfalso
          rw [List.length_map, hal] at h
          obtain ⟨x0, hx0⟩ : ∃ x0, x0 ∈ L' := by
            cases L' with
            | nil => simp at hL1
            | cons x r => exact ⟨x, List.mem_cons_self ..⟩
          have hS := hC (fun x => decide (x ∈ L')) (fun e he => by
            obtain ⟨j, hj⟩ := List.getElem?_of_mem he
            have := h j (by have := (List.getElem?_eq_some_iff.mp hj).1; omega) e hj
            by_cases q : e.1 ∈ L'
            · rw [decide_eq_true q, decide_eq_true (this.mp q)]
            · rw [decide_eq_false q, decide_eq_false (fun z => q (this.mpr z))])
          have hall : ∀ x ∈ numsTo (m + 1), x ∈ L' := by
            intro x hx
            have hx := mem_numsTo.mp hx
            have i0 := F5.inn x0 hx0
            have := hS x x0 (by omega) (by omega) i0.1 i0.2
            rw [decide_eq_true hx0] at this
            exact of_decide_eq_true this
          have := nodup_sub (nodup_nums (m + 1)) hall
          rw [numsTo_length] at this
          omega
    · have hLm : m < L.length := by
        have : ¬ ((L.length : Int) ≤ (m : Int)) := fun z => hc (decide_eq_true z)
        omega
      have hall := F4.all hLm
      have hEl := e4 _ _ (ndl hE) hE
      have hAl := e4 _ _ (ndl hA) hA
      have hAE4 : EdgesAt H4 bs qs := EdgesAt.mono (fun a xs g => e4 _ _ (ndl g) g) hAE
      -- the rows
      refine lc_rows (m := m) (F := fun kk => qs.map fun e => (valN H4 kvs e.2 kk) - (valN H4 kvs e.1 kk)) (ea_cons (ev_is (ev_len (ev_var rfl) (SqL.of hEl)) (by rw [List.length_map, hal])) ea_nil) (by omega) (fun u => rfl) ?_ ?_
      · intro kk H5 x5 hkk
        refine el_pairs (K := K) (f := fun e => (valN H4 kvs e.2 kk) - (valN H4 kvs e.1 kk)) rfl (x5 _ _ hAl) (EdgesAt.mono (tups_E x5) hAE4) (by omega) (fun u v => rfl) fun e H6 he x6 => ?_
        have mq := hq0 e he
        obtain ⟨a1, n1, v1, g1, l1, b1⟩ := F4.get (hall e.1 mq.1 mq.2.1)
        obtain ⟨a2, n2, v2, g2, l2, b2⟩ := F4.get (hall e.2 mq.2.2.1 mq.2.2.2)
        have x46 := x5.trans x6
        rw [valN_eq v1 g1, valN_eq v2 g2]
        refine ev_op (ev_op (ev_dget rfl rfl (x46 _ _ F4.at_) v2) (ev_var rfl) (rv_ixL (SqL.of (x46 _ _ g2)) (atI_row (by omega)))) (ev_op (ev_dget rfl rfl (x46 _ _ F4.at_) v1) (ev_var rfl) (rv_ixL (SqL.of (x46 _ _ g1)) (atI_row (by omega)))) rv_I0
      · intro p rs H5 np nrs ndr npr x5 ht
        have hH : ∀ {a : Addr}, H4 a = none → H a = none := fun {a} g => fresh_B e4 g ⟨_, F4.at_⟩
        refine k rs _ p H5 (hH np) (fun a ha => hH (nrs a ha)) ndr npr (fun b o g => (e4.trans (ExB.of x5)) b o (ndl g) g) ht (by rw [List.length_map, List.length_range]) fun r hr => ?_
        obtain ⟨kk, hkk, rfl⟩ := List.mem_map.mp hr
        refine ⟨by rw [List.length_map], fun y hy => ?_⟩
        obtain ⟨e, he, rfl⟩ := List.mem_map.mp hy
        have mq := hq0 e he
        have hkk := List.mem_range.mp hkk
        obtain ⟨a1, n1, v1, g1, l1, b1⟩ := F4.get (hall e.1 mq.1 mq.2.1)
        obtain ⟨a2, n2, v2, g2, l2, b2⟩ := F4.get (hall e.2 mq.2.2.1 mq.2.2.2)
        rw [valN_eq v1 g1, valN_eq v2 g2]
        have c1 : n1[kk]?.getD 0 ∈ n1 := by
          rw [List.getElem?_eq_getElem (by omega)]
          exact List.getElem_mem _
        have c2 : n2[kk]?.getD 0 ∈ n2 := by
          rw [List.getElem?_eq_getElem (by omega)]
          exact List.getElem_mem _
        have d1 := b1 _ c1
        have d2 := b2 _ c2
        have := F4.le
        omega
-- DEF is_row

def sp_is_row (K : PySem.W.Frag) : Sp := fun vs H Q _ => ∃ (a : Addr) (ns : List Int), vs = [.ref a] ∧ H a = some (.lst (ns.map V.int)) ∧ 1 ≤ ns.length ∧ ns.length ≤ 8 ∧ ∀ H', Ex H H' → Q (.bl true) H'

theorem ok_is_row (T : Txt K mg) : FnOk P w K mg base CX0 2 T.f_is_row T.fd_is_row ["thing"] (sp_is_row K) := by
  refine Fun.ok T.F_is_row sc_is_row (fun vs H Q E h => ?_) (fun cdv A outer s H vs Q E hr h => ?_)
  · obtain ⟨_, _, rfl, _⟩ := h; rfl
  · refine ⟨_, (pss_cons (ps_if (PW.pt (pw_or (pt_not (pt_val (pe_callB (id := "isinstance") (r := rIsi K) call_isi (by rfl) T.n_isinstance (by decide +kernel) (pa_cons (pv 0) (pa_cons (pe_bltn (v := .ty "list") (by rfl) T.n_list (by decide +kernel) rfl) pa_nil))))) (pw_or1 (pt_not (pt_chain op_le op_le pe_int (pe_callB (id := "len") (r := rLenS K) call_len_seq (by rfl) T.n_len PySem.boot_len (pa_cons (pv 0) pa_nil)) (pe_glob (v := .int 8) (by rfl) T.g_MOST ⟨_, rfl⟩))))))
        (pss_one (ps_ret pe_bl))
        pss_nil)
      (pss_one (ps_ret (pe_callB (id := "all") (r := rAll K) (cr_all rfl) (by rfl) T.n_all (by decide +kernel) (pa_cons (pe_lc (own := [("entry", 1)]) (wi := iList K _) (g := gName 1) (tt := tYes) rfl sc_is_row.nd (pi_list (pv 0)) (blkOk_by (N := ["thing", "entry"]) (sc := (defScope s_is_row)) (by decide +kernel)) (fun _ _ _ _ _ => pg_name (i := 1) sc_is_row.nd rfl (Or.inl rfl)) (fun _ _ _ _ _ => pts_nil) (fun _ _ _ _ _ => (pe_call (ok_is_whole T) hr (by rfl) T.g_is_whole T.k_is_whole T.b_is_whole .nil pass0 (pa_cons (pv 1) pa_nil)))) pa_nil))))), ?_⟩
    obtain ⟨a, ns, rfl, ha, h1, h8, k⟩ := h
    refine q_when (b := false) (et_is (et_or (et_not (et_B (ev_isi (t := "list") (b := true) (ev_var rfl) ev_c (fun H1 e => .base (.lst (e _ _ ha))) (by decide +kernel)))) (fun _ => et_not (et_test (ev_chain ev_c (ev_is (ev_len (ev_var rfl) (SqL.of ha)) (by rw [List.length_map])) ev_c rv_le rv_le)))) ?_) (fun z => nomatch z) (fun _ H1 e1 => ?_)
    · rw [decide_eq_true (show (1 : Int) ≤ (ns.length : Int) by omega), decide_eq_true (show (ns.length : Int) ≤ 8 by omega)]
      rfl
    refine s_ret (ev_all (el_yes (a := a) rfl (e1 _ _ ha) (by rw [List.length_map]; omega) (fun x H' hx e => ?_) (fun x => rfl))) fun H2 e2 => k H2 (e1.trans e2)
    obtain ⟨i, _, rfl⟩ := List.mem_map.mp hx
    exact ev_fn (ea_cons (ev_var rfl) ea_nil) fun H3 e3 Q3 q3 => ⟨_, "int", rfl, .base (.int _), .inl rfl, q3 H3 (Ex.refl _)⟩
-- DEF _law_one

def sp__law_one (K : PySem.W.Frag) : Sp := fun vs H Q _ => ∃ (s l : Addr) (n : Int) (xs : List V), vs = [.ref s, .ref l] ∧ SrcAt H s n ∧ n ≤ 500000000 ∧ l ≠ s ∧ SqL K H l xs ∧ 0 < xs.length ∧ xs.length ≤ 1000 ∧
  ∀ v ∈ xs, ∀ H', ExB s H H' → SrcAt H' s (n + 1) → Q v H'

theorem ok__law_one (T : Txt K mg) : FnOk P w K mg base CX0 2 T.f__law_one T.fd__law_one ["_law_source", "_law_some"] (sp__law_one K) := by
  refine Fun.ok T.F__law_one sc__law_one (fun vs H Q E h => ?_) (fun cdv A outer s H vs Q E hr h => ?_)
  · obtain ⟨_, _, _, _, rfl, _⟩ := h; rfl
  · refine ⟨_, (pss_one (ps_ret (pe_ix (r := rIxL K) ix_list (pv 1) (pe_call (ok__law_next T) hr (by rfl) T.g__law_next T.k__law_next T.b__law_next .nil pass0 (pa_cons (pv 0) (pa_cons (pe_callB (id := "len") (r := rLenS K) call_len_seq (by rfl) T.n_len PySem.boot_len (pa_cons (pv 1) pa_nil)) pa_nil))) (fun _ _ => rfl)))), ?_⟩
    obtain ⟨s, l, n, xs, rfl, hs, hn, nls, hl, h0, h1, k⟩ := h
    refine ⟨_, rfl, _, rfl, _, rfl, l, xs, rfl, .inl hl, s, _, n, rfl, hs, by omega, by omega, (by show xs.length < 2 ^ 8000; exact Nat.lt_of_le_of_lt h1 (by decide +kernel)), fun f H' f0 f1 e s' => ?_⟩
    have hk : f.toNat < xs.length := by omega
    refine ⟨l, xs, f, xs[f.toNat], rfl, rfl, e.l nls hl, at_of (j := f.toNat) (by omega) (List.getElem?_eq_getElem hk), ?_⟩
    exact k _ (List.getElem_mem hk) H' e s'
-- DEF _law_mixed

def sp__law_mixed (K : PySem.W.Frag) : Sp := fun vs H Q _ => ∃ (s l : Addr) (n : Int) (xs : List V), vs = [.ref s, .ref l] ∧ SrcAt H s n ∧ n ≤ 500000000 ∧ l ≠ s ∧ SqL K H l xs ∧ xs.length ≤ 100 ∧ (∀ v ∈ xs, DatV K H s v) ∧
  ∀ (ys : List V) (p : Addr) (H' : Hp), ys.Perm xs → H p = none → ExB s H H' → SrcAt H' s (n + 100) → H' p = some (.lst ys) → Q (.ref p) H'

theorem ok__law_mixed (T : Txt K mg) : FnOk P w K mg base CX0 2 T.f__law_mixed T.fd__law_mixed ["_law_source", "_law_some"] (sp__law_mixed K) := by
  refine Fun.ok T.F__law_mixed sc__law_mixed (fun vs H Q E h => ?_) (fun cdv A outer s H vs Q E hr h => ?_)
  · obtain ⟨_, _, _, _, rfl, _⟩ := h; rfl
  · refine ⟨_, (pss_cons (ps_set (i := 2) sc__law_mixed.nd rfl (by first | exact Or.inl rfl | exact Or.inr rfl) (pe_callTy (T := "list") (r := rListS K) call_list_of (by rfl) T.n_list (by decide +kernel) (pa_cons (pv 1) pa_nil)))
      (pss_cons (ps_set (i := 3) sc__law_mixed.nd rfl (by first | exact Or.inl rfl | exact Or.inr rfl) (pe_lst pa_nil))
      (pss_cons (ps_while PassesOwn.never (pt_cmpR (r := rNeD K) (op_neD hr.units) (pv 2) (pe_lst pa_nil) (nomark _))
        (pss_one (ps_expr (pe_bm PySem.F.plainAttrs_list PySem.F.slot_list_append PySem.F.type_list_append mt_append (pv 3) (pa_cons (pe_bm PySem.F.plainAttrs_list PySem.F.slot_list_pop PySem.F.type_list_pop mt_popAt (pv 2) (pa_cons (pe_call (ok__law_next T) hr (by rfl) T.g__law_next T.k__law_next T.b__law_next .nil pass0 (pa_cons (pv 0) (pa_cons (pe_callB (id := "len") (r := rLenS K) call_len_seq (by rfl) T.n_len PySem.boot_len (pa_cons (pv 2) pa_nil)) pa_nil))) pa_nil)) pa_nil)))))
      (pss_one (ps_ret (pv 3)))))), ?_⟩
    obtain ⟨s, l, n, xs, rfl, hs, hn, nls, hl, h1, hd, k⟩ := h
    -- left, found
    refine ⟨_, rfl, l, xs, rfl, .inl hl, fun q nq => ?_⟩
    refine ⟨Nat.zero_le _, fun p np => ?_⟩
    have nqs : q ≠ s := hs.ne nq
    have nps : p ≠ s := (hs.ex (Ex.new nq)).ne np
    have npq : p ≠ q := (ne_of_none upd_same np).symm
    have npH : H p = none := fresh_back (Ex.new nq) np
    refine ⟨fun m σ H' => ∃ ls fs : List V, σ = [some (.ref s), some (.ref l), some (.ref q), some (.ref p)] ∧ m = ls.length ∧ (fs ++ ls).Perm xs ∧ H' q = some (.lst ls) ∧ H' p = some (.lst fs) ∧ ExB s H H' ∧ SrcAt H' s (n + fs.length),
      ⟨xs.length, xs, [], rfl, rfl, .refl _, ?_, upd_same, ?_, ?_⟩, ?_⟩
    · rw [upd_ne npq.symm]
      exact upd_same
    · exact ExB.of ((Ex.new nq).trans (Ex.new np))
    · exact (hs.ex ((Ex.new nq).trans (Ex.new np))).le (by simp)
    rintro m σ H1 ⟨ls, fs, rfl, rfl, hp, hq, hpf, e1, s1⟩
    have hlen : fs.length + ls.length = xs.length := by
      rw [← List.length_append]
      exact hp.length_eq
    obtain ⟨ds, d1, d2, d3⟩ := dat_all (K := K) (H := H1) (s := s) (xs := ls) fun v hv => (hd v (hp.mem_iff.mp (List.mem_append_right _ hv))).exB e1
    refine ⟨_, rfl, Nat.zero_le _, fun z nz => ?_⟩
    have x1 : Ex H1 (upd H1 z (.lst [])) := Ex.new nz
    refine ⟨_, _, .lst (SqL.of (x1 _ _ hq)) (dpAll_ex x1 d1), .lst (SqL.of upd_same) .nil, shaped_list d2 (by omega), rfl, _, rfl, ?_⟩
    rw [eqv_nil]
    cases ls with
    | nil =>
      cases d1
      refine iteF ?_
      refine ⟨_, rfl, ?_⟩
      rw [List.append_nil] at hp
      exact k fs p _ hp npH (e1.trans (ExB.of x1)) ((s1.ex x1).le (by have := hp.length_eq; omega)) (x1 _ _ hpf)
    | cons y0 ls0 =>
      cases d1 with
      | cons _ _ =>
        refine iteT ?_
        refine ⟨fun σ' H' => ∃ ls' fs' : List V, σ' = [some (.ref s), some (.ref l), some (.ref q), some (.ref p)] ∧ ls'.length < (y0 :: ls0).length ∧ (fs' ++ ls').Perm xs ∧ H' q = some (.lst ls') ∧ H' p = some (.lst fs') ∧ ExB s H H' ∧ SrcAt H' s (n + fs'.length),
          fun σ' H' ⟨ls', fs', a1, a2, a3, a4, a5, a6, a7⟩ => ⟨ls'.length, a2, ls', fs', a1, rfl, a3, a4, a5, a6, a7⟩, ?_⟩
        refine ⟨_, rfl, .inl ⟨rfl, _, SqL.of (x1 _ _ hpf)⟩, _, rfl, .inl ⟨rfl, _, SqL.of (x1 _ _ hq)⟩, _, rfl, _, rfl, q, _, rfl, .inl (SqL.of (x1 _ _ hq)), s, _, n + fs.length, rfl, s1.ex x1, by omega, (by simp only [List.length_cons]; omega), ?_, fun f H2 f0 f1 e2 s2 => ?_⟩
        · show (((y0 :: ls0).length : Nat) : Int).natAbs < 2 ^ 8000
          rw [Int.natAbs_natCast]
          exact Nat.lt_of_le_of_lt (show (y0 :: ls0).length ≤ 100 by omega) (by decide +kernel)
        · have hk : f.toNat < (y0 :: ls0).length := by omega
          have hy := List.getElem?_eq_getElem hk
          refine ⟨q, _, f, f.toNat, _, rfl, rfl, e2 _ _ nqs (x1 _ _ hq), by omega, by omega, seqIx (n := 0) f0 f1, hy, ?_⟩
          refine ⟨p, fs, _, rfl, rfl, ?_, small1000 (by omega), ?_⟩
          · rw [upd_ne npq]
            exact e2 _ _ nps (x1 _ _ hpf)
          · refine ⟨_, _, rfl, ?_, (perm_pop hy).trans hp, ?_, upd_same, ?_, ?_⟩
            · rw [List.length_eraseIdx_of_lt hk]
              omega
            · rw [upd_ne npq.symm]
              exact upd_same
            · refine fun b o nb h => ?_
              have nbp := ne_of_none h npH
              have nbq := ne_of_none h nq
              rw [upd_ne nbp, upd_ne nbq]
              exact e2 _ _ nb (x1 _ _ (e1 _ _ nb h))
            · have s3 : SrcAt H2 s (n + ((fs ++ [(y0 :: ls0)[f.toNat]]).length : Nat)) := s2.le (by rw [List.length_append]; simp; omega)
              obtain ⟨a1, a2, a3, a4, a5⟩ := s3
              exact ⟨a1, a2, a3, by rw [upd_ne nps.symm, upd_ne nqs.symm]; exact a4, a5⟩
-- DEF is_table

def sp_is_table (K : PySem.W.Frag) : Sp := fun vs H Q _ => ∃ (p : Addr) (as : List Addr) (rows : List (List Int)) (m w : Nat), vs = [.ref p] ∧ TabOk H p as rows m w ∧ ∀ H', Ex H H' → Q (.bl true) H'

theorem ok_is_table (T : Txt K mg) : FnOk P w K mg base CX0 3 T.f_is_table T.fd_is_table ["thing"] (sp_is_table K) := by
  refine Fun.ok T.F_is_table sc_is_table (fun vs H Q E h => ?_) (fun cdv A outer s H vs Q E hr h => ?_)
  · obtain ⟨_, _, _, _, _, rfl, _⟩ := h; rfl
  · refine ⟨_, (pss_cons (ps_if (PW.pt (pw_or (pt_not (pt_val (pe_callB (id := "isinstance") (r := rIsi K) call_isi (by rfl) T.n_isinstance (by decide +kernel) (pa_cons (pv 0) (pa_cons (pe_bltn (v := .ty "list") (by rfl) T.n_list (by decide +kernel) rfl) pa_nil))))) (pw_or1 (pt_not (pt_chain op_le op_le pe_int (pe_callB (id := "len") (r := rLenS K) call_len_seq (by rfl) T.n_len PySem.boot_len (pa_cons (pv 0) pa_nil)) (pe_glob (v := .int 8) (by rfl) T.g_MOST ⟨_, rfl⟩))))))
        (pss_one (ps_ret pe_bl))
        pss_nil)
      (pss_cons (ps_if (pt_not (pt_val (pe_callB (id := "all") (r := rAll K) (cr_all rfl) (by rfl) T.n_all (by decide +kernel) (pa_cons (pe_lc (own := [("row", 1)]) (wi := iList K _) (g := gName 1) (tt := tYes) rfl sc_is_table.nd (pi_list (pv 0)) (blkOk_by (N := ["thing", "row"]) (sc := (defScope s_is_table)) (by decide +kernel)) (fun _ _ _ _ _ => pg_name (i := 1) sc_is_table.nd rfl (Or.inl rfl)) (fun _ _ _ _ _ => pts_nil) (fun _ _ _ _ _ => (pe_call (ok_is_row T) hr (by rfl) T.g_is_row T.k_is_row T.b_is_row .nil pass0 (pa_cons (pv 1) pa_nil)))) pa_nil))))
        (pss_one (ps_ret pe_bl))
        pss_nil)
      (pss_one (ps_ret (pe_callB (id := "all") (r := rAll K) (cr_all rfl) (by rfl) T.n_all (by decide +kernel) (pa_cons (pe_lc (own := [("row", 1)]) (wi := iList K _) (g := gName 1) (tt := tYes) rfl sc_is_table.nd (pi_list (pv 0)) (blkOk_by (N := ["thing", "row"]) (sc := (defScope s_is_table)) (by decide +kernel)) (fun _ _ _ _ _ => pg_name (i := 1) sc_is_table.nd rfl (Or.inl rfl)) (fun _ _ _ _ _ => pts_nil) (fun _ _ _ _ _ => (pe_cmpR op_eq (pe_callB (id := "len") (r := rLenS K) call_len_seq (by rfl) T.n_len PySem.boot_len (pa_cons (pv 1) pa_nil)) (pe_callB (id := "len") (r := rLenS K) call_len_seq (by rfl) T.n_len PySem.boot_len (pa_cons (pe_ix (r := rIxL K) ix_list (pv 0) pe_int (fun _ _ => rfl)) pa_nil)) (nomark _)))) pa_nil)))))), ?_⟩
    obtain ⟨p, as, rows, m, w, rfl, hT, k⟩ := h
    have hb := hT.b
    refine q_when (b := false) (et_is (et_or (et_not (et_B (ev_isi (t := "list") (b := true) (ev_var rfl) ev_c (fun H1 e => .base (.lst (e _ _ hT.tab.1))) (by decide +kernel)))) (fun _ => et_not (et_test (ev_chain ev_c (ev_is (ev_len (ev_var rfl) (SqL.of hT.tab.1)) (by rw [List.length_map, hT.al])) ev_c rv_le rv_le)))) ?_) (fun z => nomatch z) (fun _ H1 e1 => ?_)
    · rw [decide_eq_true (show (1 : Int) ≤ (m : Int) by omega), decide_eq_true (show (m : Int) ≤ 8 by omega)]
      rfl
    have hT1 := hT.ex e1
    refine q_when (b := false) (et_not (et_B (ev_all (el_yes (a := p) rfl hT1.tab.1 (by rw [List.length_map, hT.al]; omega) (fun x H' hx e => ?_) (fun x => rfl))))) (fun z => nomatch z) (fun _ H2 e2 => ?_)
    · obtain ⟨a, ha, rfl⟩ := List.mem_map.mp hx
      obtain ⟨r, hr, hh⟩ := paired_mem hT1.tab.2 ha
      have := hT1.w_ r hr
      exact ev_fn (ea_cons (ev_var rfl) ea_nil) fun H3 e3 Q3 q3 => ⟨a, r, rfl, (e.trans e3) _ _ hh, by omega, by omega, q3⟩
    have hT2 := hT1.ex e2
    refine s_ret (ev_all (el_yes (a := p) rfl hT2.tab.1 (by rw [List.length_map, hT.al]; omega) (fun x H' hx e => ?_) (fun x => rfl))) fun H3 e3 => k H3 ((e1.trans e2).trans e3)
    obtain ⟨a, ha, rfl⟩ := List.mem_map.mp hx
    obtain ⟨r, hr, hh⟩ := paired_mem hT2.tab.2 ha
    obtain ⟨a0, r0, _, _, hh0, hl0, at0⟩ := hT2.row0
    have := hT2.w_ r hr
    refine ev_is (ev_op (ev_len (ev_var rfl) (SqL.of (e _ _ hh))) (ev_len (ev_op (ev_var rfl) ev_c (rv_ixL (SqL.of (e _ _ hT2.tab.1)) at0)) (SqL.of (e _ _ hh0))) (rv_eq rfl)) ?_
    rw [List.length_map, List.length_map, hl0, this]
    exact congrArg V.bl (decide_eq_true rfl)
-- DEF _law_ends

def sp__law_ends (K : PySem.W.Frag) : Sp := fun vs H Q _ => ∃ (s : Addr) (n m : Int), vs = [.ref s, .int m] ∧ SrcAt H s n ∧ n ≤ 400000000 ∧ 1 ≤ m ∧ m ≤ 8 ∧
  ∀ (as : List Addr) (es : List (Int × Int)) (p : Addr) (H' : Hp), (es.length : Int) = m → (∀ e ∈ es, 0 ≤ e.1 ∧ e.1 ≤ m ∧ 0 ≤ e.2 ∧ e.2 ≤ m) → Conn es m → EdgesAt H' as es → H' p = some (.lst (as.map V.ref)) → H p = none → ExB s H H' → SrcAt H' s (n + 300) → Q (.ref p) H'

theorem ok__law_ends (T : Txt K mg) : FnOk P w K mg base CX0 3 T.f__law_ends T.fd__law_ends ["_law_source", "_law_many"] (sp__law_ends K) := by
  refine Fun.ok T.F__law_ends sc__law_ends (fun vs H Q E h => ?_) (fun cdv A outer s H vs Q E hr h => ?_)
  · obtain ⟨_, _, _, rfl, _⟩ := h; rfl
  · refine ⟨_, (pss_cons (ps_set (i := 2) sc__law_ends.nd rfl (by first | exact Or.inl rfl | exact Or.inr rfl) (pe_call (ok__law_mixed T) hr (by rfl) T.g__law_mixed T.k__law_mixed T.b__law_mixed .nil pass0 (pa_cons (pv 0) (pa_cons (pe_listRg rfl (by rfl) T.n_list (prg_1 (by rfl) T.n_range (pe_op op_add (pv 1) pe_int))) pa_nil))))
      (pss_cons (ps_set (i := 3) sc__law_ends.nd rfl (by first | exact Or.inl rfl | exact Or.inr rfl) (pe_lst pa_nil))
      (pss_cons (ps_for PassesOwn.never rfl (pi_range1 (by rfl) T.n_range (pa_cons (pv 1) pa_nil)) (pg_name (i := 4) sc__law_ends.nd rfl (by first | exact Or.inl rfl | exact Or.inr rfl))
        (pss_cut (ps_set (i := 5) sc__law_ends.nd rfl (by first | exact Or.inl rfl | exact Or.inr rfl) (pe_tup (pa_cons (pe_ix (r := rIxL K) ix_list (pv 2) (pe_call (ok__law_next T) (hr.mono (by decide)) (by rfl) T.g__law_next T.k__law_next T.b__law_next .nil pass0 (pa_cons (pv 0) (pa_cons (pe_op op_add (pv 4) pe_int) pa_nil))) (fun _ _ => rfl)) (pa_cons (pe_ix (r := rIxL K) ix_list (pv 2) (pe_op op_add (pv 4) pe_int) (fun _ _ => rfl)) pa_nil))))
          (pss_one (ps_expr (pe_bm PySem.F.plainAttrs_list PySem.F.slot_list_append PySem.F.type_list_append mt_append (pv 3) (pa_cons (pe_ix (r := rIxL K) ix_list (pe_lst (pa_cons (pv 5) (pa_cons (pe_revT (pv 5)) pa_nil))) (pe_call (ok__law_next T) (hr.mono (by decide)) (by rfl) T.g__law_next T.k__law_next T.b__law_next .nil pass0 (pa_cons (pv 0) (pa_cons pe_int pa_nil))) (fun _ _ => rfl)) pa_nil))))))
      (pss_one (ps_ret (pe_call (ok__law_mixed T) hr (by rfl) T.g__law_mixed T.k__law_mixed T.b__law_mixed .nil pass0 (pa_cons (pv 0) (pa_cons (pv 3) pa_nil)))))))), ?_⟩
    obtain ⟨s, n, m, rfl, hs, hn, hm1, hm8, k⟩ := h
    refine ⟨_, rfl, _, rfl, _, _, rfl, rfl, _, rfl, RgOk.of_le (by omega) (by omega) (by omega) (by omega), fun q nq => ?_⟩
    have x1 := Ex.new (o := .lst (rgV 0 (m + 1))) nq
    refine ⟨s, q, n, _, rfl, hs.ex x1, by omega, hs.ne nq, SqL.of upd_same, ?_, ?_, fun ys p1 H1 hp np1 e1 s1 h1 => ?_⟩
    · rw [rgV_length]
      omega
    · intro v hv
      rw [rgV_nums] at hv
      obtain ⟨i, _, rfl⟩ := List.mem_map.mp hv
      exact datv_int i
    rw [rgV_nums] at hp
    obtain ⟨pl, rfl, hpl⟩ := perm_ints hp
    have np1H : H p1 = none := fresh_back x1 np1
    have e01 : ExB s H H1 := (ExB.of x1).trans e1
    have hpll : pl.length = m.toNat + 1 := by
      rw [hpl.length_eq, numsTo_length]
      omega
    have hplm : ∀ a, a ∈ pl ↔ 0 ≤ a ∧ a ≤ m := fun a => by
      rw [hpl.mem_iff, mem_numsTo]
      omega
    have np1s : p1 ≠ s := (hs.ex x1).ne np1
    clear hp x1 e1 np1 nq
    -- found
    refine ⟨Nat.zero_le _, fun p2 np2 => ?_⟩
    have x2 : Ex H1 (upd H1 p2 (.lst [])) := Ex.new np2
    have np2s : p2 ≠ s := s1.ne np2
    have np12 : p1 ≠ p2 := ne_of_none h1 np2
    have np2H : H p2 = none := fresh_B e01 np2 s1.obj
    refine ⟨_, rfl, _, rfl, by omega, by omega, for_range (lo := 0) (n := m.toNat) (fun i σ H' => ∃ (y4 y5 : Option V) (as : List Addr) (es : List (Int × Int)), σ = [some (.ref s), some (.int m), some (.ref p1), some (.ref p2), y4, y5] ∧ es.length = i ∧ EdgesAt H' as es ∧ H' p2 = some (.lst (as.map V.ref)) ∧
      ExB s H H' ∧ SrcAt H' s (n + 100 + 2 * i) ∧ H' p1 = some (.lst (pl.map V.int)) ∧ EdgeTree pl es ∧ (∀ e ∈ es, 0 ≤ e.1 ∧ e.1 ≤ m ∧ 0 ≤ e.2 ∧ e.2 ≤ m)) ?_ ?_ ?_⟩
    · exact ⟨_, _, [], [], rfl, rfl, .nil, upd_same, e01.trans (ExB.of x2), (s1.ex x2).le (by omega), x2 _ _ h1, fun j hj => absurd hj (Nat.not_lt_zero _), fun e he => by simp at he⟩
    · rintro i σ H2 hi ⟨y4, y5, as, es, rfl, hes, hE, h2, e2, s2, g1, hT, hb⟩
      have hsz := hes
      have sat : ∀ {j : Nat}, j < pl.length → ∃ z, (pl.map V.int)[j]? = some (.int z) ∧ pl[j]? = some z := fun {j} hj => ⟨pl[j], by rw [List.getElem?_map, List.getElem?_eq_getElem hj]; rfl, List.getElem?_eq_getElem hj⟩
      -- two
      refine ⟨fun σ' H' => ∃ (t : Addr) (f : Nat) (a b : Int), σ' = [some (.ref s), some (.int m), some (.ref p1), some (.ref p2), some (.int (0 + (i : Int))), some (.ref t)] ∧ H' t = some (.tup [.int a, .int b]) ∧ f ≤ i ∧ pl[f]? = some a ∧ pl[i + 1]? = some b ∧ ExB s H2 H' ∧ SrcAt H' s (n + 100 + 2 * i + 1), ?_, ?_⟩
      · refine ⟨_, rfl, _, rfl, _, rfl, _, _, rfl, rfl, s, _, _, rfl, s2, by omega, by omega, ?_, fun f H3 f0 f1 e3 s3 => ?_⟩
        · unfold Bd
          exact Nat.lt_of_lt_of_le (show (0 + (i : Int) + 1).natAbs < 1024 by omega) (by decide +kernel)
        · obtain ⟨a, ha, ha'⟩ := sat (j := f.toNat) (by omega)
          obtain ⟨b, hb, hb'⟩ := sat (j := i + 1) (by omega)
          refine ⟨p1, _, _, _, rfl, rfl, SqL.of (e3 _ _ np1s g1), at_of (j := f.toNat) (by omega) ha, ?_⟩
          refine ⟨_, rfl, _, rfl, _, _, rfl, rfl, p1, _, _, _, rfl, rfl, SqL.of (e3 _ _ np1s g1), at_of (j := i + 1) (by omega) hb, (by show 2 ≤ sizeLine; decide), fun t nt => ?_⟩
          exact ⟨t, f.toNat, a, b, rfl, upd_same, by omega, ha', hb', e3.trans (ExB.of (Ex.new nt)), s3.ex (Ex.new nt)⟩
      · rintro σ' H3 ⟨t, f, a, b, rfl, ht, hf, ha, hb', e3, s3⟩
        have h2' := e3 _ _ np2s h2
        refine ⟨_, rfl, .inl ⟨rfl, _, SqL.of h2'⟩, _, rfl, _, rfl, t, _, _, rfl, SqT.of ht, fun u nu => ?_⟩
        have xu : Ex H3 (upd H3 u (.tup [.int b, .int a])) := Ex.new nu
        refine ⟨(by show 2 ≤ sizeLine; decide), fun l nl => ?_⟩
        have xl : Ex (upd H3 u (.tup [.int b, .int a])) (upd (upd H3 u (.tup [.int b, .int a])) l (.lst [.ref t, .ref u])) := Ex.new nl
        have xx := xu.trans xl
        refine ⟨_, rfl, s, 2, _, rfl, s3.ex xx, by omega, by decide, (by unfold Bd; decide +kernel), fun g H4 g0 gl e4 s4 => ?_⟩
        have nls : l ≠ s := (s3.ex xu).ne nl
        have hl4 := e4 _ _ nls (upd_same (H := upd H3 u (.tup [.int b, .int a])) (a := l) (o := .lst [.ref t, .ref u]))
        have st : ∀ c xs, H2 c = some (.tup xs) → H4 c = some (.tup xs) := fun c xs h => tups_B (s3.ex xx) e4 _ _ (tups_E xx _ _ (tups_B s2 e3 _ _ h))
        have st3 : ∀ c xs, H3 c = some (.tup xs) → H4 c = some (.tup xs) := fun c xs h => tups_B (s3.ex xx) e4 _ _ (tups_E xx _ _ h)
        have stu : H4 u = some (.tup [.int b, .int a]) := tups_B (s3.ex xx) e4 _ _ (xl _ _ upd_same)
        have p2' := e4 _ _ np2s (xx _ _ h2')
        have al : as.length = i := by rw [Paired.length hE, hes]
        have fin : ∀ (v : Addr) (e : Int × Int), H4 v = some (.tup [.int e.1, .int e.2]) → (e = (a, b) ∨ e = (b, a)) → rAppend (.ref p2) [.ref v] H4 fun _ H' => ∃ (y4 y5 : Option V) (as : List Addr) (es : List (Int × Int)), [some (V.ref s), some (.int m), some (.ref p1), some (.ref p2), some (.int (0 + (i : Int))), some (.ref t)] = [some (.ref s), some (.int m), some (.ref p1), some (.ref p2), y4, y5] ∧ es.length = i + 1 ∧ EdgesAt H' as es ∧ H' p2 = some (.lst (as.map V.ref)) ∧
            ExB s H H' ∧ SrcAt H' s (n + 100 + 2 * ((i + 1 : Nat) : Int)) ∧ H' p1 = some (.lst (pl.map V.int)) ∧ EdgeTree pl es ∧ (∀ e ∈ es, 0 ≤ e.1 ∧ e.1 ≤ m ∧ 0 ≤ e.2 ∧ e.2 ≤ m) := by
          intro v e hv he
          refine ⟨p2, _, _, rfl, rfl, p2', small1000 (by rw [List.length_map]; omega), _, _, as ++ [v], es ++ [e], rfl, ?_, ?_, ?_, ?_, ?_, ?_, ?_, ?_⟩
          · rw [List.length_append, hes]
            rfl
          · exact paired_imp (fun c d h => tups_U p2' _ _ h) (paired_snoc (EdgesAt.mono st hE) hv)
          · rw [upd_same, List.map_append]
            rfl
          · refine fun c o nc h => ?_
            rw [upd_ne (ne_of_none h np2H)]
            exact e4 _ _ nc (xx _ _ (e3 _ _ nc (e2 _ _ nc h)))
          · obtain ⟨a1, a2, a3, a4, a5, a6, a7, a8⟩ := s4
            exact ⟨a1, a2, a3, by rw [upd_ne np2s.symm]; exact a4, a5, a6, a7, by omega⟩
          · rw [upd_ne np12]
            exact e4 _ _ np1s (xx _ _ (e3 _ _ np1s g1))
          · exact hT.more (by omega) ha (by rw [hes]; exact hb') he
          · intro e' he'
            rcases List.mem_append.mp he' with h | h
            · exact hb e' h
            · have e1 : e' = e := by simpa using h
              subst e1
              have ma := (hplm a).mp (List.mem_of_getElem? ha)
              have mb := (hplm b).mp (List.mem_of_getElem? hb')
              rcases he with rfl | rfl
              · exact ⟨ma.1, ma.2, mb.1, mb.2⟩
              · exact ⟨mb.1, mb.2, ma.1, ma.2⟩
        have hg : g = 0 ∨ g = 1 := by omega
        rcases hg with rfl | rfl
        · exact ⟨l, _, _, .ref t, rfl, rfl, SqL.of hl4, rfl, fin t (a, b) (st3 _ _ ht) (.inl rfl)⟩
        · exact ⟨l, _, _, .ref u, rfl, rfl, SqL.of hl4, rfl, fin u (b, a) stu (.inr rfl)⟩
    · rintro σ H2 ⟨y4, y5, as, es, rfl, hes, hE, h2, e2, s2, g1, hT, hb⟩
      have al : as.length = m.toNat := by rw [Paired.length hE, hes]
      refine ⟨_, rfl, _, rfl, s, p2, _, _, rfl, s2, by omega, np2s, SqL.of h2, (by rw [List.length_map]; omega), fun v hv => ?_, fun ys p H3 hp np e3 s3 h3 => ?_⟩
      · obtain ⟨c, hc, rfl⟩ := List.mem_map.mp hv
        obtain ⟨d, _, hd⟩ := paired_mem hE hc
        exact datv_pair hd (s2.neT hd)
      · obtain ⟨as', es', rfl, pe, hE', _⟩ := perm_refs hp hE
        refine k as' es' p H3 ?_ (fun e he => hb e (pe.mem_iff.mp he)) ?_ (EdgesAt.mono (tups_B s2 e3) hE') h3 (fresh_B e2 np s2.obj) (e2.trans e3) (s3.le (by omega))
        · rw [pe.length_eq, hes]
          omega
        · have c := EdgeTree.conn (m := m.toNat) hT hes hpll fun a h0 h1 => (hplm a).mpr ⟨h0, by omega⟩
          have c2 := c.perm pe
          have em : ((m.toNat : Nat) : Int) = m := by omega
          rw [em] at c2
          exact c2
-- DEF _law_stretches

def sp__law_stretches (K : PySem.W.Frag) : Sp := fun vs H Q _ => ∃ (s : Addr) (n : Int) (m w : Nat), vs = [.ref s, .int m, .int w] ∧ SrcAt H s n ∧ n ≤ 300000000 ∧ 1 ≤ m ∧ m ≤ 8 ∧ 1 ≤ w ∧ w ≤ 8 ∧
  ∀ (rs : List Addr) (rows : List (List Int)) (p : Addr) (H' : Hp), NewTab H H' p rs rows w 100 → rows.length = m → ExB s H H' → SrcAt H' s (n + 400) → Q (.ref p) H'

theorem ok__law_stretches (T : Txt K mg) : FnOk P w K mg base CX0 3 T.f__law_stretches T.fd__law_stretches ["_law_source", "_law_many", "_law_wide"] (sp__law_stretches K) := by
  refine Fun.ok T.F__law_stretches sc__law_stretches (fun vs H Q E h => ?_) (fun cdv A outer s H vs Q E hr h => ?_)
  · obtain ⟨_, _, _, _, rfl, _⟩ := h; rfl
  · refine ⟨_, (pss_cons (ps_set (i := 3) sc__law_stretches.nd rfl (by first | exact Or.inl rfl | exact Or.inr rfl) (pe_call (ok__law_mixed T) hr (by rfl) T.g__law_mixed T.k__law_mixed T.b__law_mixed .nil pass0 (pa_cons (pv 0) (pa_cons (pe_listRg rfl (by rfl) T.n_list (prg_1 (by rfl) T.n_range (pv 2))) pa_nil))))
      (pss_cons (ps_set (i := 4) sc__law_stretches.nd rfl (by first | exact Or.inl rfl | exact Or.inr rfl) (pe_lst pa_nil))
      (pss_cons (ps_for PassesOwn.never rfl (pi_range1 (by rfl) T.n_range (pa_cons (pv 1) pa_nil)) (pg_name (i := 5) sc__law_stretches.nd rfl (by first | exact Or.inl rfl | exact Or.inr rfl))
        (pss_cut (ps_set (i := 6) sc__law_stretches.nd rfl (by first | exact Or.inl rfl | exact Or.inr rfl) (pe_call (ok__law_next T) (hr.mono (by decide)) (by rfl) T.g__law_next T.k__law_next T.b__law_next .nil pass0 (pa_cons (pv 0) (pa_cons (pv 2) pa_nil))))
          (pss_cut (ps_set (i := 7) sc__law_stretches.nd rfl (by first | exact Or.inl rfl | exact Or.inr rfl) (pe_call (ok__law_next T) (hr.mono (by decide)) (by rfl) T.g__law_next T.k__law_next T.b__law_next .nil pass0 (pa_cons (pv 0) (pa_cons (pe_op op_add (pe_op op_sub (pv 2) (pv 6)) pe_int) pa_nil))))
          (pss_one (ps_expr (pe_bm PySem.F.plainAttrs_list PySem.F.slot_list_append PySem.F.type_list_append mt_append (pv 4) (pa_cons (pe_lc (own := [("_law_column", 8)]) (g := gName 8) (tt := tYes) rfl sc__law_stretches.nd (pi_range1 (by rfl) T.n_range (pa_cons (pv 2) pa_nil)) (blkOk_by (N := ["_law_source", "_law_many", "_law_wide", "_law_order", "_law_found", "_law_k", "_law_start", "_law_length", "_law_column"]) (sc := (defScope s__law_stretches)) (by decide +kernel)) (fun _ _ _ _ _ => pg_name (i := 8) sc__law_stretches.nd rfl (Or.inl rfl)) (fun _ _ _ _ _ => pts_nil) (fun _ _ _ _ _ => (pe_callTy (T := "int") call_int1 (by rfl) T.n_int (by decide +kernel) (pa_cons (pe_chain op_le op_lt (pv 6) (pe_ix (r := rIxL K) ix_list (pv 3) (pv 8) (fun _ _ => rfl)) (pe_op op_add (pv 6) (pv 7))) pa_nil)))) pa_nil)))))))
      (pss_one (ps_ret (pv 4)))))), ?_⟩
    obtain ⟨s, n, m, w, rfl, hs, hn, hm1, hm8, hw1, hw8, k⟩ := h
    -- order
    refine ⟨_, rfl, _, rfl, _, rfl, RgOk.of_le (by omega) (by omega) (by omega) (by omega), fun q nq => ?_⟩
    have x1 := Ex.new (o := .lst (rgV 0 (w : Int))) nq
    refine ⟨s, q, n, _, rfl, hs.ex x1, by omega, hs.ne nq, SqL.of upd_same, ?_, ?_, fun ys p1 H1 hp np1 e1 s1 h1 => ?_⟩
    · rw [rgV_length]
      omega
    · intro v hv
      rw [rgV_nums] at hv
      obtain ⟨i, _, rfl⟩ := List.mem_map.mp hv
      exact datv_int i
    rw [rgV_nums] at hp
    obtain ⟨pl, rfl, hpl⟩ := perm_ints hp
    have hpll : pl.length = w := by
      rw [hpl.length_eq, numsTo_length]
      omega
    have e01 : ExB s H H1 := (ExB.of x1).trans e1
    have np1s : p1 ≠ s := (hs.ex x1).ne np1
    -- found
    refine ⟨Nat.zero_le _, fun p2 np2 => ?_⟩
    have x2 : Ex H1 (upd H1 p2 (.lst [])) := Ex.new np2
    have np2s : p2 ≠ s := s1.ne np2
    have np12 : p1 ≠ p2 := ne_of_none h1 np2
    have np2H : H p2 = none := fresh_B e01 np2 s1.obj
    refine ⟨_, rfl, _, rfl, by omega, by omega, for_range (lo := 0) (n := (m : Int).toNat) (fun i σ H' => ∃ (y5 y6 y7 y8 : Option V) (as : List Addr) (rows : List (List Int)), σ = [some (.ref s), some (.int m), some (.int w), some (.ref p1), some (.ref p2), y5, y6, y7, y8] ∧ rows.length = i ∧ NewTab H H' p2 as rows w 100 ∧
      ExB s H H' ∧ SrcAt H' s (n + 100 + 2 * i) ∧ H' p1 = some (.lst (pl.map V.int))) ?_ ?_ ?_⟩
    · exact ⟨_, _, _, _, [], [], rfl, rfl, NewTab.new np2H upd_same, e01.trans (ExB.of x2), (s1.ex x2).le (by omega), x2 _ _ h1⟩
    · rintro i σ H2 hi ⟨y5, y6, y7, y8, as, rows, rfl, hl, hN, e2, s2, g1⟩
      refine ⟨fun σ' H' => ∃ f : Int, σ' = [some (.ref s), some (.int m), some (.int w), some (.ref p1), some (.ref p2), some (.int (0 + (i : Int))), some (.int f), y7, y8] ∧ 0 ≤ f ∧ f < w ∧ ExB s H2 H' ∧ SrcAt H' s (n + 100 + 2 * i + 1), ?_, ?_⟩
      · refine ⟨_, rfl, _, rfl, s, _, _, rfl, s2, by omega, by omega, ?_, fun f H3 f0 f1 e3 s3 => ⟨f, rfl, f0, f1, e3, s3⟩⟩
        unfold Bd
        exact Nat.lt_of_lt_of_le (show ((w : Int)).natAbs < 1024 by omega) (by decide +kernel)
      rintro σ' H3 ⟨f, rfl, f0, f1, e3, s3⟩
      refine ⟨fun σ' H' => ∃ g : Int, σ' = [some (.ref s), some (.int m), some (.int w), some (.ref p1), some (.ref p2), some (.int (0 + (i : Int))), some (.int f), some (.int g), y8] ∧ ExB s H2 H' ∧ SrcAt H' s (n + 100 + 2 * i + 1 + 1), ?_, ?_⟩
      · refine ⟨_, rfl, _, rfl, _, rfl, _, _, rfl, rfl, _, _, rfl, rfl, s, _, _, rfl, s3, by omega, by omega, ?_, fun g H4 g0 gl e4 s4 => ⟨g, rfl, e3.trans e4, s4⟩⟩
        unfold Bd
        exact Nat.lt_of_lt_of_le (show ((w : Int) - f + 1).natAbs < 1024 by omega) (by decide +kernel)
      rintro σ' H4 ⟨g, rfl, e4, s4⟩
      have N4 := hN.exB e4 hs.obj
      have al : as.length = i := by rw [Paired.length N4.tab.2, hl]
      have hp1 := e4 _ _ np1s g1
      refine ⟨_, rfl, .inl ⟨rfl, _, SqL.of N4.tab.1⟩, ?_⟩
      refine el_rng (m := w) (fun o => if (decide (f ≤ pl[o]?.getD 0) && decide (pl[o]?.getD 0 < f + g)) = true then 1 else 0) (ea_cons (ev_var rfl) ea_nil) (by omega) (fun x => rfl) (fun o H5 x5 ho => ev_int1 (ev_chain (ev_var rfl) (ev_op (ev_var rfl) (ev_var rfl) (rv_ixL (SqL.of (x5 _ _ hp1)) (atI_row (by omega)))) (ev_op (ev_var rfl) (ev_var rfl) rv_I0) rv_I0 rv_I0)) H4 (Ex.refl _) _ fun r H5 nr e5 hr => ?_
      refine ⟨p2, _, _, rfl, rfl, e5 _ _ N4.tab.1, small1000 (by rw [List.length_map]; omega), ?_⟩
      refine ⟨_, _, _, _, as ++ [r], rows ++ [_], rfl, by rw [List.length_append, hl]; rfl, N4.app (noneB (e2.trans e4) s4.obj) e5 nr hr (by rw [List.length_map, List.length_range]) (fun y hy => ?_), ?_, ?_, ?_⟩
      · obtain ⟨o, _, rfl⟩ := List.mem_map.mp hy
        split <;> decide
      · refine fun b o nb h => ?_
        rw [upd_ne (ne_of_none h np2H)]
        exact e5 _ _ (e4 _ _ nb (e2 _ _ nb h))
      · obtain ⟨a1, a2, a3, a4, a5, a6, a7, a8⟩ := s4.ex e5
        exact ⟨a1, a2, a3, by rw [upd_ne np2s.symm]; exact a4, a5, a6, a7, by omega⟩
      · rw [upd_ne np12]
        exact e5 _ _ hp1
    · rintro σ H2 ⟨y5, y6, y7, y8, as, rows, rfl, hl, hN, e2, s2, g1⟩
      refine ⟨_, rfl, ?_⟩
      exact k as rows p2 H2 hN (by rw [hl]; omega) e2 (s2.le (by omega))
-- DEF _law_swung

def sp__law_swung (K : PySem.W.Frag) : Sp := fun vs H Q _ => ∃ (s g : Addr) (n : Int) (as : List Addr) (rows : List (List Int)) (m w : Nat), vs = [.ref s, .ref g] ∧ SrcAt H s n ∧ n ≤ 200000000 ∧ g ≠ s ∧ (∀ a ∈ as, a ≠ s) ∧ Tab H g as rows ∧ rows.length = m ∧ (∀ r ∈ rows, r.length = w ∧ ∀ y ∈ r, y.natAbs ≤ 100) ∧ 1 ≤ m ∧ m ≤ 8 ∧ 1 ≤ w ∧ w ≤ 8 ∧
  ∀ (rs : List Addr) (rows' : List (List Int)) (p : Addr) (H' : Hp) (m' w' : Nat), (m' = m ∧ w' = w ∨ m' = w ∧ w' = m) → NewTab H H' p rs rows' w' 100 → rows'.length = m' → ExB s H H' → SrcAt H' s (n + 200) → Q (.ref p) H'

theorem ok__law_swung (T : Txt K mg) : FnOk P w K mg base CX0 3 T.f__law_swung T.fd__law_swung ["_law_source", "_law_grid"] (sp__law_swung K) := by
  refine Fun.ok T.F__law_swung sc__law_swung (fun vs H Q E h => ?_) (fun cdv A outer s H vs Q E hr h => ?_)
  · obtain ⟨_, _, _, _, _, _, _, rfl, _⟩ := h; rfl
  · refine ⟨_, (pss_cut (ps_set (i := 2) sc__law_swung.nd rfl (by first | exact Or.inl rfl | exact Or.inr rfl) (pe_call (ok__law_mixed T) hr (by rfl) T.g__law_mixed T.k__law_mixed T.b__law_mixed .nil pass0 (pa_cons (pv 0) (pa_cons (pv 1) pa_nil))))
      (pss_cut (ps_if (pt_cmpR op_eq (pe_call (ok__law_next T) (hr.mono (by decide)) (by rfl) T.g__law_next T.k__law_next T.b__law_next .nil pass0 (pa_cons (pv 0) (pa_cons pe_int pa_nil))) pe_int (nomark _))
        (pss_one (ps_set (i := 2) sc__law_swung.nd rfl (by first | exact Or.inl rfl | exact Or.inr rfl) (pe_lc (own := [("_law_k", 7)]) (g := gName 7) (tt := tYes) rfl sc__law_swung.nd (pi_range1 (by rfl) T.n_range (pa_cons (pe_callB (id := "len") (r := rLenS K) call_len_seq (by rfl) T.n_len PySem.boot_len (pa_cons (pe_ix (r := rIxL K) ix_list (pv 2) pe_int (fun _ _ => rfl)) pa_nil)) pa_nil)) (blkOk_by (N := ["_law_source", "_law_grid", "_law_rows", "_law_signs", "_law_found", "_law_row", "_law_sign", "_law_k", "_law_column", "_law_a", "_law_b"]) (sc := (defScope s__law_swung)) (by decide +kernel)) (fun _ _ _ _ _ => pg_name (i := 7) sc__law_swung.nd rfl (Or.inr rfl)) (fun _ _ _ _ _ => pts_nil) (fun _ _ _ _ _ => (pe_lc (own := [("_law_row", 5)]) (wi := iList K _) (g := gName 5) (tt := tYes) rfl sc__law_swung.nd (pi_list (pv 2)) (blkOk_by (N := ["_law_source", "_law_grid", "_law_rows", "_law_signs", "_law_found", "_law_row", "_law_sign", "_law_k", "_law_column", "_law_a", "_law_b"]) (sc := (relS ({ kind := .function, names := [(".0", .local), ("_law_k", .cell), ("_law_rows", .free)], isGenerator := false, isCoroutine := false } : Scope) (defScope s__law_swung))) (by decide +kernel)) (fun _ _ _ _ _ => pg_name (i := 5) sc__law_swung.nd rfl (Or.inl rfl)) (fun _ _ _ _ _ => pts_nil) (fun _ _ _ _ _ => (pe_ix (r := rIxL K) ix_list (pv 5) (pv 7) (fun _ _ => rfl))))))))
        pss_nil)
      (pss_cut (ps_setLc (i := 3) (own := [("_law_column", 8)]) (wi := iList K _) (g := gName 8) (tt := tYes) rfl sc__law_swung.nd rfl rfl (sw_true rfl rfl rfl (by decide +kernel)) (pi_list (pe_ix (r := rIxL K) ix_list (pv 2) pe_int (fun _ _ => rfl))) (blkOk_by (N := ["_law_source", "_law_grid", "_law_rows", "_law_signs", "_law_found", "_law_row", "_law_sign", "_law_k", "_law_column", "_law_a", "_law_b"]) (sc := (defScope s__law_swung)) (by decide +kernel)) (fun _ _ _ _ _ => pg_name (i := 8) sc__law_swung.nd rfl (Or.inl rfl)) (fun _ _ _ _ _ => pts_nil) (fun _ _ _ _ _ => (pe_ix (r := rIxL K) ix_list (pe_lst (pa_cons pe_int (pa_cons (pe_un un_neg pe_int) pa_nil))) (pe_call (ok__law_next T) (hr.mono (by decide)) (by rfl) T.g__law_next T.k__law_next T.b__law_next .nil pass0 (pa_cons (pv 0) (pa_cons pe_int pa_nil))) (fun _ _ => rfl))))
      (pss_cons (ps_set (i := 4) sc__law_swung.nd rfl (by first | exact Or.inl rfl | exact Or.inr rfl) (pe_lst pa_nil))
      (pss_cons (ps_for PassesOwn.never rfl (pi_list (pv 2)) (pg_name (i := 5) sc__law_swung.nd rfl (by first | exact Or.inl rfl | exact Or.inr rfl))
        (pss_cut (ps_set (i := 6) sc__law_swung.nd rfl (by first | exact Or.inl rfl | exact Or.inr rfl) (pe_ix (r := rIxL K) ix_list (pe_lst (pa_cons pe_int (pa_cons pe_int (pa_cons (pe_un un_neg pe_int) pa_nil)))) (pe_call (ok__law_next T) (hr.mono (by decide)) (by rfl) T.g__law_next T.k__law_next T.b__law_next .nil pass0 (pa_cons (pv 0) (pa_cons pe_int pa_nil))) (fun _ _ => rfl)))
          (pss_one (ps_expr (pe_bm PySem.F.plainAttrs_list PySem.F.slot_list_append PySem.F.type_list_append mt_append (pv 4) (pa_cons (pe_lc (own := [("_law_a", 9), ("_law_b", 10)]) (wi := iZip K _) (g := gTup K 2 (gCons (gName 9) (gCons (gName 10) gNil))) (tt := tYes) rfl sc__law_swung.nd (pi_zip (by rfl) T.n_zip (pa_cons (pv 5) (pa_cons (pv 3) pa_nil))) (blkOk_by (N := ["_law_source", "_law_grid", "_law_rows", "_law_signs", "_law_found", "_law_row", "_law_sign", "_law_k", "_law_column", "_law_a", "_law_b"]) (sc := (defScope s__law_swung)) (by decide +kernel)) (fun _ _ _ _ _ => (pg_tup rfl (pgs_cons (pg_name (i := 9) sc__law_swung.nd rfl (Or.inl rfl)) (pgs_cons (pg_name (i := 10) sc__law_swung.nd rfl (Or.inl rfl)) pgs_nil)))) (fun _ _ _ _ _ => pts_nil) (fun _ _ _ _ _ => (pe_op op_mulW (pe_op op_mulW (pv 6) (pv 9)) (pv 10)))) pa_nil))))))
      (pss_one (ps_ret (pv 4)))))))), ?_⟩
    obtain ⟨s, g, n, as, rows, m, w, rfl, hs, hn, hgs, has, hT, hm, hok, hm1, hm8, hw1, hw8, k⟩ := h
    have hal : as.length = m := by rw [Paired.length hT.2, hm]
    -- row_list
    refine ⟨fun σ' H1 => ∃ (p : Addr) (as1 : List Addr) (rows1 : List (List Int)), σ' = [some (.ref s), some (.ref g), some (.ref p), none, none, none, none, none, none, none, none] ∧ Tab H1 p as1 rows1 ∧ rows1.length = m ∧ (∀ r ∈ rows1, r.length = w ∧ ∀ y ∈ r, y.natAbs ≤ 100) ∧ p ≠ s ∧ (∀ a ∈ as1, a ≠ s) ∧ ExB s H H1 ∧ SrcAt H1 s (n + 100), ?_, ?_⟩
    · refine ⟨_, rfl, _, rfl, s, g, n, _, rfl, hs, by omega, hgs, SqL.of hT.1, (by rw [List.length_map]; omega), fun v hv => ?_, fun ys p H1 hp np e1 s1 h1 => ?_⟩
      · obtain ⟨a, ha, rfl⟩ := List.mem_map.mp hv
        obtain ⟨r, _, hr⟩ := paired_mem hT.2 ha
        exact datv_row hr (has a ha)
      · obtain ⟨as1, rows1, rfl, pr, hR, pa⟩ := perm_refs hp hT.2
        refine ⟨p, as1, rows1, rfl, ⟨h1, rows_but hR fun a ha o q => e1 a o (has a (pa.mem_iff.mp ha)) q⟩, by rw [pr.length_eq, hm], fun r hr => hok r (pr.mem_iff.mp hr), hs.ne np, fun a ha => has a (pa.mem_iff.mp ha), e1, s1⟩
    rintro σ' H1 ⟨p, as1, rows1, rfl, hT1, hm', hok1, nps, nas, e1, s1⟩
    -- perhaps turned
    refine ⟨fun σ' H2 => ∃ (y5 y7 : Option V) (p2 : Addr) (as2 : List Addr) (rows2 : List (List Int)) (m2 w2 : Nat), (m2 = m ∧ w2 = w ∨ m2 = w ∧ w2 = m) ∧ σ' = [some (.ref s), some (.ref g), some (.ref p2), none, none, y5, none, y7, none, none, none] ∧ Tab H2 p2 as2 rows2 ∧ rows2.length = m2 ∧ (∀ r ∈ rows2, r.length = w2 ∧ ∀ y ∈ r, y.natAbs ≤ 100) ∧ p2 ≠ s ∧ (∀ a ∈ as2, a ≠ s) ∧ ExB s H H2 ∧ SrcAt H2 s (n + 101), ?_, ?_⟩
    · refine ⟨_, rfl, s, 2, _, rfl, s1, by omega, by decide, (by unfold Bd; decide +kernel), fun f H2 f0 f1 e2 s2 => ⟨rfl, _, rfl, ?_⟩⟩
      have hT2 : Tab H2 p as1 rows1 := ⟨e2 _ _ nps hT1.1, rows_but hT1.2 fun a ha o q => e2 a o (nas a ha) q⟩
      refine ite2 (fun _ => ?_) (fun _ => ?_)
      · have h0 : ∃ a0 r0, as1[0]? = some a0 ∧ rows1[0]? = some r0 ∧ H2 a0 = some (.lst (r0.map V.int)) ∧ r0.length = w := by
          have hl1 : as1.length = m := by rw [Paired.length hT2.2, hm']
          obtain ⟨a0, ha0⟩ : ∃ a0, as1[0]? = some a0 := ⟨_, List.getElem?_eq_getElem (by omega)⟩
          obtain ⟨r0, hr0, hh⟩ := paired_get hT2.2 ha0
          exact ⟨a0, r0, ha0, hr0, hh, (hok1 r0 (List.mem_of_getElem? hr0)).1⟩
        obtain ⟨a0, r0, ha0, hr0, hh0, hl0⟩ := h0
        have at0 : atI (as1.map V.ref) 0 = some (.ref a0) := atI_nat (j := 0) (by rw [List.getElem?_map, ha0]; rfl)
        refine lc_rows (m := w) (F := fun kk => rows1.map fun r => r[kk]?.getD 0) (ea_cons (ev_is (ev_len (ev_op (ev_var rfl) ev_c (rv_ixL (SqL.of hT2.1) at0)) (SqL.of hh0)) (by rw [List.length_map, hl0])) ea_nil) (by omega) (fun u => rfl) (fun kk H3 x3 hkk => ?_) (fun p2 rs H3 np2 nrs ndr npr x3 ht => ?_)
        · refine el_col (K := K) (f := fun r => r[kk]?.getD 0) rfl (x3 _ _ hT2.1) (hT2.2.ex x3) (by omega) (fun u => rfl) fun b r H4 hr hb x4 => ?_
          have lr := (hok1 r hr).1
          exact ev_op (ev_var rfl) (ev_var rfl) (rv_ixL (SqL.of (x4 _ _ hb)) (atI_row (by omega)))
        · refine ⟨_, _, p2, rs, _, w, m, .inr ⟨rfl, rfl⟩, rfl, ht, by rw [List.length_map, List.length_range], fun r hr => ?_, s2.ne np2, fun a ha => s2.ne (nrs a ha), (e1.trans e2).trans (ExB.of x3), (s2.ex x3).le (by omega)⟩
          obtain ⟨kk, hkk, rfl⟩ := List.mem_map.mp hr
          have hkk := List.mem_range.mp hkk
          refine ⟨by rw [List.length_map, hm'], fun y hy => ?_⟩
          obtain ⟨r, hr, rfl⟩ := List.mem_map.mp hy
          have o := hok1 r hr
          rw [List.getElem?_eq_getElem (by omega)]
          exact o.2 _ (List.getElem_mem _)
      · exact ⟨_, _, p, as1, rows1, m, w, .inl ⟨rfl, rfl⟩, rfl, hT2, hm', hok1, nps, nas, e1.trans e2, s2.le (by omega)⟩
    rintro σ' H2 ⟨y5, y7, p2, as2, rows2, m2, w2, hmw, rfl, hT2, hm2, hok2, np2s, nas2, e2, s2⟩
    clear hT1 hm' hok1 nps nas e1 s1
    have hm2b : 1 ≤ m2 ∧ m2 ≤ 8 ∧ 1 ≤ w2 ∧ w2 ≤ 8 := by
      rcases hmw with ⟨rfl, rfl⟩ | ⟨rfl, rfl⟩ <;> exact ⟨by omega, by omega, by omega, by omega⟩
    -- signs
    refine ⟨fun σ' H3 => ∃ (y8 : Option V) (q : Addr) (sg : List Int), σ' = [some (.ref s), some (.ref g), some (.ref p2), some (.ref q), none, y5, none, y7, y8, none, none] ∧ H3 q = some (.lst (sg.map V.int)) ∧ sg.length = w2 ∧ (∀ x ∈ sg, x = 1 ∨ x = -1) ∧ q ≠ s ∧ H q = none ∧ ExB s H2 H3 ∧ SrcAt H3 s (n + 109), ?_, ?_⟩
    · have h0 : ∃ a0 r0, as2[0]? = some a0 ∧ rows2[0]? = some r0 ∧ H2 a0 = some (.lst (r0.map V.int)) ∧ r0.length = w2 := by
        have hl1 : as2.length = m2 := by rw [Paired.length hT2.2, hm2]
        obtain ⟨a0, ha0⟩ : ∃ a0, as2[0]? = some a0 := ⟨_, List.getElem?_eq_getElem (by omega)⟩
        obtain ⟨r0, hr0, hh⟩ := paired_get hT2.2 ha0
        exact ⟨a0, r0, ha0, hr0, hh, (hok2 r0 (List.mem_of_getElem? hr0)).1⟩
      obtain ⟨a0, r0, ha0, hr0, hh0, hl0⟩ := h0
      have at0 : atI (as2.map V.ref) 0 = some (.ref a0) := atI_nat (j := 0) (by rw [List.getElem?_map, ha0]; rfl)
      refine lc_drawL (K := K) (s := s) (n := n + 101) (xs := r0) (fun x => x = 1 ∨ x = -1) (ev_op (ev_var rfl) ev_c (rv_ixL (SqL.of hT2.1) at0)) hh0 (nas2 a0 (List.mem_of_getElem? ha0)) (by omega) s2 (fun u => rfl) (fun i y H3 e3 hi s3 Q1 kq => ?_) (fun D ns H3 hD e3 s3 hD3 hl3 hP => ?_)
      · refine ⟨_, rfl, (by show 2 ≤ sizeLine; decide), fun l nl => ?_⟩
        have xl : Ex H3 (upd H3 l (.lst [.int 1, .int (-1)])) := Ex.new nl
        have nls : l ≠ s := s3.ne nl
        refine ⟨_, rfl, s, 2, _, rfl, s3.ex xl, by omega, by decide, (by unfold Bd; decide +kernel), fun f H4 f0 f1 e4 s4 => ?_⟩
        have hl4 := e4 _ _ nls (upd_same (H := H3) (a := l) (o := .lst [.int 1, .int (-1)]))
        have hf : f = 0 ∨ f = 1 := by omega
        rcases hf with rfl | rfl
        · exact ⟨l, _, _, .int 1, rfl, rfl, SqL.of hl4, rfl, kq 1 H4 (.inl rfl) ((ExB.of xl).trans e4) s4⟩
        · exact ⟨l, _, _, .int (-1), rfl, rfl, SqL.of hl4, rfl, kq (-1) H4 (.inr rfl) ((ExB.of xl).trans e4) s4⟩
      · exact ⟨_, D, ns, rfl, hD3, by omega, hP, s2.ne hD, fresh_B e2 hD s2.obj, e3, s3.le (by omega)⟩
    rintro σ' H3 ⟨y8, q, sg, rfl, hq, hql, hqs, nqs, nqH, e3, s3⟩
    have hT3 : Tab H3 p2 as2 rows2 := ⟨e3 _ _ np2s hT2.1, rows_but hT2.2 fun a ha o z => e3 a o (nas2 a ha) z⟩
    have e03 := e2.trans e3
    -- found
    refine ⟨Nat.zero_le _, fun p3 np3 => ?_⟩
    have x3 : Ex H3 (upd H3 p3 (.lst [])) := Ex.new np3
    have np3s : p3 ≠ s := s3.ne np3
    have np3H : H p3 = none := fresh_B e03 np3 s3.obj
    have ne3 : ∀ {b : Addr} {o : HO}, H3 b = some o → b ≠ p3 := fun h => ne_of_none h np3
    have qp3 := ne3 hq
    refine ⟨_, rfl, p2, rfl, ⟨_, SqL.of (x3 _ _ hT3.1)⟩, for_list (K := K) (a := p2) (xs := as2.map V.ref) (fun i σ H' => ∃ (y5 y6 y9 y10 : Option V) (as : List Addr) (rws : List (List Int)), σ = [some (.ref s), some (.ref g), some (.ref p2), some (.ref q), some (.ref p3), y5, y6, y7, y8, y9, y10] ∧ rws.length = i ∧ NewTab H H' p3 as rws w2 100 ∧ ExB s H H' ∧ SrcAt H' s (n + 109 + i) ∧
      Tab H' p2 as2 rows2 ∧ H' q = some (.lst (sg.map V.int))) ?_ (fun i σ H' _ ⟨_, _, _, _, _, _, _, _, _, _, _, t, _⟩ => SqL.of t.1) ?_ ?_⟩
    · exact ⟨_, _, _, _, [], [], rfl, rfl, NewTab.new np3H upd_same, e03.trans (ExB.of x3), (s3.ex x3).le (by omega), hT3.ex x3, x3 _ _ hq⟩
    · rintro i x σ H4 hi ⟨z5, z6, z9, z10, as, rws, rfl, hl, hN, e4, s4, hT4, hq4⟩
      rw [List.getElem?_map] at hi
      obtain ⟨ai, hai, rfl⟩ := Option.map_eq_some_iff.mp hi
      obtain ⟨ri, hri, hti⟩ := paired_get hT4.2 hai
      have lri := hok2 ri (List.mem_of_getElem? hri)
      have i8 : i < m2 := by rw [← hm2]; exact (List.getElem?_eq_some_iff.mp hri).1
      have nai := nas2 ai (List.mem_of_getElem? hai)
      refine ⟨fun σ' H' => ∃ f : Int, (f = 1 ∨ f = -1) ∧ σ' = [some (.ref s), some (.ref g), some (.ref p2), some (.ref q), some (.ref p3), some (.ref ai), some (.int f), y7, y8, z9, z10] ∧ ExB s H4 H' ∧ SrcAt H' s (n + 109 + i + 1), ?_, ?_⟩
      · refine ⟨_, rfl, (by show 3 ≤ sizeLine; decide), fun l nl => ?_⟩
        have xl : Ex H4 (upd H4 l (.lst [.int 1, .int 1, .int (-1)])) := Ex.new nl
        have nls : l ≠ s := s4.ne nl
        refine ⟨_, rfl, s, 3, _, rfl, s4.ex xl, by omega, by decide, (by unfold Bd; decide +kernel), fun f H5 f0 f1 e5 s5 => ?_⟩
        have hl5 := e5 _ _ nls (upd_same (H := H4) (a := l) (o := .lst [.int 1, .int 1, .int (-1)]))
        have hf : f = 0 ∨ f = 1 ∨ f = 2 := by omega
        rcases hf with rfl | rfl | rfl
        · exact ⟨l, _, _, .int 1, rfl, rfl, SqL.of hl5, rfl, 1, .inl rfl, rfl, (ExB.of xl).trans e5, s5⟩
        · exact ⟨l, _, _, .int 1, rfl, rfl, SqL.of hl5, rfl, 1, .inl rfl, rfl, (ExB.of xl).trans e5, s5⟩
        · exact ⟨l, _, _, .int (-1), rfl, rfl, SqL.of hl5, rfl, -1, .inr rfl, rfl, (ExB.of xl).trans e5, s5⟩
      rintro σ' H5 ⟨f, hf, rfl, e5, s5⟩
      have N5 := hN.exB e5 hs.obj
      have hT5 : Tab H5 p2 as2 rows2 := ⟨e5 _ _ np2s hT4.1, rows_but hT4.2 fun a ha o z => e5 a o (nas2 a ha) z⟩
      have hq5 := e5 _ _ nqs hq4
      have hti5 := e5 _ _ nai hti
      have al : as.length = i := by rw [Paired.length N5.tab.2, hl]
      have bf : Bd 2 f := by
        rcases hf with rfl | rfl <;> (unfold Bd; decide)
      have small : ∀ {x : Int}, x.natAbs ≤ 100 → Bd 10 x := fun {x} h => Nat.lt_of_le_of_lt h (by decide)
      refine ⟨_, rfl, .inl ⟨rfl, _, SqL.of N5.tab.1⟩, ?_⟩
      refine el_zip (K := K) (f := fun x y => f * x * y) (xs := ri) (ys := sg) (ea_cons (ev_var rfl) (ea_cons (ev_var rfl) ea_nil)) (SqL.of hti5) (SqL.of hq5) (by omega) (by omega) (fun u v => rfl) (fun x y H1 hx hy _ => ev_op (ev_op (ev_var rfl) (ev_var rfl) (rv_I (bf.mulOk (small (lri.2 x hx))))) (ev_var rfl) (rv_I ((bf.mul (small (lri.2 x hx))).mulOk (show Bd 2 y by rcases hqs y hy with rfl | rfl <;> (unfold Bd; decide))))) H5 (Ex.refl _) _ fun r H6 nr e6 hr => ?_
      refine ⟨p3, _, _, rfl, rfl, e6 _ _ N5.tab.1, small1000 (by rw [List.length_map]; omega), ?_⟩
      refine ⟨_, _, _, _, as ++ [r], rws ++ [_], rfl, by rw [List.length_append, hl]; rfl, N5.app (noneB (e4.trans e5) s5.obj) e6 nr hr (by rw [List.length_zipWith]; omega) (fun y hy => ?_), ?_, ?_, ?_, ?_⟩
      · obtain ⟨u, v, hu, hv, rfl⟩ : ∃ u v, u ∈ ri ∧ v ∈ sg ∧ f * u * v = y := by
          obtain ⟨j, hj⟩ := List.getElem?_of_mem hy
          rw [List.getElem?_zipWith] at hj
          cases h3 : ri[j]? with
          | none => rw [h3] at hj; simp at hj
          | some u =>
            cases h4 : sg[j]? with
            | none => rw [h3, h4] at hj; simp at hj
            | some v =>
              rw [h3, h4] at hj
              exact ⟨u, v, List.mem_of_getElem? h3, List.mem_of_getElem? h4, Option.some.inj hj⟩
        have b1 := lri.2 u hu
        rcases hf with rfl | rfl <;> rcases hqs v hv with rfl | rfl <;> omega
      · refine fun b o nb h => ?_
        rw [upd_ne (ne_of_none h np3H)]
        exact e6 _ _ (e5 _ _ nb (e4 _ _ nb h))
      · obtain ⟨a1, a2, a3, a4, a5, a6, a7, a8⟩ := s5.ex e6
        exact ⟨a1, a2, a3, by rw [upd_ne np3s.symm]; exact a4, a5, a6, a7, by omega⟩
      · refine ⟨?_, rows_but hT5.2 fun a ha o z => ?_⟩
        · rw [upd_ne (ne3 hT3.1)]
          exact e6 _ _ hT5.1
        · obtain ⟨_, _, h3⟩ := paired_mem hT3.2 ha
          rw [upd_ne (ne3 h3)]
          exact e6 _ _ z
      · rw [upd_ne qp3]
        exact e6 _ _ hq5
    · rintro σ H4 ⟨z5, z6, z9, z10, as, rws, rfl, hl, hN, e4, s4, _, _⟩
      refine ⟨_, rfl, ?_⟩
      rw [List.length_map] at hl s4
      have := Paired.length hT3.2
      exact k as rws p3 H4 m2 w2 hmw hN (by omega) e4 (s4.le (by omega))
-- DEF check_table

def sp_check_table (K : PySem.W.Frag) : Sp := fun vs H Q _ => ∃ (p : Addr) (as : List Addr) (rows : List (List Int)) (m w : Nat), vs = [.ref p] ∧ TabOk H p as rows m w ∧ ∀ H', Ex H H' → Q .non H'

theorem ok_check_table (T : Txt K mg) : FnOk P w K mg base CX0 4 T.f_check_table T.fd_check_table ["thing"] (sp_check_table K) := by
  refine Fun.ok T.F_check_table sc_check_table (fun vs H Q E h => ?_) (fun cdv A outer s H vs Q E hr h => ?_)
  · obtain ⟨_, _, _, _, _, rfl, _⟩ := h; rfl
  · refine ⟨_, (pss_one (ps_if (pt_not (pt_val (pe_call (ok_is_table T) hr (by rfl) T.g_is_table T.k_is_table T.b_is_table .nil pass0 (pa_cons (pv 0) pa_nil))))
        (pss_one ps_never)
        pss_nil)), ?_⟩
    obtain ⟨p, as, rows, m, w, rfl, hT, k⟩ := h
    exact ⟨_, rfl, p, as, rows, m, w, rfl, hT, fun H' e => ⟨true, rfl, iteF (k H' e)⟩⟩
-- DEF _law_net_drawn

def sp__law_net_drawn (K : PySem.W.Frag) : Sp := fun vs H Q _ => ∃ (s : Addr) (n : Int) (m w : Nat), vs = [.ref s, .int m, .int w] ∧ SrcAt H s n ∧ n ≤ 300000000 ∧ 1 ≤ m ∧ m ≤ 8 ∧ 1 ≤ w ∧ w ≤ 8 ∧
  ∀ (rs : List Addr) (rows : List (List Int)) (p : Addr) (H' : Hp), NewTab H H' p rs rows w 100 → rows.length = m → ExB s H H' → SrcAt H' s (n + 400) → Q (.ref p) H'

theorem ok__law_net_drawn (T : Txt K mg) : FnOk P w K mg base CX0 4 T.f__law_net_drawn T.fd__law_net_drawn ["_law_source", "_law_many", "_law_wide"] (sp__law_net_drawn K) := by
  refine Fun.ok T.F__law_net_drawn sc__law_net_drawn (fun vs H Q E h => ?_) (fun cdv A outer s H vs Q E hr h => ?_)
  · obtain ⟨_, _, _, _, rfl, _⟩ := h; rfl
  · refine ⟨_, (pss_cons (ps_setLc (i := 3) (own := [("_law_k", 4)]) (g := gName 4) (tt := tYes) rfl sc__law_net_drawn.nd rfl rfl (sw_true rfl rfl rfl (by decide +kernel)) (pi_range1 (by rfl) T.n_range (pa_cons (pv 2) pa_nil)) (blkOk_by (N := ["_law_source", "_law_many", "_law_wide", "_law_arcs", "_law_k"]) (sc := (defScope s__law_net_drawn)) (by decide +kernel)) (fun _ _ _ _ _ => pg_name (i := 4) sc__law_net_drawn.nd rfl (Or.inl rfl)) (fun _ _ _ _ _ => pts_nil) (fun _ _ _ _ _ => (pe_tup (pa_cons (pe_call (ok__law_next T) (hr.mono (by decide)) (by rfl) T.g__law_next T.k__law_next T.b__law_next .nil pass0 (pa_cons (pv 0) (pa_cons (pe_op op_add (pv 1) pe_int) pa_nil))) (pa_cons (pe_call (ok__law_next T) (hr.mono (by decide)) (by rfl) T.g__law_next T.k__law_next T.b__law_next .nil pass0 (pa_cons (pv 0) (pa_cons (pe_op op_add (pv 1) pe_int) pa_nil))) pa_nil)))))
      (pss_one (ps_ret (pe_call (ok__law_net T) (hr.mono (by decide)) (by rfl) T.g__law_net T.k__law_net T.b__law_net .nil pass0 (pa_cons (pe_call (ok__law_ends T) hr (by rfl) T.g__law_ends T.k__law_ends T.b__law_ends .nil pass0 (pa_cons (pv 0) (pa_cons (pv 1) pa_nil))) (pa_cons (pv 3) pa_nil)))))), ?_⟩
    obtain ⟨s, n, m, w, rfl, hs, hn, hm1, hm8, hw1, hw8, k⟩ := h
    refine ⟨_, rfl, _, rfl, by omega, by omega, fun D hD => ?_⟩
    have hDs : D ≠ s := hs.ne hD
    refine lc_range (lo := 0) (n := (w : Int).toNat) (fun i H' => ∃ (bs : List Addr) (qs : List (Int × Int)), H' D = some (.lst (bs.map V.ref)) ∧ EdgesAt H' bs qs ∧ qs.length = i ∧ ExB s H H' ∧ SrcAt H' s (n + 2 * i) ∧ ∀ e ∈ qs, 0 ≤ e.1 ∧ e.1 ≤ (m : Int) ∧ 0 ≤ e.2 ∧ e.2 ≤ (m : Int))
      ⟨[], [], upd_same, .nil, rfl, ExB.of (Ex.new hD), (hs.ex (Ex.new hD)).le (by omega), fun e he => by simp at he⟩ (fun i H1 hi p => ?_) (fun H1 p => ?_)
    · obtain ⟨bs, qs, h1, h2, h3, h4, h5, h6⟩ := p
      have bm : Bd 8000 ((m : Int) + 1) := by
        unfold Bd
        exact Nat.lt_of_lt_of_le (show ((m : Int) + 1).natAbs < 1024 by omega) (by decide +kernel)
      refine ⟨rfl, ?_⟩
      refine ⟨_, rfl, _, rfl, _, _, rfl, rfl, s, _, _, rfl, h5, by omega, by omega, bm, fun f H2 f0 f1 e2 s2 => ?_⟩
      refine ⟨_, rfl, _, rfl, _, _, rfl, rfl, s, _, _, rfl, s2, by omega, by omega, bm, fun g H3 g0 gl e3 s3 => ?_⟩
      refine ⟨(by show 2 ≤ sizeLine; decide), fun t nt => ?_⟩
      have xt : Ex H3 (upd H3 t (.tup [.int f, .int g])) := Ex.new nt
      have e13 := e2.trans e3
      have hD3 := e13 _ _ hDs h1
      have el : bs.length = i := by rw [Paired.length h2, h3]
      refine ⟨_, xt _ _ hD3, small1000 (by rw [List.length_map]; omega), bs ++ [t], qs ++ [(f, g)], ?_, ?_, ?_, ?_, ?_, ?_⟩
      · rw [upd_same, List.map_append]
        rfl
      · exact paired_imp (fun c d h => tups_U (xt _ _ hD3) _ _ h) (paired_snoc (EdgesAt.mono (fun c xs h => xt _ _ (tups_B h5 e13 _ _ h)) h2) (upd_same : upd H3 t (.tup [.int f, .int g]) t = some (.tup [.int f, .int g])))
      · rw [List.length_append, h3]
        rfl
      · refine fun b o nb h => ?_
        rw [upd_ne (ne_of_none h hD)]
        exact xt _ _ (e13 _ _ nb (h4 _ _ nb h))
      · obtain ⟨a1, a2, a3, a4, a5, a6, a7, a8⟩ := s3.ex xt
        exact ⟨a1, a2, a3, by rw [upd_ne hDs.symm]; exact a4, a5, a6, a7, by omega⟩
      · intro e he
        rcases List.mem_append.mp he with q | q
        · exact h6 e q
        · have : e = (f, g) := by simpa using q
          rw [this]
          exact ⟨f0, by omega, g0, by omega⟩
    · obtain ⟨bs, qs, h1, h2, h3, h4, h5, h6⟩ := p
      have h3' : qs.length = w := by rw [h3]; omega
      refine ⟨_, rfl, _, rfl, s, _, _, rfl, h5, by omega, by omega, by omega, fun as es p H2 l2 b2 c2 d2 e2 f2 g2' s2 => ?_⟩
      refine ⟨_, rfl, p, D, as, bs, es, qs, m, rfl, by omega, hm1, hm8, e2, d2, g2' _ _ hDs h1, EdgesAt.mono (tups_B h5 g2') h2, by omega, b2, h6, c2, fun rs rows p' H3 x1 x2 x3 x4 x5 x6 x7 x8 => ?_⟩
      have nt : NewTab H2 H3 p' rs rows w 100 := ⟨x1, x2, x3, x4, x6, fun r hr => by rw [← h3']; exact x8 r hr⟩
      exact k rs rows p' H3 (nt.back (h4.trans g2') s2.obj) x7 ((h4.trans g2').trans (ExB.of x5)) ((s2.ex x5).le (by omega))
-- DEF shape

def sp_shape (K : PySem.W.Frag) : Sp := fun vs H Q _ => ∃ (p : Addr) (as : List Addr) (rows : List (List Int)) (m w : Nat), vs = [.ref p] ∧ TabOk H p as rows m w ∧ ∀ t H', H t = none → Ex H H' → H' t = some (.tup [.int m, .int w]) → Q (.ref t) H'

theorem ok_shape (T : Txt K mg) : FnOk P w K mg base CX0 5 T.f_shape T.fd_shape ["table"] (sp_shape K) := by
  refine Fun.ok T.F_shape sc_shape (fun vs H Q E h => ?_) (fun cdv A outer s H vs Q E hr h => ?_)
  · obtain ⟨_, _, _, _, _, rfl, _⟩ := h; rfl
  · refine ⟨_, (pss_cons (ps_expr (pe_call (ok_check_table T) hr (by rfl) T.g_check_table T.k_check_table T.b_check_table .nil pass0 (pa_cons (pv 0) pa_nil)))
      (pss_one (ps_ret (pe_tup (pa_cons (pe_callB (id := "len") (r := rLenS K) call_len_seq (by rfl) T.n_len PySem.boot_len (pa_cons (pv 0) pa_nil)) (pa_cons (pe_callB (id := "len") (r := rLenS K) call_len_seq (by rfl) T.n_len PySem.boot_len (pa_cons (pe_ix (r := rIxL K) ix_list (pv 0) pe_int (fun _ _ => rfl)) pa_nil)) pa_nil)))))), ?_⟩
    obtain ⟨p, as, rows, m, w, rfl, hT, k⟩ := h
    refine ⟨_, rfl, p, as, rows, m, w, rfl, hT, fun H1 e1 => ?_⟩
    have hT1 := hT.ex e1
    obtain ⟨a0, r0, _, _, hh0, hl0, at0⟩ := hT1.row0
    refine s_retU (eu_tup (ea_cons (ev_is (ev_len (ev_var rfl) (SqL.of hT1.tab.1)) (by rw [List.length_map, hT.al])) (ea_cons (ev_is (ev_len (ev_op (ev_var rfl) ev_c (rv_ixL (SqL.of hT1.tab.1) at0)) (SqL.of hh0)) (by rw [List.length_map, hl0])) ea_nil)) (Nat.le_of_ble_eq_true rfl)) fun t H2 nt e2 ht => k t H2 (fresh_back e1 nt) (e1.trans e2) ht
-- DEF _law_table

def sp__law_table (K : PySem.W.Frag) : Sp := fun vs H Q _ => ∃ (s : Addr) (n : Int) (most : Nat), vs = [.ref s, .int most] ∧ SrcAt H s n ∧ n ≤ 100000000 ∧ 1 ≤ most ∧ most ≤ 8 ∧
  ∀ (rs : List Addr) (rows : List (List Int)) (p : Addr) (H' : Hp) (m w : Nat), 1 ≤ m → m ≤ most → 1 ≤ w → w ≤ most → NewTab H H' p rs rows w (10 ^ 30) → rows.length = m → ExB s H H' → SrcAt H' s (n + 1000) → Q (.ref p) H'

theorem ok__law_table (T : Txt K mg) : FnOk P w K mg base CX0 5 T.f__law_table T.fd__law_table ["_law_source", "_law_most"] (sp__law_table K) := by
  refine Fun.ok T.F__law_table sc__law_table (fun vs H Q E h => ?_) (fun cdv A outer s H vs Q E hr h => ?_)
  · obtain ⟨_, _, _, rfl, _⟩ := h; rfl
  · refine ⟨_, (pss_cut (ps_set (i := 2) sc__law_table.nd rfl (by first | exact Or.inl rfl | exact Or.inr rfl) (pe_op op_add pe_int (pe_call (ok__law_next T) (hr.mono (by decide)) (by rfl) T.g__law_next T.k__law_next T.b__law_next .nil pass0 (pa_cons (pv 0) (pa_cons (pv 1) pa_nil)))))
      (pss_cut (ps_set (i := 3) sc__law_table.nd rfl (by first | exact Or.inl rfl | exact Or.inr rfl) (pe_op op_add pe_int (pe_call (ok__law_next T) (hr.mono (by decide)) (by rfl) T.g__law_next T.k__law_next T.b__law_next .nil pass0 (pa_cons (pv 0) (pa_cons (pv 1) pa_nil)))))
      (pss_cut (ps_set (i := 4) sc__law_table.nd rfl (by first | exact Or.inl rfl | exact Or.inr rfl) (pe_call (ok__law_next T) (hr.mono (by decide)) (by rfl) T.g__law_next T.k__law_next T.b__law_next .nil pass0 (pa_cons (pv 0) (pa_cons pe_int pa_nil))))
      (pss_cut (ps_if (pt_cmpR op_lt (pv 4) pe_int (nomark _))
        (pss_one (ps_setLc (i := 5) (own := [("_law_row", 7)]) (g := gName 7) (tt := tYes) rfl sc__law_table.nd rfl rfl (sw_true rfl rfl rfl (by decide +kernel)) (pi_range1 (by rfl) T.n_range (pa_cons (pv 2) pa_nil)) (blkOk_by (N := ["_law_source", "_law_most", "_law_many", "_law_wide", "_law_kind", "_law_grid", "_law_k", "_law_row"]) (sc := (defScope s__law_table)) (by decide +kernel)) (fun _ _ _ _ _ => pg_name (i := 7) sc__law_table.nd rfl (Or.inl rfl)) (fun _ _ _ _ _ => pts_nil) (fun _ _ _ _ _ => (pe_lc (own := [("_law_k", 6)]) (g := gName 6) (tt := tYes) rfl sc__law_table.nd (pi_range1 (by rfl) T.n_range (pa_cons (pv 3) pa_nil)) (blkOk_by (N := ["_law_source", "_law_most", "_law_many", "_law_wide", "_law_kind", "_law_grid", "_law_k", "_law_row"]) (sc := (relS ({ kind := .function, names := [(".0", .local), ("_law_row", .local), ("range", .globalImplicit), ("_law_source", .free), ("_law_wide", .free)], isGenerator := false, isCoroutine := false } : Scope) (defScope s__law_table))) (by decide +kernel)) (fun _ _ _ _ _ => pg_name (i := 6) sc__law_table.nd rfl (Or.inl rfl)) (fun _ _ _ _ _ => pts_nil) (fun _ _ _ _ _ => (pe_op op_sub (pe_call (ok__law_next T) (hr.mono (by decide)) (by rfl) T.g__law_next T.k__law_next T.b__law_next .nil pass0 (pa_cons (pv 0) (pa_cons pe_int pa_nil))) pe_int))))))
        (pss_one (ps_if (pt_cmpR op_lt (pv 4) pe_int (nomark _))
            (pss_one (ps_set (i := 5) sc__law_table.nd rfl (by first | exact Or.inl rfl | exact Or.inr rfl) (pe_call (ok__law_net_drawn T) hr (by rfl) T.g__law_net_drawn T.k__law_net_drawn T.b__law_net_drawn .nil pass0 (pa_cons (pv 0) (pa_cons (pv 2) (pa_cons (pv 3) pa_nil))))))
            (pss_one (ps_set (i := 5) sc__law_table.nd rfl (by first | exact Or.inl rfl | exact Or.inr rfl) (pe_call (ok__law_stretches T) (hr.mono (by decide)) (by rfl) T.g__law_stretches T.k__law_stretches T.b__law_stretches .nil pass0 (pa_cons (pv 0) (pa_cons (pv 2) (pa_cons (pv 3) pa_nil)))))))))
      (pss_cut (ps_if (pt_cmpR op_eq (pe_call (ok__law_next T) (hr.mono (by decide)) (by rfl) T.g__law_next T.k__law_next T.b__law_next .nil pass0 (pa_cons (pv 0) (pa_cons pe_int pa_nil))) pe_int (nomark _))
        (pss_one (ps_set (i := 5) sc__law_table.nd rfl (by first | exact Or.inl rfl | exact Or.inr rfl) (pe_call (ok__law_swung T) (hr.mono (by decide)) (by rfl) T.g__law_swung T.k__law_swung T.b__law_swung .nil pass0 (pa_cons (pv 0) (pa_cons (pv 5) pa_nil)))))
        pss_nil)
      (pss_cons (ps_for PassesOwn.never rfl (pi_range1 (by rfl) T.n_range (pa_cons (pe_call (ok__law_one T) (hr.mono (by decide)) (by rfl) T.g__law_one T.k__law_one T.b__law_one .nil pass0 (pa_cons (pv 0) (pa_cons (pe_lst (pa_cons pe_int (pa_cons pe_int (pa_cons pe_int (pa_cons pe_int pa_nil))))) pa_nil))) pa_nil)) (pg_name (i := 6) sc__law_table.nd rfl (by first | exact Or.inl rfl | exact Or.inr rfl))
        (pss_cut (ps_set (i := 7) sc__law_table.nd rfl (by first | exact Or.inl rfl | exact Or.inr rfl) (pe_ix (r := rIxL K) ix_list (pv 5) (pe_call (ok__law_next T) (hr.mono (by decide)) (by rfl) T.g__law_next T.k__law_next T.b__law_next .nil pass0 (pa_cons (pv 0) (pa_cons (pe_callB (id := "len") (r := rLenS K) call_len_seq (by rfl) T.n_len PySem.boot_len (pa_cons (pv 5) pa_nil)) pa_nil))) (fun _ _ => rfl)))
          (pss_one (ps_asg (pe_call (ok__law_one T) (hr.mono (by decide)) (by rfl) T.g__law_one T.k__law_one T.b__law_one .nil pass0 (pa_cons (pv 0) (pa_cons (pe_lst (pa_cons pe_int (pa_cons (pe_un un_neg pe_int) (pa_cons pe_int (pa_cons pe_int (pa_cons (pe_un un_neg pe_int) (pa_cons pe_int (pa_cons pe_int (pa_cons (pe_un un_neg pe_int) (pa_cons (pe_op op_pow pe_int pe_int) pa_nil)))))))))) pa_nil))) (pg_sub (pv 7) (pe_call (ok__law_next T) (hr.mono (by decide)) (by rfl) T.g__law_next T.k__law_next T.b__law_next .nil pass0 (pa_cons (pv 0) (pa_cons (pe_callB (id := "len") (r := rLenS K) call_len_seq (by rfl) T.n_len PySem.boot_len (pa_cons (pv 7) pa_nil)) pa_nil))) set_list)))))
      (pss_one (ps_ret (pv 5))))))))), ?_⟩
    obtain ⟨s, n, most, rfl, hs, hn, hm1, hm8, k⟩ := h
    have bmost : Bd 8000 (most : Int) := by
      unfold Bd
      exact Nat.lt_of_lt_of_le (show ((most : Int)).natAbs < 1024 by omega) (by decide +kernel)
    -- many, wide, kind
    refine ⟨fun σ' H1 => ∃ m : Nat, σ' = [some (.ref s), some (.int most), some (.int m), none, none, none, none, none] ∧ 1 ≤ m ∧ m ≤ most ∧ ExB s H H1 ∧ SrcAt H1 s (n + 1), ?_, ?_⟩
    · refine ⟨_, rfl, _, rfl, s, _, n, rfl, hs, by omega, by omega, bmost, fun f H1 f0 f1 e1 s1 => ⟨_, _, rfl, rfl, (1 + f).toNat, ?_, by omega, by omega, e1, s1⟩⟩
      have : (((1 + f).toNat : Nat) : Int) = 1 + f := by omega
      rw [this]
      rfl
    rintro σ' H1 ⟨m, rfl, m1, m2, e1, s1⟩
    refine ⟨fun σ' H2 => ∃ w : Nat, σ' = [some (.ref s), some (.int most), some (.int m), some (.int w), none, none, none, none] ∧ 1 ≤ w ∧ w ≤ most ∧ ExB s H H2 ∧ SrcAt H2 s (n + 2), ?_, ?_⟩
    · refine ⟨_, rfl, _, rfl, s, _, _, rfl, s1, by omega, by omega, bmost, fun f H2 f0 f1 e2 s2 => ⟨_, _, rfl, rfl, (1 + f).toNat, ?_, by omega, by omega, e1.trans e2, s2.le (by omega)⟩⟩
      have : (((1 + f).toNat : Nat) : Int) = 1 + f := by omega
      rw [this]
      rfl
    rintro σ' H2 ⟨w, rfl, w1, w2, e2, s2⟩
    refine ⟨fun σ' H3 => ∃ f : Int, σ' = [some (.ref s), some (.int most), some (.int m), some (.int w), some (.int f), none, none, none] ∧ ExB s H H3 ∧ SrcAt H3 s (n + 3), ?_, ?_⟩
    · exact ⟨_, rfl, s, 8, _, rfl, s2, by omega, by decide, (by unfold Bd; decide +kernel), fun f H3 f0 f1 e3 s3 => ⟨f, rfl, e2.trans e3, s3.le (by omega)⟩⟩
    rintro σ' H3 ⟨f, rfl, e3, s3⟩
    clear e1 s1 e2 s2
    -- the table
    refine ⟨fun σ' H4 => ∃ (y6 y7 : Option V) (p : Addr) (as : List Addr) (rows : List (List Int)), σ' = [some (.ref s), some (.int most), some (.int m), some (.int w), some (.int f), some (.ref p), y6, y7] ∧ NewTab H H4 p as rows w 100 ∧ rows.length = m ∧ ExB s H H4 ∧ SrcAt H4 s (n + 403), ?_, ?_⟩
    · refine ⟨_, rfl, _, _, rfl, rfl, _, rfl, ?_⟩
      refine ite2 (fun _ => ?_) (fun _ => ?_)
      · -- drawn
        refine ⟨_, rfl, _, rfl, by omega, by omega, fun D hD => ?_⟩
        have hDs : D ≠ s := s3.ne hD
        have hDH : H D = none := fresh_B e3 hD s3.obj
        refine lc_range (lo := 0) (n := (m : Int).toNat) (fun i H' => ∃ as rows, NewTab H H' D as rows w 100 ∧ rows.length = i ∧ ExB s H H' ∧ SrcAt H' s (n + 3 + 10 * i)) ⟨[], [], NewTab.new hDH upd_same, rfl, e3.trans (ExB.of (Ex.new hD)), (s3.ex (Ex.new hD)).le (by omega)⟩ (fun i H4 hi p => ?_) (fun H4 p => ?_)
        · obtain ⟨as, rows, hN, hl, e4, s4⟩ := p
          have al : as.length = i := by rw [Paired.length hN.tab.2, hl]
          refine ⟨rfl, ?_⟩
          dsimp only [tYes]
          rw [if_pos rfl]
          refine lc_draw (s := s) (n := n + 3 + 10 * i) (m := w) (fun x => x.natAbs ≤ 100) (ea_cons (ev_var rfl) ea_nil) (by omega) s4 (fun u => rfl) (fun j H5 e5 hj s5 Q1 kq => ?_) (fun r ns H5 nr e5 s5 hr hln hP => ?_)
          · exact ⟨_, rfl, s, 3, _, rfl, s5, by omega, by decide, (by unfold Bd; decide +kernel), fun g H6 g0 g1 e6 s6 => ⟨_, _, rfl, rfl, kq (g - 1) H6 (by omega) e6 s6⟩⟩
          · have N5 := hN.exB e5 hs.obj
            have nr0 : H r = none := fresh_B e4 nr s4.obj
            have nrD : r ≠ D := fun z => by
              rw [z, hN.tab.1] at nr
              cases nr
            have nra : r ∉ as := fun ha => by
              obtain ⟨x, _, hx⟩ := paired_mem hN.tab.2 ha
              rw [nr] at hx
              cases hx
            refine ⟨_, N5.tab.1, small1000 (by rw [List.length_map]; omega), as ++ [r], rows ++ [ns], ?_, ?_, ?_, ?_⟩
            · refine ⟨hDH, fun a ha => ?_, ?_, ?_, ⟨?_, ?_⟩, fun x hx => ?_⟩
              · rcases List.mem_append.mp ha with q | q
                · exact hN.a0 a q
                · rw [show a = r by simpa using q]
                  exact nr0
              · refine List.nodup_append.mpr ⟨hN.nd, by simp, fun a ha b hb z => ?_⟩
                have : b = r := by simpa using hb
                exact nra (by rw [← this, ← z]; exact ha)
              · intro ha
                rcases List.mem_append.mp ha with q | q
                · exact hN.np q
                · exact nrD (by simpa using q : D = r).symm
              · rw [upd_same, List.map_append]
                rfl
              · refine paired_snoc (rows_but N5.tab.2 fun a ha o g => ?_) ?_
                · rw [upd_ne (fun z => hN.np (by rw [← z]; exact ha))]
                  exact g
                · rw [upd_ne nrD]
                  exact hr
              · rcases List.mem_append.mp hx with q | q
                · exact hN.ok x q
                · rw [show x = ns by simpa using q]
                  exact ⟨hln, hP⟩
            · rw [List.length_append, hl]
              rfl
            · refine fun b o nb h => ?_
              rw [upd_ne (ne_of_none h hDH)]
              exact e5 _ _ nb (e4 _ _ nb h)
            · obtain ⟨a1, a2, a3, a4, a5, a6, a7, a8⟩ := s5
              exact ⟨a1, a2, a3, by rw [upd_ne hDs.symm]; exact a4, a5, a6, a7, by omega⟩
        · obtain ⟨as, rows, hN, hl, e4, s4⟩ := p
          exact ⟨_, _, D, as, rows, rfl, hN, by omega, e4, s4.le (by omega)⟩
      · refine ⟨_, rfl, _, _, rfl, rfl, _, rfl, ?_⟩
        refine ite2 (fun _ => ?_) (fun _ => ?_)
        · refine ⟨_, rfl, _, rfl, _, rfl, s, _, m, w, rfl, s3, by omega, by omega, by omega, by omega, by omega, fun rs rows p H4 hN hl e4 s4 => ?_⟩
          exact ⟨_, _, p, rs, rows, rfl, hN.back e3 s3.obj, hl, e3.trans e4, s4.le (by omega)⟩
        · refine ⟨_, rfl, _, rfl, _, rfl, s, _, m, w, rfl, s3, by omega, by omega, by omega, by omega, by omega, fun rs rows p H4 hN hl e4 s4 => ?_⟩
          exact ⟨_, _, p, rs, rows, rfl, hN.back e3 s3.obj, hl, e3.trans e4, s4.le (by omega)⟩
    rintro σ' H4 ⟨y6, y7, p, as, rows, rfl, hN, hl, e4, s4⟩
    -- perhaps swung
    have nin : ∀ {a : Addr}, H a = none → a ≠ s := fun h => hs.ne h
    refine ⟨fun σ' H5 => ∃ (p : Addr) (as : List Addr) (rows : List (List Int)) (m' w' : Nat), σ' = [some (.ref s), some (.int most), some (.int m), some (.int w), some (.int f), some (.ref p), y6, y7] ∧ 1 ≤ m' ∧ m' ≤ most ∧ 1 ≤ w' ∧ w' ≤ most ∧ NewTab H H5 p as rows w' 100 ∧ rows.length = m' ∧ ExB s H H5 ∧ SrcAt H5 s (n + 604), ?_, ?_⟩
    · refine ⟨_, rfl, s, 2, _, rfl, s4, by omega, by decide, (by unfold Bd; decide +kernel), fun g H5 g0 g1 e5 s5 => ⟨rfl, _, rfl, ?_⟩⟩
      have N5 := hN.exB e5 hs.obj
      refine ite2 (fun _ => ?_) (fun _ => ?_)
      · refine ⟨_, rfl, _, rfl, s, p, _, as, rows, m, w, rfl, s5, by omega, nin hN.p0, fun a ha => nin (hN.a0 a ha), N5.tab, hl, hN.ok, by omega, by omega, by omega, by omega, fun rs rows' p' H6 m' w' hmw hN' hl' e6 s6 => ?_⟩
        refine ⟨p', rs, rows', m', w', rfl, ?_, ?_, ?_, ?_, hN'.back (e4.trans e5) s5.obj, hl', (e4.trans e5).trans e6, s6.le (by omega)⟩ <;> rcases hmw with ⟨rfl, rfl⟩ | ⟨rfl, rfl⟩ <;> omega
      · exact ⟨p, as, rows, m, w, rfl, m1, m2, w1, w2, N5, hl, e4.trans e5, s5.le (by omega)⟩
    rintro σ' H5 ⟨p, as, rows, m', w', rfl, m1', m2', w1', w2', hN5, hl5, e5, s5⟩
    clear hN hl e4 s4
    have hN5 := hN5.mono (show 100 ≤ 10 ^ 30 by decide)
    -- other entries
    refine ⟨_, rfl, (by show 4 ≤ sizeLine; decide), fun l nl => ?_⟩
    have xl : Ex H5 (upd H5 l (.lst [.int 0, .int 0, .int 1, .int 2])) := Ex.new nl
    refine ⟨s, l, _, _, rfl, s5.ex xl, by omega, s5.ne nl, SqL.of upd_same, by decide, Nat.le_of_ble_eq_true rfl, fun v hv H6 e6 s6 => ?_⟩
    obtain ⟨c, rfl, hc0, hc2⟩ : ∃ c : Int, v = .int c ∧ 0 ≤ c ∧ c ≤ 2 := by
      simp only [List.mem_cons, List.not_mem_nil, or_false] at hv
      rcases hv with rfl | rfl | rfl | rfl
      · exact ⟨0, rfl, by decide, by decide⟩
      · exact ⟨0, rfl, by decide, by decide⟩
      · exact ⟨1, rfl, by decide, by decide⟩
      · exact ⟨2, rfl, by decide, by decide⟩
    have N6 := (hN5.ex xl).exB e6 hs.obj
    have e06 := (e5.trans (ExB.of xl)).trans e6
    clear xl nl
    refine ⟨_, rfl, by omega, by omega, for_range (lo := 0) (n := c.toNat) (fun i σ H' => ∃ (y6 y7 : Option V) (rows : List (List Int)), σ = [some (.ref s), some (.int most), some (.int m), some (.int w), some (.int f), some (.ref p), y6, y7] ∧ NewTab H H' p as rows w' (10 ^ 30) ∧ rows.length = m' ∧ ExB s H H' ∧ SrcAt H' s (n + 605 + 3 * i)) ⟨_, _, rows, rfl, N6, hl5, e06, s6.le (by omega)⟩ ?_ ?_⟩
    · rintro i σ H7 hi ⟨z6, z7, rows7, rfl, hN7, hl7, e7, s7⟩
      have al : as.length = m' := by rw [Paired.length hN7.tab.2, hl7]
      have i2 : i < 2 := by omega
      refine ⟨fun σ' H8 => ∃ (kk : Nat) (x : Addr) (row : List Int), σ' = [some (.ref s), some (.int most), some (.int m), some (.int w), some (.int f), some (.ref p), some (.int (0 + (i : Int))), some (.ref x)] ∧ as[kk]? = some x ∧ rows7[kk]? = some row ∧ ExB s H7 H8 ∧ SrcAt H8 s (n + 605 + 3 * i + 1), ?_, ?_⟩
      · refine ⟨_, rfl, _, rfl, _, rfl, p, _, rfl, .inl (SqL.of hN7.tab.1), s, _, _, rfl, s7, by omega, (by rw [List.length_map]; omega), ?_, fun g H8 g0 g1 e8 s8 => ?_⟩
        · unfold Bd
          exact Nat.lt_of_lt_of_le (show (((as.map V.ref).length : Nat) : Int).natAbs < 1024 by rw [List.length_map]; omega) (by decide +kernel)
        · rw [List.length_map] at g1
          obtain ⟨x, hx⟩ : ∃ x, as[g.toNat]? = some x := ⟨_, List.getElem?_eq_getElem (by omega)⟩
          obtain ⟨row, hrow, _⟩ := paired_get hN7.tab.2 hx
          have N8 := hN7.exB e8 hs.obj
          exact ⟨p, _, _, _, rfl, rfl, SqL.of N8.tab.1, at_of (j := g.toNat) (by omega) (by rw [List.getElem?_map, hx]; rfl), g.toNat, x, row, rfl, hx, hrow, e8, s8⟩
      rintro σ' H8 ⟨kk, x, row, rfl, hx, hrow, e8, s8⟩
      have N8 := hN7.exB e8 hs.obj
      have nxs : x ≠ s := nin (hN7.a0 x (List.mem_of_getElem? hx))
      have o := hN7.ok row (List.mem_of_getElem? hrow)
      have hxr : H8 x = some (.lst (row.map V.int)) := by
        obtain ⟨r', hr', hh⟩ := paired_get N8.tab.2 hx
        rw [hrow] at hr'
        rw [Option.some.inj hr']
        exact hh
      refine ⟨_, rfl, _, rfl, _, rfl, _, rfl, _, _, rfl, rfl, ⟨by decide, by decide, by decide⟩, (by show 9 ≤ sizeLine; decide), fun l nl => ?_⟩
      have xl : Ex H8 (upd H8 l (.lst [.int 1, .int (-1), .int 0, .int 1, .int (-1), .int 0, .int 2, .int (-3), .int (10 ^ (30 : Int).toNat)])) := Ex.new nl
      refine ⟨s, l, _, _, rfl, s8.ex xl, by omega, s8.ne nl, SqL.of upd_same, by decide, Nat.le_of_ble_eq_true rfl, fun v hv H9 e9 s9 => ?_⟩
      obtain ⟨y, rfl, hy⟩ : ∃ y : Int, v = .int y ∧ y.natAbs ≤ 10 ^ 30 := by
        simp only [List.mem_cons, List.not_mem_nil, or_false] at hv
        rcases hv with rfl | rfl | rfl | rfl | rfl | rfl | rfl | rfl | rfl <;> exact ⟨_, rfl, by decide +kernel⟩
      have x9 := e9 _ _ nxs (xl _ _ hxr)
      refine ⟨_, rfl, _, rfl, _, rfl, x, _, rfl, .inl (SqL.of x9), s, _, _, rfl, s9, by omega, (by rw [List.length_map, o.1]; omega), ?_, fun g HA g0 g1 eA sA => ?_⟩
      · unfold Bd
        exact Nat.lt_of_lt_of_le (show (((row.map V.int).length : Nat) : Int).natAbs < 1024 by rw [List.length_map, o.1]; omega) (by decide +kernel)
      · rw [List.length_map] at g1
        have e8A := (e8.trans (ExB.of xl)).trans (e9.trans eA)
        have NA := hN7.exB e8A hs.obj
        have ix : ixN (row.map V.int).length g = some g.toNat := by
          have := Evl.ixN_nat (n := (row.map V.int).length) (j := g.toNat) (by rw [List.length_map]; omega)
          rw [← this]
          congr 1
          omega
        refine ⟨x, _, g, g.toNat, rfl, rfl, eA _ _ nxs x9, ix, ?_⟩
        refine ⟨_, _, rows7.set kk (row.set g.toNat y), rfl, NA.set hx hrow hy, by rw [List.length_set]; exact hl7, ?_, ?_⟩
        · refine fun b o' nb h => ?_
          rw [upd_ne (ne_of_none h (hN7.a0 x (List.mem_of_getElem? hx)))]
          exact e8A _ _ nb (e7 _ _ nb h)
        · obtain ⟨a1, a2, a3, a4, a5, a6, a7, a8⟩ := sA
          exact ⟨a1, a2, a3, by rw [upd_ne nxs.symm]; exact a4, a5, a6, a7, by omega⟩
    · rintro σ H7 ⟨z6, z7, rows7, rfl, hN7, hl7, e7, s7⟩
      refine ⟨_, rfl, ?_⟩
      exact k as rows7 p H7 m' w' m1' m2' w1' w2' hN7 hl7 e7 (s7.le (by omega))
-- DEF is_bad

theorem not_in3 (t : Int) : (!inV (.int t) [.int (-1), .int 0, .int 1]) = Bs.isBad t := by
  unfold inV Bs.isBad
  congr 1
  rw [Bool.eq_iff_iff, Bool.or_eq_true, Bool.or_eq_true, decide_eq_true_eq, decide_eq_true_eq, decide_eq_true_eq]
  show (((-1 : Int) == t) || ((0 == t) || ((1 == t) || false))) = true ↔ _
  simp only [Bool.or_false, Bool.or_eq_true, beq_iff_eq]
  omega

def sp_is_bad (K : PySem.W.Frag) : Sp := fun vs H Q _ => ∃ (i : Int), vs = [.int i] ∧ ∀ H', Ex H H' → Q (.bl (Bs.isBad i)) H'

theorem ok_is_bad (T : Txt K mg) : FnOk P w K mg base CX0 1 T.f_is_bad T.fd_is_bad ["value"] (sp_is_bad K) := by
  refine Fun.ok T.F_is_bad sc_is_bad (fun vs H Q E h => ?_) (fun cdv A outer s H vs Q E hr h => ?_)
  · obtain ⟨_, rfl, _⟩ := h; rfl
  · refine ⟨_, (pss_one (ps_ret (pe_cmpR (r := rIn K true) op_notIn_seq (pv 0) (pe_tup (pa_cons (pe_un un_neg pe_int) (pa_cons pe_int (pa_cons pe_int pa_nil)))) (by rfl)))), ?_⟩
    obtain ⟨i, rfl, k⟩ := h
    exact s_ret (ev_is (ev_niU (ev_var rfl) (eu_tup (ea_cons (ev_un (x := .int 1) ev_c ru_neg) (ea_cons ev_c (ea_cons ev_c ea_nil))) (Nat.le_of_ble_eq_true rfl)) rfl rfl) (by rw [not_in3])) fun H1 e1 => k H1 e1
-- DEF unfolded

theorem bd_zero {n : Nat} : Bd n 0 := by
  unfold Bd
  exact Nat.two_pow_pos n
theorem ev_lenTu {K : PySem.W.Frag} {ta : TE} {σ : L2.St} {H : Hp} {p : Addr} {xs : List V} (ha : Ev ta σ H (.ref p)) (h : SqT K H p xs) : Ev (tCB (rLenS K) (tCons ta tNil)) σ H (.int (xs.length : Int)) := fun H1 e Q q => ha H1 e _ fun H2 e2 => ⟨p, xs, rfl, Or.inr (ex_t (e.trans e2) h), q H2 e2⟩
/-- readings that tell a tuple, new or not -/
def EvW (te : TE) (σ : L2.St) (H : Hp) (xs : List V) : Prop := ∀ H1, Ex H H1 → ∀ Q : VK, (∀ p H2, Ex H1 H2 → H2 p = some (.tup xs) → Q (.ref p) H2) → te σ H1 Q
theorem cutV_whole {xs : List V} {lo hi : Option Int} (h : HT.sIx xs.length 0 lo = 0 ∧ HT.sIx xs.length xs.length hi = xs.length) : cutV xs lo hi = xs := by
  unfold cutV
  rw [h.1, h.2, List.drop_zero, Nat.sub_zero, List.take_length]
theorem ew_var {i : Nat} {σ : L2.St} {H : Hp} {a : Addr} {xs : List V} (hσ : σ[i]? = some (some (.ref a))) (h : H a = some (.tup xs)) : EvW (tVar i) σ H xs := fun H1 e Q q => ⟨_, hσ, q a H1 (Ex.refl _) (e _ _ h)⟩
theorem ew_sl {K : PySem.W.Frag} {te : TE} {tl th : TO} {σ : L2.St} {H : Hp} {a : Addr} {xs : List V} {lo hi : Option Int} (h : Ev te σ H (.ref a)) (h1 : EvO tl σ H lo) (h2 : EvO th σ H hi) (hs : H a = some (.tup xs)) : EvW (tSl (rSlA K) te tl th) σ H (cutV xs lo hi) := fun H1 e Q q =>
  h H1 e _ fun H2 e2 => h1 H2 (e.trans e2) _ fun H3 e3 => h2 H3 ((e.trans e2).trans e3) _ fun H4 e4 => by
    have ha := (((e.trans e2).trans e3).trans e4) _ _ hs
    have e14 := (e2.trans e3).trans e4
    exact ⟨a, xs, rfl, SqT.of ha, fun z => q a H4 e14 (by rw [cutV_whole z]; exact ha), fun _ p hp => q p _ (e14.trans (Ex.new hp)) upd_same⟩
theorem ew_cat {K : PySem.W.Frag} {ta tb : TE} {σ : L2.St} {H : Hp} {xs ys : List V} (ha : EvW ta σ H xs) (hb : EvW tb σ H ys) (hz : xs.length + ys.length ≤ 100000) : EvW (tOp (rCatA K) ta tb) σ H (xs ++ ys) := fun H1 e Q q =>
  ha H1 e _ fun a H2 e2 h2 => hb H2 (e.trans e2) _ fun b H3 e3 h3 => by
    have h2' := e3 _ _ h2
    refine ⟨a, b, xs, ys, rfl, rfl, SqT.of h2', SqT.of h3, sz_of hz, fun z => ?_, fun z1 z2 => ?_, fun z1 z2 p hp => q p _ ((e2.trans e3).trans (Ex.new hp)) upd_same⟩
    · rw [z, List.nil_append] at q
      exact q b H3 (e2.trans e3) h3
    · rw [z2, List.append_nil] at q
      exact q a H3 (e2.trans e3) h2'
/-- the key of a square -/
def keyS (rs cs : List Nat) : NestedKey := .tup [.tup ((Sg.zs rs).map .num), .tup ((Sg.zs cs).map .num)]
theorem zs_inj {a b : List Nat} (h : Sg.zs a = Sg.zs b) : a = b := by
  unfold Sg.zs at h
  exact List.map_inj_right (fun _ _ h => Int.ofNat_inj.mp h) |>.mp h
theorem num_inj {a b : List Int} (h : a.map NestedKey.num = b.map NestedKey.num) : a = b := List.map_inj_right (fun _ _ h => NestedKey.num.inj h) |>.mp h
theorem keyS_inj {r r' c c' : List Nat} (h : keyS r c = keyS r' c') : r = r' ∧ c = c' := by
  unfold keyS at h
  have h1 := NestedKey.tup.inj h
  obtain ⟨h2, h3⟩ := List.cons.inj h1
  obtain ⟨h4, _⟩ := List.cons.inj h3
  exact ⟨zs_inj (num_inj (NestedKey.tup.inj h2)), zs_inj (num_inj (NestedKey.tup.inj h4))⟩
theorem keyS_depth (r c : List Nat) : (keyS r c).depth ≤ 8 := by
  have z : ∀ l : List Int, NestedKey.depthAll (l.map .num) = 0 := fun l => by
    induction l with
    | nil => rfl
    | cons a l ih =>
      show max 0 (NestedKey.depthAll (l.map .num)) = 0
      rw [ih]
      rfl
  unfold keyS
  show max (NestedKey.depthAll ((Sg.zs r).map .num) + 1) (max (NestedKey.depthAll ((Sg.zs c).map .num) + 1) 0) + 1 ≤ 8
  rw [z, z]
  decide
theorem is_key {K : PySem.W.Frag} {H : Hp} {b r c : Addr} {rs cs : List Nat} (hb : H b = some (.tup [.ref r, .ref c])) (hr : H r = some (.tup ((Sg.zs rs).map V.int))) (hc : H c = some (.tup ((Sg.zs cs).map V.int))) : DN.Is K H (keyS rs cs) (.ref b) :=
  .tup (SqT.of hb) (.cons (.tup (SqT.of hr) (DN.all_ints _)) (.cons (.tup (SqT.of hc) (DN.all_ints _)) .nil))
theorem cutT_1 {xs : List V} : cutV xs none (some (-1)) = xs.take (xs.length - 1) := by
  unfold cutV
  have e : HT.sIx xs.length xs.length (some (-1)) = xs.length - 1 := by
    show (if (-1 : Int) < 0 then ((-1 : Int) + (xs.length : Int)).toNat else min (-1 : Int).toNat xs.length) = _
    rw [if_pos (by decide)]
    omega
  rw [HT.sIx_none, e, List.drop_zero, Nat.sub_zero]
theorem cut_to {xs : List V} {n : Nat} (h : n ≤ xs.length) : cutV xs none (some (n : Int)) = xs.take n := by
  unfold cutV
  rw [HT.sIx_none, HT.sIx_nat, Nat.min_eq_left h, List.drop_zero, Nat.sub_zero]
theorem cut_fr {xs : List V} {n : Nat} (h : n ≤ xs.length) : cutV xs (some (n : Int)) none = xs.drop n := by
  unfold cutV
  rw [HT.sIx_none, HT.sIx_nat, Nat.min_eq_left h]
  exact List.take_of_length_le (by rw [List.length_drop]; exact Nat.le_refl _)
theorem ev_dgetN {K : PySem.W.Frag} {P : Program} {w : World} {td tx ty : TE} {σ : L2.St} {H : Hp} {d : Addr} {L : DN.Tb} {rs cs : List Nat} {i : Int} (hd : Ev td σ H (.ref d)) (hx : EvW tx σ H ((Sg.zs rs).map V.int)) (hy : EvW ty σ H ((Sg.zs cs).map V.int)) (hL : H d = some (DN.O P w d L)) (hK : DN.Keys K H L) (hf : DN.find L (keyS rs cs) = some i) :
    Ev (DN.tGet K P w td (tTup (tCons tx (tCons ty tNil)))) σ H (.int i) := fun H1 e Q q =>
  hd H1 e _ fun H2 e2 => hx H2 (e.trans e2) _ fun a H3 e3 h3 => hy H3 ((e.trans e2).trans e3) _ fun b H4 e4 h4 => ⟨(by show 2 ≤ sizeLine; decide), fun t nt => by
    have xt := Ex.new (o := .tup [V.ref a, .ref b]) nt
    have e5 := (((e.trans e2).trans e3).trans e4).trans xt
    exact ⟨d, t, L, keyS rs cs, i, rfl, rfl, e5 _ _ hL, hK.ex e5, is_key upd_same (xt _ _ (e4 _ _ h3)) (xt _ _ h4), keyS_depth _ _, hf, q _ (((e2.trans e3).trans e4).trans xt)⟩⟩
def sgi (n j : Nat) : Int := if (n + 1 - j) % 2 = 1 then 1 else -1
theorem sgi_eq {n j : Nat} (h : j ≤ n) : ((sgi n j : Int) : Rat) = Dt.sg n * Dt.sg j := by
  unfold sgi Dt.sg
  have : (n + 1 - j) % 2 = 1 ↔ (n % 2 = 0 ↔ j % 2 = 0) := by omega
  by_cases a : n % 2 = 0 <;> by_cases b : j % 2 = 0 <;> simp only [a, b, if_true, if_false, this] <;> simp <;> first | rfl | grind

def sp_unfolded (K : PySem.W.Frag) (P : Program) (w : World) : Sp := fun vs H Q _ => ∃ (p r c d : Addr) (as : List Addr) (R : List (List Int)) (m wd : Nat) (ahead : List Nat) (l : Nat) (cols : List Nat) (L : DN.Tb), vs = [.ref p, .ref r, .ref c, .ref d] ∧ TabOk H p as R m wd ∧ (∀ r ∈ R, ∀ y ∈ r, Bd 100 y) ∧
  H r = some (.tup ((Sg.zs (ahead ++ [l])).map V.int)) ∧ H c = some (.tup ((Sg.zs cols).map V.int)) ∧ cols.length = ahead.length + 1 ∧ cols.length ≤ 8 ∧ l < m ∧ (∀ j ∈ cols, j < wd) ∧ H d = some (DN.O P w d L) ∧ DN.Keys K H L ∧
  (∀ j, j < cols.length → DN.find L (keyS ahead (Bs.out cols j)) = some (Bs.val R ahead (Bs.out cols j)) ∧ Bd (ahead.length * 112 + 1) (Bs.val R ahead (Bs.out cols j))) ∧
  (Bd (cols.length * 112 + 1) (Bs.val R (ahead ++ [l]) cols) → ∀ H', Ex H H' → Q (.int (Bs.val R (ahead ++ [l]) cols)) H')

theorem ok_unfolded (T : Txt K mg) : FnOk P w K mg base CX0 1 T.f_unfolded T.fd_unfolded ["table", "rows", "columns", "known"] (sp_unfolded K P w) := by
  refine Fun.ok T.F_unfolded sc_unfolded (fun vs H Q E h => ?_) (fun cdv A outer s H vs Q E hr h => ?_)
  · obtain ⟨_, _, _, _, _, _, _, _, _, _, _, _, rfl, _⟩ := h; rfl
  · refine ⟨_, (pss_cut (ps_set (i := 4) sc_unfolded.nd rfl (by first | exact Or.inl rfl | exact Or.inr rfl) (pe_slice (r := rSlA K) sl_tupA (pv 1) po_none (po_some (pe_un un_neg pe_int))))
      (pss_cut (ps_set (i := 5) sc_unfolded.nd rfl (by first | exact Or.inl rfl | exact Or.inr rfl) (pe_ix (r := rIxL K) ix_list (pv 0) (pe_ix (r := rIxT K) ix_tup (pv 1) (pe_un un_neg pe_int) (fun _ _ => rfl)) (fun _ _ => rfl)))
      (pss_cons (ps_set (i := 6) sc_unfolded.nd rfl (by first | exact Or.inl rfl | exact Or.inr rfl) pe_int)
      (pss_cut (ps_for PassesOwn.never rfl (EnT.pi_e (by rfl) T.n_enumerate (pa_cons (pv 2) pa_nil)) (pg_tup rfl (pgs_cons (pg_name (i := 7) sc_unfolded.nd rfl (by first | exact Or.inl rfl | exact Or.inr rfl)) (pgs_cons (pg_name (i := 8) sc_unfolded.nd rfl (by first | exact Or.inl rfl | exact Or.inr rfl)) pgs_nil)))
        (pss_cons (ps_set (i := 9) sc_unfolded.nd rfl (by first | exact Or.inl rfl | exact Or.inr rfl) (pe_ix (r := rIxL K) ix_list (pv 5) (pv 8) (fun _ _ => rfl)))
          (pss_one (ps_if (pt_cmpR op_ne (pv 9) pe_int (nomark _))
            (pss_cons (ps_set (i := 10) sc_unfolded.nd rfl (by first | exact Or.inl rfl | exact Or.inr rfl) (pe_op op_mulW (pv 9) (DN.pe_get hr (pv 3) (pe_tup (pa_cons (pv 4) (pa_cons (pe_op op_catA (pe_slice (r := rSlA K) sl_tupA (pv 2) po_none (po_some (pv 7))) (pe_slice (r := rSlA K) sl_tupA (pv 2) (po_some (pe_op op_add (pv 7) pe_int)) po_none)) pa_nil))) (fun _ _ => rfl))))
              (pss_one (ps_aug (i := 6) sc_unfolded.nd rfl (by first | exact Or.inl rfl | exact Or.inr rfl) (pe_ifExp (pt_cmpR op_eq (pe_op op_mod (pe_op op_sub (pe_callB (id := "len") (r := rLenS K) call_len_seq (by rfl) T.n_len PySem.boot_len (pa_cons (pv 2) pa_nil)) (pv 7)) pe_int) pe_int (nomark _)) (pv 10) (pe_un un_neg (pv 10))) ip_add)))
            pss_nil))))
      (pss_one (ps_ret (pv 6))))))), ?_⟩
    obtain ⟨p, r, c, d, as, R, m, wd, ahead, l, cols, L, rfl, hT, hb, hr, hc, hcl, hc8, hl, hj, hd, hK, hf, k⟩ := h
    have hdm := hT.b
    have zl : ∀ ns : List Nat, ((Sg.zs ns).map V.int).length = ns.length := fun ns => by unfold Sg.zs; rw [List.length_map, List.length_map]
    have zap : ∀ a b : List Nat, (Sg.zs (a ++ b)).map V.int = (Sg.zs a).map V.int ++ (Sg.zs b).map V.int := fun a b => by unfold Sg.zs; rw [List.map_append, List.map_append]
    have ztk : ∀ (a : List Nat) (n : Nat), (Sg.zs (a.take n)).map V.int = ((Sg.zs a).map V.int).take n := fun a n => by unfold Sg.zs; rw [List.map_take, List.map_take]
    have zdr : ∀ (a : List Nat) (n : Nat), (Sg.zs (a.drop n)).map V.int = ((Sg.zs a).map V.int).drop n := fun a n => by unfold Sg.zs; rw [List.map_drop, List.map_drop]
    -- ahead
    refine ⟨fun σ' H' => ∃ pa, σ' = [some (.ref p), some (.ref r), some (.ref c), some (.ref d), some (.ref pa), none, none, none, none, none, none] ∧ Ex H H' ∧ H' pa = some (.tup ((Sg.zs ahead).map V.int)), ?_, ?_⟩
    · have e := ew_sl (K := K) (te := tVar 1) (tl := tNoPart) (th := tPart (tUn (rU fun i => .int (-i)) (tC (.int 1)))) (σ := [some (.ref p), some (.ref r), some (.ref c), some (.ref d), none, none, none, none, none, none, none]) (ev_var rfl) eo_none (eo_some (ev_un (x := .int 1) ev_c ru_neg)) hr
      rw [cutT_1, zl, List.length_append, ← ztk] at e
      have e2 : (ahead ++ [l]).take (ahead.length + [l].length - 1) = ahead := by simp
      rw [e2] at e
      exact e H (Ex.refl _) _ fun pa H1 e1 h1 => ⟨pa, rfl, e1, h1⟩
    rintro σ' H1 ⟨pa, rfl, e1, hpa⟩
    -- last
    obtain ⟨al, rl, atl, hrl, hhl, hll⟩ : ∃ a r, atI (as.map V.ref) (l : Int) = some (.ref a) ∧ R[l]? = some r ∧ H a = some (.lst (r.map V.int)) ∧ r.length = wd := by
      obtain ⟨a, r, h1, h2, h3, h4⟩ := hT.row (i := (l : Int)) (by omega) (by omega)
      rw [Int.toNat_natCast] at h2
      exact ⟨a, r, h1, h2, h3, h4⟩
    refine ⟨fun σ' H' => σ' = [some (.ref p), some (.ref r), some (.ref c), some (.ref d), some (.ref pa), some (.ref al), none, none, none, none, none] ∧ Ex H1 H', ?_, ?_⟩
    · refine s_asg (ev_op (ev_var (i := 0) rfl) (ev_op (ev_var (i := 1) rfl) (ev_un (x := .int 1) ev_c ru_neg) (rv_ixT (v := .int (l : Int)) (SqT.of (e1 _ _ hr)) ?_)) (rv_ixL (SqL.of (hT.ex e1).tab.1) atl)) fun H2 e2 => ⟨rfl, e2⟩
      rw [zap]
      exact atI_last _ _
    rintro σ' H2 ⟨rfl, e2⟩
    have e12 := e1.trans e2
    refine q_asg (v := .int 0) ev_c fun H3 e3 => ?_
    have e13 := e12.trans e3
    have hcz := e13 _ _ hc
    refine ⟨fun σ' H' => ∃ y7 y8 y9 y10 : Option V, σ' = [some (.ref p), some (.ref r), some (.ref c), some (.ref d), some (.ref pa), some (.ref al), some (.int (Bs.val R (ahead ++ [l]) cols)), y7, y8, y9, y10] ∧ Ex H3 H' ∧ Bd (cols.length * 112 + 1) (Bs.val R (ahead ++ [l]) cols), ?_, ?_⟩
    rotate_left
    · rintro σ' H4 ⟨y7, y8, y9, y10, rfl, e4, hbd⟩
      exact s_ret (ev_var rfl) fun H5 e5 => k hbd H5 (e13.trans (e4.trans e5))
    have hn8 : ahead.length ≤ 7 := by omega
    refine ⟨_, rfl, c, _, rfl, SqT.of hcz, EnT.for_enumT (K := K) (a := c) (xs := (Sg.zs cols).map V.int) (fun i σ' H' => ∃ (t : Int) (y7 y8 y9 y10 : Option V), σ' = [some (.ref p), some (.ref r), some (.ref c), some (.ref d), some (.ref pa), some (.ref al), some (.int t), y7, y8, y9, y10] ∧ Ex H3 H' ∧ ((t : Int) : Rat) = Dt.sm i (fun j => (Dt.sg ahead.length * Dt.sg j) * ((Dt.at_ R l (cols[j]?.getD 0) : Int) : Rat) * ((Bs.val R ahead (Bs.out cols j) : Int) : Rat)) ∧ Bd (ahead.length * 112 + 102 + i) t)
      ⟨0, _, _, _, _, rfl, Ex.refl _, rfl, bd_zero⟩ (fun i σ' H' ⟨_, _, _, _, _, _, e, _⟩ => SqT.of (e _ _ hcz)) (fun i x T σ' H4 hx hP nT => ?_) (fun σ' H4 hP => ?_)⟩
    rotate_left
    · obtain ⟨t, y7, y8, y9, y10, rfl, e4, h1, h2⟩ := hP
      rw [zl] at h1 h2
      have ht : t = Bs.val R (ahead ++ [l]) cols := by
        refine Rat.intCast_inj.mp ?_
        rw [h1, Bs.val_last R hcl, hcl]
      subst ht
      exact ⟨_, _, _, _, rfl, e4, h2.mono (by omega)⟩
    obtain ⟨t, y7, y8, y9, y10, rfl, e4, h1, h2⟩ := hP
    have hi := (List.getElem?_eq_some_iff.mp hx).1
    rw [zl] at hi
    rw [List.getElem?_map] at hx
    obtain ⟨xi, hx1, rfl⟩ := Option.map_eq_some_iff.mp hx
    unfold Sg.zs at hx1
    rw [List.getElem?_map] at hx1
    obtain ⟨cj, hcj, rfl⟩ := Option.map_eq_some_iff.mp hx1
    have xT := Ex.new (o := .tup [V.int (i : Nat), .int (cj : Int)]) nT
    refine ⟨T, _, rfl, SqT.of upd_same, rfl, _, _, rfl, _, _, rfl, rfl, ?_⟩
    have e5 := e13.trans (e4.trans xT)
    have hcw : cj < wd := hj cj (List.mem_of_getElem? hcj)
    have ent : Dt.at_ R l cj = rl[cj]?.getD 0 := by
      show (R[l]?.getD [])[cj]?.getD 0 = _
      rw [hrl]
      rfl
    have cd : cols[i]?.getD 0 = cj := by rw [hcj]; rfl
    refine q_asg (v := .int (Dt.at_ R l cj)) (ev_op (ev_var (i := 5) rfl) (ev_var (i := 8) rfl) (rv_ixL (SqL.of (e5 _ _ hhl)) (by rw [ent]; exact atI_row (by omega)))) fun H6 e6 => ?_
    obtain ⟨hfi, hbi⟩ := hf i hi
    have e36 : Ex H3 H6 := e4.trans (xT.trans e6)
    have be : Bd 100 (Dt.at_ R l cj) := by
      rw [ent, List.getElem?_eq_getElem (show cj < rl.length by omega)]
      exact hb rl (List.mem_of_getElem? hrl) _ (List.getElem_mem _)
    refine s_when (b := !decide (Dt.at_ R l cj = 0)) (et_is (et_test (ev_op (ev_var (i := 9) rfl) ev_c (rv_ne rfl))) ?_) (fun z H7 e7 => ?_) (fun z H7 e7 => ?_)
    · congr 1
      exact decide_eq_decide.mpr ⟨fun z => V.int.inj z, fun z => by rw [z]⟩
    rotate_left
    · have z : Dt.at_ R l cj = 0 := by
        by_cases c1 : Dt.at_ R l cj = 0
        · exact c1
        · rw [decide_eq_false c1] at z
          cases z
      refine ⟨t, _, _, _, _, rfl, e36.trans e7, ?_, h2.mono (by omega)⟩
      show _ = Dt.sm i _ + Dt.sg ahead.length * Dt.sg i * ((Dt.at_ R l (cols[i]?.getD 0) : Int) : Rat) * ((Bs.val R ahead (Bs.out cols i) : Int) : Rat)
      rw [← h1, cd, z]
      show _ = _ + Dt.sg ahead.length * Dt.sg i * (0 : Rat) * _
      grind
    have e37 := e36.trans e7
    have e07 := e13.trans e37
    have o1 : (Sg.zs (Bs.out cols i)).map V.int = cutV ((Sg.zs cols).map V.int) none (some (i : Int)) ++ cutV ((Sg.zs cols).map V.int) (some ((i : Int) + 1)) none := by
      rw [cut_to (by rw [zl]; omega), show (i : Int) + 1 = ((i + 1 : Nat) : Int) by omega, cut_fr (by rw [zl]; omega), ← ztk, ← zdr, ← zap]
      rfl
    have kx : EvW (tOp (rCatA K) (tSl (rSlA K) (tVar 2) tNoPart (tPart (tVar 7))) (tSl (rSlA K) (tVar 2) (tPart (tOp (rI0 fun i j => .int (i + j)) (tVar 7) (tC (.int 1)))) tNoPart)) [some (.ref p), some (.ref r), some (.ref c), some (.ref d), some (.ref pa), some (.ref al), some (.int t), some (.int (i : Int)), some (.int (cj : Int)), some (.int (Dt.at_ R l cj)), y10] H7 ((Sg.zs (Bs.out cols i)).map V.int) := by
      rw [o1]
      refine ew_cat (ew_sl (ev_var rfl) eo_none (eo_some (ev_var rfl)) (e07 _ _ hc)) (ew_sl (ev_var rfl) (eo_some (ev_op (ev_var rfl) ev_c rv_I0)) eo_none (e07 _ _ hc)) ?_
      have a1 := cutV_length ((Sg.zs cols).map V.int) none (some (i : Int))
      have a2 := cutV_length ((Sg.zs cols).map V.int) (some ((i : Int) + 1)) none
      rw [zl] at a1 a2
      omega
    refine q_asg (v := .int (Dt.at_ R l cj * Bs.val R ahead (Bs.out cols i))) (ev_op (ev_var (i := 9) rfl) (ev_dgetN (ev_var (i := 3) rfl) (ew_var (i := 4) rfl ((e2.trans (e3.trans e37)) _ _ hpa)) kx (e07 _ _ hd) (hK.ex e07) hfi) (rv_I (be.mulOk hbi (by decide) (by omega) (by omega)))) fun H8 e8 => ?_
    have sgb : sgi ahead.length i = if (cols.length - i) % 2 = 1 then 1 else -1 := by
      unfold sgi
      rw [hcl]
    refine s_aug (a := t) (b := sgi ahead.length i * (Dt.at_ R l cj * Bs.val R ahead (Bs.out cols i))) rfl (ev_if (b := decide ((cols.length - i) % 2 = 1)) (et_is (et_test (ev_op (ev_op (ev_op (ev_is (ev_lenTu (ev_var (i := 2) rfl) (SqT.of ((e07.trans e8) _ _ hc))) (by rw [zl])) (ev_var (i := 7) rfl) rv_I0) ev_c (rv_I (by show (0 : Int) < 2; decide))) ev_c (rv_eq rfl))) ?_) (fun z => ?_) (fun z => ?_)) fun H9 e9 => ⟨_, _, _, _, _, rfl, e37.trans (e8.trans e9), ?_, ?_⟩
    · rw [decide_eq_decide]
      constructor
      · intro z
        have := V.int.inj z
        omega
      · intro z
        exact congrArg V.int (by omega)
    · rw [sgb, if_pos (of_decide_eq_true z), Int.one_mul]
      exact ev_var rfl
    · rw [sgb, if_neg (of_decide_eq_false z)]
      exact ev_is (ev_un (ev_var (i := 10) rfl) ru_neg) (by rw [Int.neg_mul, Int.one_mul])
    · show _ = Dt.sm i _ + Dt.sg ahead.length * Dt.sg i * ((Dt.at_ R l (cols[i]?.getD 0) : Int) : Rat) * ((Bs.val R ahead (Bs.out cols i) : Int) : Rat)
      rw [← h1, cd, Rat.intCast_add, Rat.intCast_mul, Rat.intCast_mul, sgi_eq (by omega)]
      grind
    · have b1 : Bd 1 (sgi ahead.length i) := by
        unfold sgi
        split <;> unfold Bd <;> decide
      exact (Bd.add (h2 : Bd (ahead.length * 112 + 102 + i) t) (((b1.mul (be.mul hbi))).mono (by omega))).mono (by omega)
-- DEF bad_square
theorem ev_min2 {ta tb : TE} {σ : L2.St} {H : Hp} {i j : Int} (ha : Ev ta σ H (.int i)) (hb : Ev tb σ H (.int j)) : Ev (tCB (fun xs H Q => ∃ i j, xs = [.int i, .int j] ∧ Q (.int (if j < i then j else i)) H) (tCons ta (tCons tb tNil))) σ H (.int (if j < i then j else i)) := fun H1 e Q q =>
  ha H1 e _ fun H2 e2 => hb H2 (e.trans e2) _ fun H3 e3 => ⟨i, j, rfl, q H3 (e2.trans e3)⟩

theorem e_pairUU {ta tb : TE} {σ : L2.St} {H : Hp} {xs ys : List V} (h1 : EvU ta σ H xs) (h2 : EvU tb σ H ys) (Q : VK) (k : ∀ p q t H1, H t = none → Ex H H1 → H1 p = some (.tup xs) → H1 q = some (.tup ys) → H1 t = some (.tup [.ref p, .ref q]) → Q (.ref t) H1) : tTup (tCons ta (tCons tb tNil)) σ H Q :=
  h1 H (Ex.refl H) _ fun p H1 np e1 hp => h2 H1 e1 _ fun q H2 nq e2 hq => ⟨(by show 2 ≤ sizeLine; decide), fun t nt => by
    have x2 := Ex.new (o := .tup [V.ref p, .ref q]) nt
    exact k p q t _ (fresh_back (e1.trans e2) nt) ((e1.trans e2).trans x2) (x2 _ _ (e2 _ _ hp)) (x2 _ _ hq) upd_same⟩
theorem s_ret3 {ta tb tc : TE} {D : Ends} {σ : L2.St} {H : Hp} {xs ys : List V} {v : V} (h1 : EvL ta σ H xs) (h2 : EvL tb σ H ys) (h3 : Ev tc σ H v) (k : ∀ p q t H1, H p = none → H q = none → p ≠ q → Ex H H1 → H1 p = some (.lst xs) → H1 q = some (.lst ys) → H1 t = some (.tup [.ref p, .ref q, v]) → D.rt (.ref t) H1) : tRet (tTup (tCons ta (tCons tb (tCons tc tNil)))) D σ H :=
  h1 H (Ex.refl H) _ fun p H1 np e1 hp => h2 H1 e1 _ fun q H2 nq e2 hq => h3 H2 (e1.trans e2) _ fun H3 e3 => ⟨(by show 3 ≤ sizeLine; decide), fun t nt => by
    have x2 := Ex.new (o := .tup [V.ref p, .ref q, v]) nt
    have pq : p ≠ q := fun z => by
      rw [← z, hp] at nq
      cases nq
    exact k p q t _ np (fresh_back e1 nq) pq (((e1.trans e2).trans e3).trans x2) (x2 _ _ (e3 _ _ (e2 _ _ hp))) (x2 _ _ (e3 _ _ hq)) upd_same⟩
theorem el_listT {K : PySem.W.Frag} {te : TE} {σ : L2.St} {H : Hp} {a : Addr} {xs : List V} (h : Ev te σ H (.ref a)) (hx : H a = some (.tup xs)) : EvL (tCB (rListS K) (tCons te tNil)) σ H xs := fun H1 e Q q =>
  h H1 e _ fun H2 e2 => ⟨a, xs, rfl, .inr (SqT.of ((e.trans e2) _ _ hx)), fun l nl => q l _ (fresh_back e2 nl) (e2.trans (Ex.new nl)) upd_same⟩
section
variable {K : PySem.W.Frag} {P : Program} {w : World} {H : Hp} {g : Addr} {L : DN.Tb} {o : HO}
mutual
theorem is_put (hg : H g = some (DN.O P w g L)) : ∀ {k : NestedKey} {v : V}, DN.Is K H k v → DN.Is K (upd H g o) k v
  | _, _, .num i => .num i
  | _, _, .tup a b => .tup (by
      rcases a with a | a
      · refine .inl ?_
        rcases a with a | ⟨ob, a⟩
        · exact .inl (by rw [upd_ne (fun z => by rw [z, hg] at a; cases a)]; exact a)
        · exact .inr ⟨ob, by rw [upd_ne (fun z => by rw [z, hg] at a; cases a)]; exact a⟩
      · exact .inr a) (all_put hg b)
theorem all_put (hg : H g = some (DN.O P w g L)) : ∀ {ks : List NestedKey} {vs : List V}, DN.All K H ks vs → DN.All K (upd H g o) ks vs
  | _, _, .nil => .nil
  | _, _, .cons a b => .cons (is_put hg a) (all_put hg b)
end
end
/-- the table holds the values of these squares -/
def Holds (R : List (List Int)) (L : DN.Tb) (xs : List (List Nat × List Nat)) : Prop := Paired (fun (e : NestedKey × Addr × Int) (x : List Nat × List Nat) => e.1 = keyS x.1 x.2 ∧ e.2.2 = Bs.val R x.1 x.2) L xs
theorem holds_in {R : List (List Int)} {x : List Nat × List Nat} : ∀ {L : DN.Tb} {xs : List (List Nat × List Nat)}, Holds R L xs → x ∈ xs → DN.find L (keyS x.1 x.2) = some (Bs.val R x.1 x.2)
  | _, _, .nil, h => nomatch h
  | e :: L, y :: xs, .cons ⟨h1, h2⟩ t, h => by
    unfold DN.find
    rw [List.find?_cons]
    by_cases c : e.1 = keyS x.1 x.2
    · rw [decide_eq_true c]
      obtain ⟨e1, e2⟩ := keyS_inj (h1.symm.trans c)
      show some e.2.2 = _
      rw [h2, e1, e2]
    · rw [decide_eq_false c]
      have hm : x ∈ xs := (List.mem_cons.mp h).resolve_left fun z => c (by rw [h1, z])
      exact holds_in t hm
theorem holds_out {R : List (List Int)} {x : List Nat × List Nat} : ∀ {L : DN.Tb} {xs : List (List Nat × List Nat)}, Holds R L xs → x ∉ xs → DN.find L (keyS x.1 x.2) = none
  | _, _, .nil, _ => rfl
  | e :: L, y :: xs, .cons ⟨h1, h2⟩ t, h => by
    unfold DN.find
    rw [List.find?_cons]
    have c : ¬ e.1 = keyS x.1 x.2 := fun c => by
      obtain ⟨e1, e2⟩ := keyS_inj (h1.symm.trans c)
      exact h (by rw [show x = y from Prod.ext e1.symm e2.symm]; exact List.mem_cons_self ..)
    rw [decide_eq_false c]
    exact holds_out t fun z => h (List.mem_cons_of_mem _ z)
def BadAt (R : List (List Int)) (H0 H : Hp) (v : V) : Option (List Nat × List Nat) → Prop
  | none => v = .non
  | some x => ∃ t a b, v = .ref t ∧ H t = some (.tup [.ref a, .ref b, .int (Bs.val R x.1 x.2)]) ∧ H a = some (.lst ((Sg.zs x.1).map V.int)) ∧ H b = some (.lst ((Sg.zs x.2).map V.int)) ∧ H0 a = none ∧ H0 b = none ∧ a ≠ b
theorem pickV_zs (n : Nat) (l : List Nat) (h : ∀ x ∈ l, x < n) : CbL.pickV ((List.range n).map fun (i : Nat) => V.int (i : Int)) l = (Sg.zs l).map V.int := by
  unfold CbL.pickV Sg.zs
  rw [List.map_map]
  refine List.map_congr_left fun x hx => ?_
  rw [List.getElem?_map, List.getElem?_range (h x hx)]
  rfl
theorem sqs_len (m w s : Nat) (h1 : m ≤ 8) (h2 : w ≤ 8) : ∀ i j, (Bs.upto m w s i j).length ≤ 66000 := fun i j => by
  have a1 : (Cb.all m s).length ≤ 256 := Nat.le_trans (Cb.all_count m s m 0 (by omega)) (Nat.le_trans (Nat.pow_le_pow_right (by decide) h1) (by decide))
  have a2 : (Cb.all w s).length ≤ 256 := Nat.le_trans (Cb.all_count w s w 0 (by omega)) (Nat.le_trans (Nat.pow_le_pow_right (by decide) h2) (by decide))
  unfold Bs.upto
  rw [List.length_append, List.length_map, List.length_take, List.length_flatMap]
  have e : (((Cb.all m s).take i).map fun rs => ((Cb.all w s).map fun cs => (rs, cs)).length) = List.replicate ((Cb.all m s).take i).length (Cb.all w s).length := by
    rw [List.eq_replicate_iff]
    refine ⟨by rw [List.length_map], fun b hb => ?_⟩
    obtain ⟨r, _, rfl⟩ := List.mem_map.mp hb
    rw [List.length_map]
  rw [e, List.sum_replicate_nat, List.length_take]
  have h3 : min i (Cb.all m s).length * (Cb.all w s).length ≤ 256 * 256 := Nat.mul_le_mul (by omega) a2
  omega

def sp_bad_square (K : PySem.W.Frag) : Sp := fun vs H Q _ => ∃ (p : Addr) (as : List Addr) (R : List (List Int)) (m wd : Nat), vs = [.ref p] ∧ TabOk H p as R m wd ∧ (∀ r ∈ R, ∀ y ∈ r, Bd 100 y) ∧ ∀ v H', Ex H H' → BadAt R H H' v (Bs.bad R m wd) → Q v H'

theorem ok_bad_square (T : Txt K mg) : FnOk P w K mg base CX0 6 T.f_bad_square T.fd_bad_square ["table"] (sp_bad_square K) := by
  refine Fun.ok T.F_bad_square sc_bad_square (fun vs H Q E h => ?_) (fun cdv A outer s H vs Q E hr h => ?_)
  · obtain ⟨_, _, _, _, _, rfl, _⟩ := h; rfl
  · refine ⟨_, (pss_cons (ps_asg (pe_call (ok_shape T) hr (by rfl) T.g_shape T.k_shape T.b_shape .nil pass0 (pa_cons (pv 0) pa_nil)) (pg_tup rfl (pgs_cons (pg_name (i := 1) sc_bad_square.nd rfl (by first | exact Or.inl rfl | exact Or.inr rfl)) (pgs_cons (pg_name (i := 2) sc_bad_square.nd rfl (by first | exact Or.inl rfl | exact Or.inr rfl)) pgs_nil))))
      (pss_cut (ps_set (i := 3) sc_bad_square.nd rfl (by first | exact Or.inl rfl | exact Or.inr rfl) (DN.pe_one hr (pe_tup (pa_cons (pe_tup pa_nil) (pa_cons (pe_tup pa_nil) pa_nil))) pe_int))
      (pss_cons (ps_for PassesOwn.never rfl (pi_range2 (by rfl) T.n_range (pa_cons pe_int (pa_cons (pe_op op_add (pe_callB (call_min2 rfl) (by rfl) T.n_min (by decide +kernel) (pa_cons (pv 1) (pa_cons (pv 2) pa_nil))) pe_int) pa_nil))) (pg_name (i := 4) sc_bad_square.nd rfl (by first | exact Or.inl rfl | exact Or.inr rfl))
        (pss_cons (ps_set (i := 5) sc_bad_square.nd rfl (by first | exact Or.inl rfl | exact Or.inr rfl) DN.pe_new)
          (pss_cons (ps_for PassesOwn.never rfl (CbL.pi_combR (by rfl) (by rfl) T.g_combinations (by rfl) T.n_range (pv 1) (pv 4)) (pg_name (i := 6) sc_bad_square.nd rfl (by first | exact Or.inl rfl | exact Or.inr rfl))
            (pss_one (ps_for PassesOwn.never rfl (CbL.pi_combR (by rfl) (by rfl) T.g_combinations (by rfl) T.n_range (pv 2) (pv 4)) (pg_name (i := 7) sc_bad_square.nd rfl (by first | exact Or.inl rfl | exact Or.inr rfl))
                (pss_cons (ps_set (i := 8) sc_bad_square.nd rfl (by first | exact Or.inl rfl | exact Or.inr rfl) (pe_call (ok_unfolded T) (hr.mono (by decide)) (by rfl) T.g_unfolded T.k_unfolded T.b_unfolded .nil pass0 (pa_cons (pv 0) (pa_cons (pv 6) (pa_cons (pv 7) (pa_cons (pv 3) pa_nil))))))
                  (pss_cons (ps_if (pt_val (pe_call (ok_is_bad T) (hr.mono (by decide)) (by rfl) T.g_is_bad T.k_is_bad T.b_is_bad .nil pass0 (pa_cons (pv 8) pa_nil)))
                    (pss_one (ps_ret (pe_tup (pa_cons (pe_callTy (T := "list") (r := rListS K) call_list_of (by rfl) T.n_list (by decide +kernel) (pa_cons (pv 6) pa_nil)) (pa_cons (pe_callTy (T := "list") (r := rListS K) call_list_of (by rfl) T.n_list (by decide +kernel) (pa_cons (pv 7) pa_nil)) (pa_cons (pv 8) pa_nil))))))
                    pss_nil)
                  (pss_one (DN.ps_put hr (pv 5) (pe_tup (pa_cons (pv 6) (pa_cons (pv 7) pa_nil))) (pv 8) rfl)))))))
          (pss_one (ps_set (i := 3) sc_bad_square.nd rfl (by first | exact Or.inl rfl | exact Or.inr rfl) (pv 5))))))
      (pss_one (ps_ret pe_non))))), ?_⟩
    obtain ⟨p, as, R, m, wd, rfl, hT, hb, k⟩ := h
    have hdm := hT.b
    have zl : ∀ ns : List Nat, ((Sg.zs ns).map V.int).length = ns.length := fun ns => by unfold Sg.zs; rw [List.length_map, List.length_map]
    refine ⟨_, rfl, p, as, R, m, wd, rfl, hT, fun ts H1 nts e1 hts => ?_⟩
    refine ⟨ts, _, rfl, SqT.of hts, rfl, _, _, rfl, _, _, rfl, rfl, ?_⟩
    refine ⟨fun σ' H' => ∃ (d : Addr) (L : DN.Tb), σ' = [some (.ref p), some (.int (m : Int)), some (.int (wd : Int)), some (.ref d), none, none, none, none, none] ∧ Ex H H' ∧ H' d = some (DN.O P w d L) ∧ H d = none ∧ DN.Keys K H' L ∧ Holds R L (Bs.sq m wd 0), ?_, ?_⟩
    · refine fun d nd => ?_
      have xd := Ex.new (o := DN.O P w d []) nd
      refine e_pairUU (σ := [some (.ref p), some (.int (m : Int)), some (.int (wd : Int)), none, none, none, none, none, none]) (eu_tup ea_nil (Nat.zero_le _)) (eu_tup ea_nil (Nat.zero_le _)) _ fun a b t H2 nt e2 ha hb2 ht => ?_
      have td : t ≠ d := fun z => by rw [z, upd_same] at nt; cases nt
      have hd2 := e2 _ _ (upd_same (H := H1) (a := d) (o := DN.O P w d []))
      have ik : DN.Is K H2 (keyS [] []) (.ref t) := is_key ht ha hb2
      refine ⟨t, keyS [] [], 1, rfl, rfl, hd2, ik, keyS_depth _ _, d, [(keyS [] [], t, 1)], rfl, Ex.mut ((e1.trans xd).trans e2) (fresh_back e1 nd), upd_same, fresh_back e1 nd, fun e he => ?_, .cons ⟨rfl, (Bs.val_nil R).symm⟩ .nil⟩
      rw [List.mem_singleton.mp he]
      exact ⟨is_put hd2 ik, keyS_depth _ _⟩
    rintro σ' H2 ⟨d, L, rfl, e2, hd2, nd, hK2, hH2⟩
    have ll : ∀ n : Nat, ((List.range n).map fun (i : Nat) => V.int (i : Int)).length = n := fun n => by rw [List.length_map, List.length_range]
    refine q_forR2 (lo := 1) (n := ((min m wd : Nat) : Int) + 1) (ea_cons ev_c (ea_cons (ev_op (ev_is (ev_min2 (ev_var (i := 1) rfl) (ev_var (i := 2) rfl)) ?_) ev_c rv_I0) ea_nil)) (by omega)
      (fun s σ' H' => ∃ (d : Addr) (L : DN.Tb) (y4 y5 y6 y7 y8 : Option V), σ' = [some (.ref p), some (.int (m : Int)), some (.int (wd : Int)), some (.ref d), y4, y5, y6, y7, y8] ∧ Ex H H' ∧ H' d = some (DN.O P w d L) ∧ H d = none ∧ DN.Keys K H' L ∧ Holds R L (Bs.sq m wd s) ∧ (∀ x ∈ Bs.sqs m wd s, Bs.isBad (Bs.val R x.1 x.2) = false) ∧ (∀ x ∈ Bs.sq m wd s, Bd (s * 112 + 1) (Bs.val R x.1 x.2))) (fun H3 e3 => ⟨d, L, _, _, _, _, _, rfl, e2.trans e3, e3 _ _ hd2, nd, hK2.ex e3, hH2, fun x hx => (nomatch hx), fun x hx => ?_⟩) (fun s σ' H3 hs hP => ?_) (fun σ' H3 hP => ?_)
    · exact congrArg V.int (by split <;> omega)
    · have hx : x ∈ [(([] : List Nat), ([] : List Nat))] := hx
      rw [List.mem_singleton.mp hx, Bs.val_nil]
      unfold Bd
      decide
    rotate_left
    · obtain ⟨d, L, y4, y5, y6, y7, y8, rfl, e3, _, _, _, _, hno, _⟩ := hP
      have en : (((min m wd : Nat) : Int) + 1 - 1).toNat = min m wd := by omega
      rw [en] at hno
      refine s_ret (v := .non) ev_c fun H4 e4 => k _ H4 (e3.trans e4) ?_
      have hn : Bs.bad R m wd = none := List.find?_eq_none.mpr fun x hx => by rw [hno x hx]; exact Bool.false_ne_true
      rw [hn]
      rfl
    obtain ⟨d, L, y4, y5, y6, y7, y8, rfl, e3, hd3, nd, hK3, hH3, hno, hbd⟩ := hP
    have hsm : s + 1 ≤ min m wd := by omega
    have hno0 := hno
    -- grown
    refine fun g ng => ?_
    have xg := Ex.new (o := DN.O P w g []) ng
    have gd : g ≠ d := fun z => by rw [z, hd3] at ng; cases ng
    have ng0 : H g = none := fresh_back e3 ng
    have esz : (1 : Int) + (s : Int) = ((s + 1 : Nat) : Int) := by push_cast; omega
    let Sst (L' : DN.Tb) (i j : Nat) (H' : Hp) : Prop := Ex H H' ∧ H' d = some (DN.O P w d L) ∧ H' g = some (DN.O P w g L') ∧ DN.Keys K H' L ∧ DN.Keys K H' L' ∧ Holds R L' (Bs.upto m wd (s + 1) i j) ∧ (∀ x ∈ Bs.upto m wd (s + 1) i j, Bs.isBad (Bs.val R x.1 x.2) = false) ∧ (∀ x ∈ Bs.upto m wd (s + 1) i j, Bd ((s + 1) * 112 + 1) (Bs.val R x.1 x.2))
    have hSex : ∀ {L' : DN.Tb} {i j : Nat} {G G' : Hp}, Sst L' i j G → Ex G G' → Sst L' i j G' := fun ⟨a1, a2, a3, a4, a5, a6, a7, a8⟩ e => ⟨a1.trans e, e _ _ a2, e _ _ a3, a4.ex e, a5.ex e, a6, a7, a8⟩
    refine ⟨_, rfl, m, rfl, by omega, _, rfl, s + 1, congrArg V.int esz, by omega, CbL.for_comb (xs := (List.range m).map fun (i : Nat) => V.int (i : Int)) (r := s + 1) (fun i σ' H' => ∃ (y6 y7 y8 : Option V) (L' : DN.Tb), σ' = [some (.ref p), some (.int (m : Int)), some (.int (wd : Int)), some (.ref d), some (.int (1 + (s : Int))), some (.ref g), y6, y7, y8] ∧ Sst L' i 0 H') ⟨_, _, _, [], rfl, e3.trans xg, xg _ _ hd3, upd_same, hK3.ex xg, fun e he => (nomatch he), by rw [Bs.upto_zero]; exact .nil, fun x hx => (by rw [Bs.upto_zero] at hx; exact nomatch hx), fun x hx => (by rw [Bs.upto_zero] at hx; exact nomatch hx)⟩ (fun i rs r σ' H4 hrs hP nr => ?_) (fun σ' H4 hP => ?_)⟩
    rotate_left
    · obtain ⟨y6, y7, y8, L', rfl, f1, f2, f3, f4, f5, f6, f7, f8⟩ := hP
      rw [ll, Bs.upto_all] at f6 f7 f8
      dsimp only
      refine s_asg (v := .ref g) (ev_var (i := 5) rfl) fun H5 e5 => ⟨g, L', _, _, _, _, _, rfl, f1.trans e5, e5 _ _ f3, ng0, f5.ex e5, f6, fun x hx => ?_, f8⟩
      rw [Bs.sqs_succ] at hx
      rcases List.mem_append.mp hx with h | h
      · exact hno x h
      · exact f7 x h
    obtain ⟨y6, y7, y8, L', rfl, hS4⟩ := hP
    rw [ll] at hrs
    obtain ⟨hr1, hr2, hr3⟩ := Cb.mem_all.mp (List.mem_of_getElem? hrs)
    obtain ⟨ahead, l, rfl, hah, hl⟩ := Bs.init_mem (List.mem_of_getElem? hrs)
    rw [pickV_zs m _ hr3]
    have xr := Ex.new (o := .tup ((Sg.zs (ahead ++ [l])).map V.int)) nr
    refine ⟨_, rfl, wd, rfl, by omega, _, rfl, s + 1, congrArg V.int esz, by omega, CbL.for_comb (xs := (List.range wd).map fun (i : Nat) => V.int (i : Int)) (r := s + 1) (fun j σ' H' => ∃ (y7 y8 : Option V) (L' : DN.Tb), σ' = [some (.ref p), some (.int (m : Int)), some (.int (wd : Int)), some (.ref d), some (.int (1 + (s : Int))), some (.ref g), some (.ref r), y7, y8] ∧ Sst L' i j H' ∧ H' r = some (.tup ((Sg.zs (ahead ++ [l])).map V.int))) ⟨_, _, L', rfl, hSex hS4 xr, upd_same⟩ (fun j cs c σ' H5 hcs hP nc => ?_) (fun σ' H5 hP => ?_)⟩
    rotate_left
    · obtain ⟨y7, y8, L2, rfl, hS5, _⟩ := hP
      rw [ll] at hS5
      obtain ⟨f1, f2, f3, f4, f5, f6, f7, f8⟩ := hS5
      rw [Bs.upto_full (List.getElem?_eq_some_iff.mp hrs).1] at f6 f7 f8
      exact ⟨_, _, _, L2, rfl, f1, f2, f3, f4, f5, f6, f7, f8⟩
    obtain ⟨y7, y8, L2, rfl, hS5, hr5⟩ := hP
    rw [ll] at hcs
    obtain ⟨hc1, hc2, hc3⟩ := Cb.mem_all.mp (List.mem_of_getElem? hcs)
    rw [pickV_zs wd _ hc3]
    have xc := Ex.new (o := .tup ((Sg.zs cs).map V.int)) nc
    have hS6 := hSex hS5 xc
    have hr6 := xc _ _ hr5
    have hc6 : upd H5 c (.tup ((Sg.zs cs).map V.int)) c = some (.tup ((Sg.zs cs).map V.int)) := upd_same
    generalize upd H5 c (.tup ((Sg.zs cs).map V.int)) = H6 at hS6 hr6 hc6
    obtain ⟨f1, f2, f3, f4, f5, f6, f7, f8⟩ := hS6
    have ahl : ahead.length = s := (Cb.mem_all.mp hah).1
    refine ⟨_, rfl, _, rfl, _, rfl, _, rfl, p, r, c, d, as, R, m, wd, ahead, l, cs, L, rfl, hT.ex f1, hb, hr6, hc6, by omega, by omega, hl, hc3, f2, f4, fun jj hjj => ?_, fun hbv H7 e7 => ?_⟩
    · have hm : (ahead, Bs.out cs jj) ∈ Bs.sq m wd s := Bs.mem_sq.mpr ⟨hah, Bs.out_mem (List.mem_of_getElem? hcs) (by omega)⟩
      exact ⟨holds_in hH3 hm, by rw [ahl]; exact hbd _ hm⟩
    dsimp only
    have sp := Bs.sq_split hrs hcs
    refine q_when (b := Bs.isBad (Bs.val R (ahead ++ [l]) cs)) (et_B (ev_fn (sp := sp_is_bad K) (ea_cons (ev_var (i := 8) rfl) ea_nil) fun H8 e8 Q8 q8 => ⟨_, rfl, q8⟩)) (fun z H8 e8 => ?_) (fun z H8 e8 => ?_)
    · have e68 := e7.trans e8
      refine s_ret3 (el_listT (ev_var (i := 6) rfl) (e68 _ _ hr6)) (el_listT (ev_var (i := 7) rfl) (e68 _ _ hc6)) (ev_var (i := 8) rfl) fun a b t H9 na nb ab e9 ha hb' ht => k _ H9 (f1.trans (e68.trans e9)) ?_
      have hbad : Bs.bad R m wd = some (ahead ++ [l], cs) := by
        obtain ⟨B1, hB1⟩ := Bs.sqs_split (m := m) (w := wd) (n := min m wd) (s := s) (by omega)
        obtain ⟨B2, hB2⟩ := sp
        unfold Bs.bad
        rw [hB1, hB2]
        have e : Bs.sqs m wd s ++ (Bs.upto m wd (s + 1) i j ++ (ahead ++ [l], cs) :: B2 ++ B1) = (Bs.sqs m wd s ++ Bs.upto m wd (s + 1) i j) ++ (ahead ++ [l], cs) :: (B2 ++ B1) := by simp [List.append_assoc]
        rw [e]
        refine Bs.find_split (fun y hy => ?_) z
        rcases List.mem_append.mp hy with h | h
        · exact hno0 y h
        · exact f7 y h
      rw [hbad]
      exact ⟨t, a, b, rfl, ht, ha, hb', fresh_back (f1.trans e68) na, fresh_back (f1.trans e68) nb, ab⟩
    have e68 := e7.trans e8
    refine ⟨_, rfl, _, rfl, _, rfl, _, rfl, (by show 2 ≤ sizeLine; decide), fun b nb => ?_⟩
    have xb := Ex.new (o := .tup [V.ref r, .ref c]) nb
    have e6b := e68.trans xb
    have hg := e6b _ _ f3
    have ik : DN.Is K (upd H8 b (.tup [V.ref r, .ref c])) (keyS (ahead ++ [l]) cs) (.ref b) := is_key upd_same (e6b _ _ hr6) (e6b _ _ hc6)
    have nw := Bs.upto_new hrs hcs
    have lL : L2.length ≤ 66000 := by
      rw [Paired.length f6]
      exact sqs_len m wd (s + 1) (by omega) (by omega) i j
    refine ⟨g, b, L2, keyS (ahead ++ [l]) cs, Bs.val R (ahead ++ [l]) cs, rfl, rfl, rfl, hg, f5.ex e6b, ik, keyS_depth _ _, holds_out (x := (ahead ++ [l], cs)) f6 nw, by omega, ?_⟩
    refine ⟨_, _, L2 ++ [(keyS (ahead ++ [l]) cs, b, Bs.val R (ahead ++ [l]) cs)], rfl, ⟨Ex.mut (f1.trans e6b) ng0, ?_, upd_same, fun e he => ⟨is_put hg ((f4.ex e6b) e he).1, (f4 e he).2⟩, fun e he => ?_, ?_, ?_, ?_⟩, ?_⟩
    · rw [upd_ne gd.symm]
      exact e6b _ _ f2
    · rcases List.mem_append.mp he with h | h
      · exact ⟨is_put hg ((f5.ex e6b) e h).1, (f5 e h).2⟩
      · rw [List.mem_singleton.mp h]
        exact ⟨is_put hg ik, keyS_depth _ _⟩
    · rw [Bs.upto_succ hrs hcs]
      exact paired_snoc f6 ⟨rfl, rfl⟩
    · intro x hx
      rw [Bs.upto_succ hrs hcs] at hx
      rcases List.mem_append.mp hx with h | h
      · exact f7 x h
      · rw [List.mem_singleton.mp h]
        exact z
    · intro x hx
      rw [Bs.upto_succ hrs hcs] at hx
      rcases List.mem_append.mp hx with h | h
      · exact f8 x h
      · rw [List.mem_singleton.mp h]
        have e9 : cs.length = s + 1 := hc1
        rw [e9] at hbv
        exact hbv
    · rw [upd_ne (fun z => by rw [z, f3] at hr6; cases hr6)]
      exact e6b _ _ hr6
-- DEF _law_expanded
structure TN (s : Addr) (H : Hp) (p : Addr) (as : List Addr) (rows : List (List Int)) : Prop where
  tab : Tab H p as rows
  ps : p ≠ s
  ass : ∀ a ∈ as, a ≠ s
theorem TN.ex {s : Addr} {H H' : Hp} {p : Addr} {as : List Addr} {rows : List (List Int)} (h : TN s H p as rows) (e : Ex H H') : TN s H' p as rows := ⟨h.tab.ex e, h.ps, h.ass⟩
theorem TN.exB {s : Addr} {H H' : Hp} {p : Addr} {as : List Addr} {rows : List (List Int)} (h : TN s H p as rows) (e : ExB s H H') : TN s H' p as rows := ⟨⟨e _ _ h.ps h.tab.1, rows_but h.tab.2 fun a ha o g => e a o (h.ass a ha) g⟩, h.ps, h.ass⟩
theorem TN.of {s : Addr} {n : Int} {H0 H : Hp} {p : Addr} {as : List Addr} {rows : List (List Int)} (hs : SrcAt H0 s n) (hp : H0 p = none) (ha : ∀ a ∈ as, H0 a = none) (h : Tab H p as rows) : TN s H p as rows := ⟨h, hs.ne hp, fun a q => hs.ne (ha a q)⟩
theorem dp_rows {K : PySem.W.Frag} {H : Hp} : ∀ {as : List Addr} {rows : List (List Int)}, RowsAt H as rows → DpAll K H (as.map V.ref) (rows.map fun r => PyData.list (r.map PyData.int))
  | _, _, .nil => .nil
  | _, _, .cons h t => .cons (.lst (SqL.of h) (dpAll_ints _)) (dp_rows t)
theorem canLay_rows : ∀ rows : List (List Int), PyData.canLayAll0 (rows.map fun r => PyData.list (r.map PyData.int)) = true
  | [] => rfl
  | r :: rs => by
    show (PyData.canLayAll0 (r.map PyData.int) && PyData.canLayAll0 (rs.map fun r => PyData.list (r.map PyData.int))) = true
    rw [canLay_ints, canLay_rows rs]
    rfl
theorem depth_rows : ∀ rows : List (List Int), PyData.depthAll (rows.map fun r => PyData.list (r.map PyData.int)) ≤ 1
  | [] => Nat.zero_le _
  | r :: rs => by
    show max (PyData.depthAll (r.map PyData.int) + 1) (PyData.depthAll (rs.map fun r => PyData.list (r.map PyData.int))) ≤ 1
    have := depth_rows rs
    rw [depth_ints]
    omega
theorem rv_neT {K : PySem.W.Frag} {H : Hp} {p q : Addr} {as bs : List Addr} {rows : List (List Int)} (hp : Tab H p as rows) (hq : Tab H q bs rows) : RV (rNeD K) (.ref p) (.ref q) H (.bl false) := fun H1 e Q k => by
  have sh : SeqAt.shaped (.list (rows.map fun r => PyData.list (r.map PyData.int))) = true := shaped_list (canLay_rows rows) (Nat.le_trans (depth_rows rows) (by decide))
  refine ⟨_, _, .lst (SqL.of (e _ _ hp.1)) (dp_rows (hp.2.ex e)), .lst (SqL.of (e _ _ hq.1)) (dp_rows (hq.2.ex e)), sh, sh, ?_⟩
  rw [SeqAt.eqv_refl _ (SeqAt.canLay_of_shaped sh)]
  exact k H1 (Ex.refl _)
theorem lc_rowsT {K : PySem.W.Frag} {nn : Nat} {te : TE} {vs : List Nat} {j : Nat} {σ : L2.St} {H : Hp} {Q : VK} {a : Addr} {as0 : List Addr} {rows : List (List Int)} (F : List Int → List Int) (hσ : σ[nn]? = some (some (.ref a))) (ht : Tab H a as0 rows) (hm : rows.length ≤ 1000) (hw : ∀ u, wipe ((wipe σ vs).set j (some u)) vs = wipe σ vs)
    (he : ∀ c r H1, r ∈ rows → H c = some (.lst (r.map V.int)) → Ex H H1 → EvL te ((wipe σ vs).set j (some (.ref c))) H1 ((F r).map V.int))
    (k : ∀ p as H2, H p = none → (∀ a ∈ as, H a = none) → as.Nodup → p ∉ as → Ex H H2 → Tab H2 p as (rows.map F) → Q (.ref p) H2) : tLc (iList K (tVar nn)) (gName j) tYes te vs σ H Q := by
  refine ⟨_, hσ, a, rfl, ⟨_, SqL.of ht.1⟩, fun D hD => ?_⟩
  refine lc_list (K := K) (a := a) (xs := as0.map V.ref) (fun i H' => ∃ as, Ex H H' ∧ H' D = some (.lst (as.map V.ref)) ∧ RowsAt H' as ((rows.take i).map F) ∧ (∀ a ∈ as, H a = none) ∧ as.Nodup ∧ D ∉ as) ⟨[], Ex.new hD, upd_same, .nil, fun a ha => by simp at ha, List.nodup_nil, by simp⟩ (fun i H' _ ⟨_, p1, _⟩ => SqL.of (p1 _ _ ht.1)) (fun i x H' gx p => ?_) (fun H' p => ?_)
  · obtain ⟨as, p1, p2, p3, p4, p5, p6⟩ := p
    rw [List.getElem?_map] at gx
    obtain ⟨c0, hc0, rfl⟩ := Option.map_eq_some_iff.mp gx
    obtain ⟨y, hy, hh⟩ := paired_get ht.2 hc0
    have hi := (List.getElem?_eq_some_iff.mp hy).1
    have el : as.length = i := by rw [Paired.length p3, List.length_map, List.length_take]; omega
    refine ⟨hw _, ?_⟩
    show te _ H' _
    refine he c0 y H' (List.mem_of_getElem? hy) hh p1 H' (Ex.refl _) _ fun r H4 nr e4 hr => ?_
    have nrD : r ≠ D := fun z => by
      rw [z, p2] at nr
      cases nr
    refine ⟨_, e4 _ _ p2, ?_, as ++ [r], Ex.mut (p1.trans e4) hD, ?_, ?_, ?_, ?_, ?_⟩
    · rw [List.length_map, el]
      exact small1000 (by omega)
    · rw [upd_same, List.map_append]
      rfl
    · rw [take_snoc hy, List.map_append]
      refine paired_snoc (rows_but p3 fun b hb o g => ?_) ?_
      · rw [upd_ne (fun z => p6 (by rw [← z]; exact hb))]
        exact e4 _ _ g
      · rw [upd_ne nrD]
        exact hr
    · intro b hb
      rcases List.mem_append.mp hb with h | h
      · exact p4 b h
      · rw [show b = r by simpa using h]
        exact fresh_back p1 nr
    · refine List.nodup_append.mpr ⟨p5, by simp, fun b hb c hc z => ?_⟩
      have : c = r := by simpa using hc
      have hb' : r ∈ as := by rw [← this, ← z]; exact hb
      obtain ⟨x, _, hx'⟩ := paired_mem p3 hb'
      rw [nr] at hx'
      cases hx'
    · intro hb
      rcases List.mem_append.mp hb with h | h
      · exact p6 h
      · exact nrD (by simpa using h : D = r).symm
  · obtain ⟨as, p1, p2, p3, p4, p5, p6⟩ := p
    rw [List.length_map, Paired.length ht.2, List.take_length] at p3
    exact k D as H' hD p4 p5 p6 p1 ⟨p2, p3⟩
theorem cutV_ints (ns : List Int) (lo hi : Option Int) : ∃ zs : List Int, cutV (ns.map V.int) lo hi = zs.map V.int := by
  refine ⟨(ns.drop (HT.sIx (ns.map V.int).length 0 lo)).take (HT.sIx (ns.map V.int).length (ns.map V.int).length hi - HT.sIx (ns.map V.int).length 0 lo), ?_⟩
  unfold cutV
  rw [List.map_take, List.map_drop]
theorem bd30 {y : Int} (h : y.natAbs ≤ 10 ^ 30) : Bd 1000 y := by
  unfold Bd
  exact Nat.lt_of_le_of_lt h (by decide +kernel)

theorem el_rng2F {ta : TA} {tt : TT} {te : TE} {vs : List Nat} {j lo hi : Nat} {σ : L2.St} {H : Hp} (f : Nat → Bool) (v : Nat → V) (h : EvA ta σ H [.int (lo : Int), .int (hi : Int)]) (hlo : lo ≤ 1000) (hhi : hi ≤ 1000) (hw : ∀ x, wipe ((wipe σ vs).set j (some x)) vs = wipe σ vs)
    (ht : ∀ (i : Nat) H1, Ex H H1 → i < hi - lo → EvT tt ((wipe σ vs).set j (some (.int ((lo : Int) + (i : Int))))) H1 (f i))
    (he : ∀ (i : Nat) H1, Ex H H1 → i < hi - lo → f i = true → Ev te ((wipe σ vs).set j (some (.int ((lo : Int) + (i : Int))))) H1 (v i)) : EvL (tLc (iRng2 ta) (gName j) tt te vs) σ H (((List.range (hi - lo)).filter f).map v) := fun H0 e0 Q q => by
  refine h H0 e0 _ fun H1 e1 => ⟨(lo : Int), (hi : Int), rfl, by omega, fun D hD => ?_⟩
  have en : ((hi : Int) - (lo : Int)).toNat = hi - lo := by omega
  rw [en]
  refine lc_range (lo := (lo : Int)) (n := hi - lo) (fun i H' => Ex H1 H' ∧ H' D = some (.lst (((List.range i).filter f).map v))) ⟨Ex.new hD, upd_same⟩ (fun i H' hi' p => ?_) (fun H' p => q D H' (fresh_back e1 hD) (e1.trans p.1) p.2)
  obtain ⟨p1, p2⟩ := p
  refine ⟨hw _, ?_⟩
  have e01 := e0.trans e1
  have lf : ((List.range i).filter f).length ≤ i := by
    have := List.length_filter_le f (List.range i)
    rw [List.length_range] at this
    exact this
  refine ht i H' (e01.trans p1) hi' H' (Ex.refl _) _ fun H3 e3 => ?_
  cases hf : f i with
  | true =>
    refine iteT (he i H3 ((e01.trans p1).trans e3) hi' hf H3 (Ex.refl _) _ fun H4 e4 => ?_)
    refine ⟨_, (e3.trans e4) _ _ p2, small1000 (by rw [List.length_map]; omega), Ex.mut ((p1.trans e3).trans e4) hD, ?_⟩
    rw [upd_same, List.range_succ, List.filter_append, List.map_append]
    simp [hf]
  | false =>
    refine iteF ⟨p1.trans e3, ?_⟩
    rw [e3 _ _ p2, List.range_succ, List.filter_append]
    simp [hf]
theorem paired_range {α β : Type} {R : α → β → Prop} {f : Nat → α} {g : Nat → β} : ∀ {n : Nat}, (∀ j, j < n → R (f j) (g j)) → Paired R ((List.range n).map f) ((List.range n).map g)
  | 0, _ => .nil
  | n + 1, h => by
    rw [List.range_succ, List.map_append, List.map_append]
    exact paired_snoc (paired_range fun j hj => h j (by omega)) (h n (by omega))
theorem row_at {H : Hp} {p : Addr} {as : List Addr} {rows : List (List Int)} {m w : Nat} (h : TabOk H p as rows m w) {x : Nat} (hx : x < m) : atI (as.map V.ref) (x : Int) = some (.ref (as[x]?.getD 0)) ∧ H (as[x]?.getD 0) = some (.lst ((rows[x]?.getD []).map V.int)) := by
  obtain ⟨a, r, ha, hr, hh, _⟩ := h.row (i := (x : Int)) (by omega) (by omega)
  rw [Int.toNat_natCast] at hr
  have ha2 : as[x]? = some (as[x]?.getD 0) := by
    have := h.al
    rw [List.getElem?_eq_getElem (by omega)]
    rfl
  have ea : a = as[x]?.getD 0 := by
    have h1 : atI (as.map V.ref) (x : Int) = some (.ref (as[x]?.getD 0)) := atI_nat (j := x) (by rw [List.getElem?_map, ha2]; rfl)
    rw [ha] at h1
    cases h1
    rfl
  rw [hr, ← ea]
  exact ⟨ha, hh⟩
theorem cut_head {l : List Addr} {n : Nat} (h : n ≤ l.length) (h8 : l.length ≤ 8) : cutV (l.map V.ref) none (some (n : Int)) = (l.take n).map V.ref := by
  unfold cutV
  have e0 : HT.sIx (l.map V.ref).length 0 none = 0 := rfl
  have e1 : HT.sIx (l.map V.ref).length (l.map V.ref).length (some (n : Int)) = n := by
    rw [List.length_map]
    generalize l.length = m at h h8
    have hm : m = 0 ∨ m = 1 ∨ m = 2 ∨ m = 3 ∨ m = 4 ∨ m = 5 ∨ m = 6 ∨ m = 7 ∨ m = 8 := by omega
    have hn : n = 0 ∨ n = 1 ∨ n = 2 ∨ n = 3 ∨ n = 4 ∨ n = 5 ∨ n = 6 ∨ n = 7 ∨ n = 8 := by omega
    rcases hm with rfl | rfl | rfl | rfl | rfl | rfl | rfl | rfl | rfl <;> rcases hn with rfl | rfl | rfl | rfl | rfl | rfl | rfl | rfl | rfl <;> first | rfl | omega
  rw [e0, e1, List.drop_zero, Nat.sub_zero, List.map_take]
theorem paired_app {α β : Type} {R : α → β → Prop} : ∀ {xs : List α} {ys : List β} {xs2 : List α} {ys2 : List β}, Paired R xs ys → Paired R xs2 ys2 → Paired R (xs ++ xs2) (ys ++ ys2)
  | _, _, _, _, .nil, h => h
  | _, _, _, _, .cons a t, h => .cons a (paired_app t h)
theorem paired_take {α β : Type} {R : α → β → Prop} : ∀ {xs : List α} {ys : List β} (n : Nat), Paired R xs ys → Paired R (xs.take n) (ys.take n)
  | _, _, 0, _ => by rw [List.take_zero, List.take_zero]; exact .nil
  | _, _, n + 1, .nil => by rw [List.take_nil, List.take_nil]; exact .nil
  | _, _, n + 1, .cons a t => .cons a (paired_take n t)
theorem ec_cat {ta tb : TE} {σ : L2.St} {H : Hp} {xs ys : List V} (ha : EvL ta σ H xs) (hb : EvL tb σ H ys) (hz : xs.length + ys.length ≤ 100000) : EvL (tOp rCat ta tb) σ H (xs ++ ys) := fun H1 e Q q =>
  ha H1 e _ fun p H2 np e2 hp => hb H2 (e.trans e2) _ fun r H3 nr e3 hr => ⟨p, r, xs, ys, rfl, rfl, e3 _ _ hp, hr, sz_of hz, fun l nl => q l _ (fresh_back (e2.trans e3) nl) ((e2.trans e3).trans (Ex.new nl)) upd_same⟩
theorem ev_yes {σ : L2.St} {H : Hp} : EvT tYes σ H true := fun H1 e Q q => q H1 (Ex.refl _)
theorem at_row_ {rows : List (List Int)} {i : Nat} {r : List Int} (h : rows[i]? = some r) (b : Nat) : Dt.at_ rows i b = r[b]?.getD 0 := by
  unfold Dt.at_
  rw [h]
  rfl
theorem dec_nat {x y : Nat} : decide (V.int (x : Int) = V.int (y : Int)) = decide (x = y) := by
  by_cases c : x = y
  · subst c
    rw [decide_eq_true rfl, decide_eq_true rfl]
  · rw [decide_eq_false c, decide_eq_false (fun z => c (by have := V.int.inj z; omega))]
theorem get_i {ns : List Int} {i : Nat} {y : Int} (h : ns[i]? = some y) : ns[i]?.getD 0 = y := by rw [h]; rfl
theorem mem_i {ns : List Int} {j : Nat} (h : j < ns.length) : ns[j]?.getD 0 ∈ ns := by
  rw [List.getElem?_eq_getElem h]
  exact List.getElem_mem _

theorem six_at {n j : Nat} (hj : j < n) (h8 : n ≤ 8) : HT.sIx n n (some (j : Int)) = j := by
  have hn : n = 1 ∨ n = 2 ∨ n = 3 ∨ n = 4 ∨ n = 5 ∨ n = 6 ∨ n = 7 ∨ n = 8 := by omega
  have hm : j = 0 ∨ j = 1 ∨ j = 2 ∨ j = 3 ∨ j = 4 ∨ j = 5 ∨ j = 6 ∨ j = 7 := by omega
  rcases hn with rfl | rfl | rfl | rfl | rfl | rfl | rfl | rfl <;> rcases hm with rfl | rfl | rfl | rfl | rfl | rfl | rfl | rfl <;> first | rfl | omega
theorem six_at1 {n j : Nat} (hj : j < n) (h8 : n ≤ 8) : HT.sIx n 0 (some ((j : Int) + 1)) = j + 1 := by
  have hn : n = 1 ∨ n = 2 ∨ n = 3 ∨ n = 4 ∨ n = 5 ∨ n = 6 ∨ n = 7 ∨ n = 8 := by omega
  have hm : j = 0 ∨ j = 1 ∨ j = 2 ∨ j = 3 ∨ j = 4 ∨ j = 5 ∨ j = 6 ∨ j = 7 := by omega
  rcases hn with rfl | rfl | rfl | rfl | rfl | rfl | rfl | rfl <;> rcases hm with rfl | rfl | rfl | rfl | rfl | rfl | rfl | rfl <;> first | rfl | omega
theorem lc_rowsE {K : PySem.W.Frag} {tl te : TE} {vs : List Nat} {j : Nat} {σ : L2.St} {Hz : Hp} {Q : VK} {as0 : List Addr} {rows : List (List Int)} (F : List Int → List Int) (hl : EvL tl σ Hz (as0.map V.ref)) (ht0 : RowsAt Hz as0 rows) (hm : rows.length ≤ 1000) (hw : ∀ u, wipe ((wipe σ vs).set j (some u)) vs = wipe σ vs)
    (he : ∀ c r H1, r ∈ rows → H1 c = some (.lst (r.map V.int)) → Ex Hz H1 → EvL te ((wipe σ vs).set j (some (.ref c))) H1 ((F r).map V.int))
    (k : ∀ p as H2, Hz p = none → (∀ a ∈ as, Hz a = none) → as.Nodup → p ∉ as → Ex Hz H2 → Tab H2 p as (rows.map F) → Q (.ref p) H2) : tLc (iList K tl) (gName j) tYes te vs σ Hz Q := by
  refine hl Hz (Ex.refl Hz) _ fun a H na e0 ha => ⟨a, rfl, ⟨_, SqL.of ha⟩, fun D hD => ?_⟩
  have ht : Tab H a as0 rows := ⟨ha, ht0.ex e0⟩
  replace he : ∀ c r H1, r ∈ rows → H c = some (.lst (r.map V.int)) → Ex H H1 → EvL te ((wipe σ vs).set j (some (.ref c))) H1 ((F r).map V.int) := fun c r H1 hr hc e1 => he c r H1 hr (e1 _ _ hc) (e0.trans e1)
  replace k : ∀ p as H2, H p = none → (∀ a ∈ as, H a = none) → as.Nodup → p ∉ as → Ex H H2 → Tab H2 p as (rows.map F) → Q (.ref p) H2 := fun p as H2 np nas nd npas e t => k p as H2 (fresh_back e0 np) (fun a ha => fresh_back e0 (nas a ha)) nd npas (e0.trans e) t
  refine lc_list (K := K) (a := a) (xs := as0.map V.ref) (fun i H' => ∃ as, Ex H H' ∧ H' D = some (.lst (as.map V.ref)) ∧ RowsAt H' as ((rows.take i).map F) ∧ (∀ a ∈ as, H a = none) ∧ as.Nodup ∧ D ∉ as) ⟨[], Ex.new hD, upd_same, .nil, fun a ha => by simp at ha, List.nodup_nil, by simp⟩ (fun i H' _ ⟨_, p1, _⟩ => SqL.of (p1 _ _ ht.1)) (fun i x H' gx p => ?_) (fun H' p => ?_)
  · obtain ⟨as, p1, p2, p3, p4, p5, p6⟩ := p
    rw [List.getElem?_map] at gx
    obtain ⟨c0, hc0, rfl⟩ := Option.map_eq_some_iff.mp gx
    obtain ⟨y, hy, hh⟩ := paired_get ht.2 hc0
    have hi := (List.getElem?_eq_some_iff.mp hy).1
    have el : as.length = i := by rw [Paired.length p3, List.length_map, List.length_take]; omega
    refine ⟨hw _, ?_⟩
    show te _ H' _
    refine he c0 y H' (List.mem_of_getElem? hy) hh p1 H' (Ex.refl _) _ fun r H4 nr e4 hr => ?_
    have nrD : r ≠ D := fun z => by
      rw [z, p2] at nr
      cases nr
    refine ⟨_, e4 _ _ p2, ?_, as ++ [r], Ex.mut (p1.trans e4) hD, ?_, ?_, ?_, ?_, ?_⟩
    · rw [List.length_map, el]
      exact small1000 (by omega)
    · rw [upd_same, List.map_append]
      rfl
    · rw [take_snoc hy, List.map_append]
      refine paired_snoc (rows_but p3 fun b hb o g => ?_) ?_
      · rw [upd_ne (fun z => p6 (by rw [← z]; exact hb))]
        exact e4 _ _ g
      · rw [upd_ne nrD]
        exact hr
    · intro b hb
      rcases List.mem_append.mp hb with h | h
      · exact p4 b h
      · rw [show b = r by simpa using h]
        exact fresh_back p1 nr
    · refine List.nodup_append.mpr ⟨p5, by simp, fun b hb c hc z => ?_⟩
      have : c = r := by simpa using hc
      have hb' : r ∈ as := by rw [← this, ← z]; exact hb
      obtain ⟨x, _, hx'⟩ := paired_mem p3 hb'
      rw [nr] at hx'
      cases hx'
    · intro hb
      rcases List.mem_append.mp hb with h | h
      · exact p6 h
      · exact nrD (by simpa using h : D = r).symm
  · obtain ⟨as, p1, p2, p3, p4, p5, p6⟩ := p
    rw [List.length_map, Paired.length ht.2, List.take_length] at p3
    exact k D as H' hD p4 p5 p6 p1 ⟨p2, p3⟩
theorem el_cat {ta tb : TE} {σ : L2.St} {H : Hp} {xs ys : List V} (ha : EvL ta σ H xs) (hb : EvL tb σ H ys) (hz : xs.length + ys.length ≤ 100000) : EvL (tOp rCat ta tb) σ H (xs ++ ys) := fun H1 e Q q =>
  ha H1 e _ fun p H2 np e2 hp => hb H2 (e.trans e2) _ fun r H3 nr e3 hr => ⟨p, r, xs, ys, rfl, rfl, e3 _ _ hp, hr, sz_of hz, fun l nl => q l _ (fresh_back (e2.trans e3) nl) ((e2.trans e3).trans (Ex.new nl)) upd_same⟩
theorem at_bd {B : Nat} {rows : List (List Int)} {a b : Nat} (h : ∀ r ∈ rows, ∀ y ∈ r, Bd B y) : Bd B (Dt.at_ rows a b) := by
  unfold Dt.at_
  cases e : rows[a]? with
  | none => exact bd_zero
  | some r =>
    show Bd B (r[b]?.getD 0)
    cases e2 : r[b]? with
    | none => exact bd_zero
    | some y => exact h r (List.mem_of_getElem? e) y (List.mem_of_getElem? e2)
theorem cut_outV (ns : List Int) {j : Nat} (hj : j < ns.length) (h8 : ns.length ≤ 8) : cutV (ns.map V.int) none (some (j : Int)) ++ cutV (ns.map V.int) (some ((j : Int) + 1)) none = (ns.take j ++ ns.drop (j + 1)).map V.int := by
  have e0 : HT.sIx (ns.map V.int).length 0 none = 0 := rfl
  have e1 : HT.sIx (ns.map V.int).length (ns.map V.int).length none = (ns.map V.int).length := rfl
  have e2 : HT.sIx (ns.map V.int).length (ns.map V.int).length (some (j : Int)) = j := by
    rw [List.length_map]
    exact six_at hj h8
  have e3 : HT.sIx (ns.map V.int).length 0 (some ((j : Int) + 1)) = j + 1 := by
    rw [List.length_map]
    exact six_at1 hj h8
  unfold cutV
  rw [e0, e1, e2, e3, List.drop_zero, Nat.sub_zero, List.map_append, List.map_take, List.map_drop]
  congr 1
  exact List.take_of_length_le (by rw [List.length_drop, List.length_map]; exact Nat.le_refl _)
theorem paired_drop {α β : Type} {R : α → β → Prop} : ∀ {xs : List α} {ys : List β} (n : Nat), Paired R xs ys → Paired R (xs.drop n) (ys.drop n)
  | _, _, 0, h => h
  | _, _, n + 1, .nil => by rw [List.drop_nil, List.drop_nil]; exact .nil
  | _, _, n + 1, .cons a t => paired_drop n t
theorem sign_at {i j : Nat} : atI [V.int 1, .int (-1)] (((i : Int) + (j : Int)) % 2) = some (.int (Dt.sgn2 i j)) := by
  have h : (((i : Int) + (j : Int)) % 2) = (((i + j) % 2 : Nat) : Int) := by omega
  rw [h]
  unfold Dt.sgn2
  rcases (show (i + j) % 2 = 0 ∨ (i + j) % 2 = 1 by omega) with g | g
  · rw [g, if_pos rfl]
    rfl
  · rw [g, if_neg (by decide)]
    rfl

theorem sign_at1 {j : Nat} : atI [V.int 1, .int (-1)] ((j : Int) % 2) = some (.int (Dt.sgn2 0 j)) := by
  have h := sign_at (i := 0) (j := j)
  rw [show ((0 : Nat) : Int) + (j : Int) = (j : Int) by omega] at h
  exact h
theorem sgn0 (j : Nat) : ((Dt.sgn2 0 j : Int) : Rat) = Dt.sg j := by
  rw [Dt.sgn2_eq]
  show 1 * Dt.sg j = _
  exact Rat.one_mul _
theorem bd_sgn2 (i j : Nat) : Bd 1 (Dt.sgn2 i j) := by unfold Dt.sgn2; split <;> unfold Bd <;> decide
theorem rest0 (R : List (List Int)) (j : Nat) : Dt.restT R 0 j = (R.drop 1).map fun r => r.take j ++ r.drop (j + 1) := rfl
theorem minor_rest {R : List (List Int)} {n j : Nat} (hl : R.length = n + 1) (hw : ∀ r ∈ R, r.length = n + 1) (hj : j < n + 1) : Dt.det n (Dt.minor (Dt.mx R) j) = Dt.det n (Dt.mx (Dt.restT R 0 j)) := Dt.det_congr fun a b ha hb => by
  show ((Dt.at_ R (a + 1) (Dt.skip j b) : Int) : Rat) = ((Dt.at_ (Dt.restT R 0 j) a b : Int) : Rat)
  have e := Dt.rest_at hl hw (i := 0) (by omega) hj a b (by unfold Dt.skip; split <;> omega)
  rw [e, show Dt.skip 0 a = a + 1 from Dt.skip_ge (Nat.zero_le _)]
theorem cut_drop1 (l : List Addr) (h : 1 ≤ l.length) (h8 : l.length ≤ 8) : cutV (l.map V.ref) (some 1) none = (l.drop 1).map V.ref := by
  have e1 : HT.sIx (l.map V.ref).length (l.map V.ref).length none = (l.map V.ref).length := rfl
  have e3 : HT.sIx (l.map V.ref).length 0 (some (1 : Int)) = 1 := by
    rw [List.length_map]
    exact six_at1 (j := 0) (by omega) h8
  unfold cutV
  rw [e1, e3, List.map_drop]
  exact List.take_of_length_le (by rw [List.length_drop]; exact Nat.le_refl _)


def sp__law_expanded (K : PySem.W.Frag) (N : Nat) : Sp := fun vs H Q _ => ∃ (p : Addr) (as : List Addr) (rows : List (List Int)) (n b : Nat), vs = [.ref p] ∧ TabOk H p as rows n n ∧ n ≤ N ∧ (0 < b ∧ b ≤ 200) ∧ (∀ r ∈ rows, ∀ y ∈ r, Bd b y) ∧
  ∀ (d : Int) H', ((d : Int) : Rat) = Dt.det n (Dt.mx rows) → Bd (n * (b + 12)) d → Ex H H' → Q (.int d) H'
theorem zero__law_expanded {K : PySem.W.Frag} {vs : List V} {H : Hp} {Q : VK} {E : XK} (h : sp__law_expanded K 0 vs H Q E) : False := by
  obtain ⟨_, _, _, _, _, _, h, hn, _⟩ := h
  have := h.b
  omega

theorem okr__law_expanded (T : Txt K mg) : ∀ n : Nat, FnOk P w K mg base CX0 (n + 1) T.f__law_expanded T.fd__law_expanded ["_law_grid"] (sp__law_expanded K n)
  | 0 => ⟨fun vs H Q E h => (zero__law_expanded h).elim, fun A outer s H args us vs Q E hr e0 hb r h => (zero__law_expanded h).elim⟩
  | n + 1 => by
    have ih := okr__law_expanded T n
    refine Fun.ok T.F__law_expanded sc__law_expanded (fun vs H Q E h => ?_) (fun cdv A outer s H vs Q E hr h => ?_)
    · obtain ⟨_, _, _, _, _, rfl, _⟩ := h; rfl
    · refine ⟨_, (pss_cons (ps_if (pt_cmpR op_eq (pe_callB (id := "len") (r := rLenS K) call_len_seq (by rfl) T.n_len PySem.boot_len (pa_cons (pv 0) pa_nil)) pe_int (nomark _))
        (pss_one (ps_ret (pe_ix (r := rIxL K) ix_list (pe_ix (r := rIxL K) ix_list (pv 0) pe_int (fun _ _ => rfl)) pe_int (fun _ _ => rfl))))
        pss_nil)
      (pss_cons (ps_set (i := 1) sc__law_expanded.nd rfl (by first | exact Or.inl rfl | exact Or.inr rfl) pe_int)
      (pss_cut (ps_for PassesOwn.never rfl (pi_enum (by rfl) T.n_enumerate (pa_cons (pe_ix (r := rIxL K) ix_list (pv 0) pe_int (fun _ _ => rfl)) pa_nil)) (pg_tup rfl (pgs_cons (pg_name (i := 2) sc__law_expanded.nd rfl (by first | exact Or.inl rfl | exact Or.inr rfl)) (pgs_cons (pg_name (i := 3) sc__law_expanded.nd rfl (by first | exact Or.inl rfl | exact Or.inr rfl)) pgs_nil)))
        (pss_one (ps_if (pt_cmpR op_ne (pv 3) pe_int (nomark _))
            (pss_cut (ps_setLc (i := 4) (own := [("_law_row", 5)]) (wi := iList K _) (g := gName 5) (tt := tYes) rfl sc__law_expanded.nd rfl rfl (sw_true rfl rfl rfl (by decide +kernel)) (pi_list (pe_slice (r := rSlL K) sl_list (pv 0) (po_some pe_int) po_none)) (blkOk_by (N := ["_law_grid", "_law_worth", "_law_j", "_law_entry", "_law_rest", "_law_row"]) (sc := (defScope s__law_expanded)) (by decide +kernel)) (fun _ _ _ _ _ => pg_name (i := 5) sc__law_expanded.nd rfl (Or.inl rfl)) (fun _ _ _ _ _ => pts_nil) (fun _ _ _ _ _ => (pe_op op_cat (pe_slice (r := rSlL K) sl_list (pv 5) po_none (po_some (pv 2))) (pe_slice (r := rSlL K) sl_list (pv 5) (po_some (pe_op op_add (pv 2) pe_int)) po_none))))
              (pss_one (ps_set (i := 1) sc__law_expanded.nd rfl (by first | exact Or.inl rfl | exact Or.inr rfl) (pe_op op_add (pv 1) (pe_op op_mulW (pe_op op_mulW (pe_ix (r := rIxL K) ix_list (pe_lst (pa_cons pe_int (pa_cons (pe_un un_neg pe_int) pa_nil))) (pe_op op_mod (pv 2) pe_int) (fun _ _ => rfl)) (pv 3)) (pe_call ih hr (by rfl) T.g__law_expanded T.k__law_expanded T.b__law_expanded .nil pass0 (pa_cons (pv 4) pa_nil)))))))
            pss_nil)))
      (pss_one (ps_ret (pv 1)))))), ?_⟩
      obtain ⟨p, as, rows, m, b, rfl, hT, hn, hbb, hb, k⟩ := h
      have hd := hT.b
      obtain ⟨n', rfl⟩ : ∃ n', m = n' + 1 := ⟨m - 1, by omega⟩
      obtain ⟨a0, r0, ha0, hr0, hh0, hl0, at0⟩ := hT.row0
      have b0 : ∀ y ∈ r0, Bd b y := hb _ (List.mem_of_getElem? hr0)
      refine q_when (b := decide (n' + 1 = 1)) (et_is (et_test (ev_op (ev_is (ev_len (ev_var (i := 0) rfl) (SqL.of hT.tab.1)) (by rw [List.length_map, hT.al])) ev_c (rv_eq rfl))) (dec_nat (x := n' + 1) (y := 1))) (fun z H1 e1 => ?_) (fun z H1 e1 => ?_)
      · have z := of_decide_eq_true z
        obtain rfl : n' = 0 := by omega
        refine s_ret (v := .int (Dt.at_ rows 0 0)) (ev_op (ev_op (ev_var (i := 0) rfl) ev_c (rv_ixL (SqL.of (hT.ex e1).tab.1) at0)) ev_c (rv_ixL (SqL.of (e1 _ _ hh0)) (by rw [at_row_ hr0]; exact atI_row (kk := 0) (by omega)))) fun H2 e2 => k _ H2 ?_ ?_ (e1.trans e2)
        · rw [Dt.det_one]
          rfl
        · rw [at_row_ hr0]
          exact (b0 _ (mem_i (by omega))).mono (by omega)
      have z := of_decide_eq_false z
      refine q_asg (v := .int 0) ev_c fun H2 e2 => ?_
      have hT2 := hT.ex (e1.trans e2)
      refine ⟨fun σ' H' => ∃ (wth : Int) (y2 y3 y4 : Option V), σ' = [some (.ref p), some (.int wth), y2, y3, y4, none] ∧ Ex H2 H' ∧ ((wth : Int) : Rat) = Dt.det (n' + 1) (Dt.mx rows) ∧ Bd (n' * (b + 12) + b + 4 + (n' + 1)) wth, ?_, ?_⟩
      rotate_left
      · rintro σ' H3 ⟨wth, y2, y3, y4, rfl, e3, h1, h2⟩
        refine s_ret (ev_var rfl) fun H4 e4 => k wth H4 h1 (h2.mono ?_) ((e1.trans e2).trans (e3.trans e4))
        rw [Nat.add_mul]
        omega
      have e3 : Ex H2 H2 := Ex.refl _
      have hh3 := (e1.trans e2) _ _ hh0
      refine ⟨_, rfl, p, _, 0, _, rfl, rfl, SqL.of hT2.tab.1, at0, a0, _, rfl, SqL.of hh3, ?_⟩
      refine for_enum (K := K) (a := a0) (xs := r0.map V.int) (fun i σ H' => ∃ (wth : Int) (y2 y3 y4 : Option V), σ = [some (.ref p), some (.int wth), y2, y3, y4, none] ∧ Ex H2 H' ∧ ((wth : Int) : Rat) = Dt.sm i (fun j => Dt.sg j * Dt.mx rows 0 j * Dt.det n' (Dt.minor (Dt.mx rows) j)) ∧ Bd (n' * (b + 12) + b + 4 + i) wth) ⟨0, _, _, _, rfl, Ex.refl _, rfl, bd_zero⟩ (fun i σ H' ⟨_, _, _, _, _, e, _⟩ => SqL.of (e _ _ hh3)) ?_ ?_
      rotate_left
      · rintro σ H4 ⟨wth, y2, y3, y4, rfl, e4, h1, h2⟩
        rw [List.length_map, hl0] at h1 h2
        exact ⟨wth, y2, y3, y4, rfl, e3.trans e4, h1, h2⟩
      rintro i x t σ H4 hx ⟨wth, y2, y3, y4, rfl, e4, h1, h2⟩ nt
      rw [List.getElem?_map] at hx
      obtain ⟨e, he, rfl⟩ := Option.map_eq_some_iff.mp hx
      have hi := (List.getElem?_eq_some_iff.mp he).1
      have xt := Ex.new (o := .tup [V.int (i : Nat), .int e]) nt
      refine ⟨t, _, rfl, SqT.of upd_same, rfl, _, _, rfl, _, _, rfl, rfl, ?_⟩
      have me : Dt.mx rows 0 i = ((e : Int) : Rat) := by
        show ((Dt.at_ rows 0 i : Int) : Rat) = _
        rw [at_row_ hr0, get_i he]
      have e5 := e4.trans xt
      have step : Dt.sm (i + 1) (fun j => Dt.sg j * Dt.mx rows 0 j * Dt.det n' (Dt.minor (Dt.mx rows) j)) = ((wth : Int) : Rat) + Dt.sg i * ((e : Int) : Rat) * Dt.det n' (Dt.minor (Dt.mx rows) i) := by
        show Dt.sm i _ + Dt.sg i * Dt.mx rows 0 i * _ = _
        rw [← h1, me]
      refine s_when (b := !decide (e = 0)) (et_is (et_test (ev_op (ev_var (i := 3) rfl) ev_c (rv_ne rfl))) ?_) (fun c H5 e6 => ?_) (fun c H5 e6 => ?_)
      · congr 1
        exact decide_eq_decide.mpr ⟨fun z => V.int.inj z, fun z => by rw [z]⟩
      rotate_left
      · have c : e = 0 := by
          by_cases c1 : e = 0
          · exact c1
          · rw [decide_eq_false c1] at c
            cases c
        refine ⟨wth, _, _, _, rfl, e5.trans e6, ?_, h2.mono (by omega)⟩
        rw [step, c]
        show _ = _ + Dt.sg i * (0 : Rat) * _
        grind
      have hT5 := (hT2.ex e3).ex (e5.trans e6)
      have al := hT5.al
      have rr := hT5.m_
      refine ⟨fun σ' H' => ∃ (q : Addr) (qs : List Addr), σ' = [some (.ref p), some (.int wth), some (.int (i : Int)), some (.int e), some (.ref q), none] ∧ Ex H5 H' ∧ Tab H' q qs (Dt.restT rows 0 i), ?_, ?_⟩
      · have sl := el_sl (K := K) (te := tVar 0) (tl := tPart (tC (.int 1))) (th := tNoPart) (σ := [some (.ref p), some (.int wth), some (.int (i : Int)), some (.int e), y4, none]) (ev_var rfl) (eo_some ev_c) eo_none (SqL.of hT5.tab.1)
        rw [cut_drop1 as (by omega) (by omega)] at sl
        refine lc_rowsE (K := K) (F := fun r => r.take i ++ r.drop (i + 1)) sl (paired_drop 1 hT5.tab.2) (by rw [List.length_drop]; omega) (fun u => rfl) (fun c r H6 hr hc e7 => ?_) (fun q qs H6 _ _ _ _ e7 h => ⟨q, qs, rfl, e7, h⟩)
        have lr := hT.w_ r (List.mem_of_mem_drop hr)
        have c3 := cutV_length (r.map V.int) none (some (i : Int))
        have c4 := cutV_length (r.map V.int) (some ((i : Int) + 1)) none
        rw [List.length_map] at c3 c4
        rw [← cut_outV r (by omega) (by omega)]
        exact el_cat (el_sl (K := K) (ev_var rfl) eo_none (eo_some (ev_var rfl)) (SqL.of hc)) (el_sl (K := K) (ev_var rfl) (eo_some (ev_op (ev_var rfl) ev_c rv_I0)) eo_none (SqL.of hc)) (by omega)
      rintro σ' H6 ⟨q, qs, rfl, e7, hR⟩
      have okR : TabOk H6 q qs (Dt.restT rows 0 i) n' n' := ⟨hR, by rw [Dt.rest_len hT.m_ (by omega), Nat.add_sub_cancel], fun r hr => by rw [Dt.rest_wid hT.w_ (by omega) r hr, Nat.add_sub_cancel], by omega, by omega, by omega, by omega⟩
      have be : Bd b e := b0 e (List.mem_of_getElem? he)
      refine ⟨_, rfl, ?_⟩
      have sc : Ev (tOp (rI CMulW fun i j => .int (i * j)) (tOp (rIxL K) (tLst (tCons (tC (.int 1)) (tCons (tUn (rU fun i => .int (-i)) (tC (.int 1))) tNil))) (tOp (rI (fun _ j => 0 < j) fun i j => .int (i % j)) (tVar 2) (tC (.int 2)))) (tVar 3)) [some (.ref p), some (.int wth), some (.int (i : Int)), some (.int e), some (.ref q), none] H6 (.int (Dt.sgn2 0 i * e)) := ev_op (ev_opL1 (el_lst (ea_cons ev_c (ea_cons (ev_un (x := .int 1) ev_c ru_neg) ea_nil)) (Nat.le_of_ble_eq_true rfl)) (fun H9 e9 => ev_op (ev_var rfl) ev_c (rv_I (by decide))) (fun p H9 hp e9 => rv_ixL (SqL.of hp) sign_at1)) (ev_var rfl) (rv_I ((bd_sgn2 0 i).mulOk be (by decide) hbb.1 (by omega)))
      refine sc H6 (Ex.refl _) _ fun H7 e8 => ?_
      have n6 : n' ≤ n := by omega
      refine ⟨_, rfl, q, qs, _, n', b, rfl, okR.ex e8, n6, hbb, Dt.rest_mem hb, fun d H8 hdd bd e9 => ?_⟩
      have nb : n' * (b + 12) ≤ 8 * 212 := Nat.mul_le_mul (by omega) (by have := hbb.2; omega)
      refine ⟨_, _, rfl, rfl, ((bd_sgn2 0 i).mul be).mulOk bd (by omega) (Nat.mul_pos (by omega) (by omega)) (by omega), ?_⟩
      refine ⟨_, _, rfl, rfl, ?_⟩
      refine ⟨wth + Dt.sgn2 0 i * e * d, _, _, _, rfl, (e5.trans e6).trans (e7.trans (e8.trans e9)), ?_, ?_⟩
      · rw [step, Rat.intCast_add, Rat.intCast_mul, Rat.intCast_mul, sgn0, hdd, minor_rest hT.m_ hT.w_ (by omega)]
      · exact (Bd.add (h2 : Bd (n' * (b + 12) + b + 4 + i) wth) ((((bd_sgn2 0 i).mul be).mul bd).mono (by omega))).mono (by omega)
theorem ok__law_expanded (T : Txt K mg) : FnOk P w K mg base CX0 7 T.f__law_expanded T.fd__law_expanded ["_law_grid"] (sp__law_expanded K 6) := okr__law_expanded T 6
-- DEF _law_picks

/-- lists of places, new ones, told in a new list -/
structure PickL (H0 H : Hp) (D : Addr) (as : List Addr) (ls : List (List Nat)) : Prop where
  d : H D = some (.lst (as.map V.ref))
  r : RowsAt H as (ls.map Sg.zs)
  d0 : H0 D = none
  a0 : ∀ a ∈ as, H0 a = none
  nd : as.Nodup
  na : D ∉ as
theorem PickL.ex {H0 H H' : Hp} {D : Addr} {as : List Addr} {ls : List (List Nat)} (h : PickL H0 H D as ls) (e : Ex H H') : PickL H0 H' D as ls := ⟨e _ _ h.d, h.r.ex e, h.d0, h.a0, h.nd, h.na⟩
theorem PickL.back {H0 H1 H : Hp} {D : Addr} {as : List Addr} {ls : List (List Nat)} (h : PickL H1 H D as ls) (e : Ex H0 H1) : PickL H0 H D as ls := ⟨h.d, h.r, fresh_back e h.d0, fun a ha => fresh_back e (h.a0 a ha), h.nd, h.na⟩
theorem all_len8 (n r : Nat) (h : n ≤ 8) : (Cb.all n r).length ≤ 256 := Nat.le_trans (Cb.all_count n r n 0 (by omega)) (Nat.le_trans (Nat.pow_le_pow_right (by decide) h) (by decide))
def ahd (n r i : Nat) : List (List Nat) := (List.range i).flatMap fun f => (Cb.all (n - f - 1) r).map fun l : List Nat => f :: l.map fun y : Nat => f + 1 + y
theorem ahd_succ (n r i : Nat) : ahd n r (i + 1) = ahd n r i ++ (Cb.all (n - i - 1) r).map fun l : List Nat => i :: l.map fun y : Nat => i + 1 + y := by
  unfold ahd
  rw [List.range_succ, List.flatMap_append, List.flatMap_cons, List.flatMap_nil, List.append_nil]
theorem ahd_len (n r : Nat) (h : n ≤ 8) : ∀ i, (ahd n r i).length ≤ i * 256
  | 0 => Nat.zero_le _
  | i + 1 => by
    rw [ahd_succ, List.length_append, List.length_map, Nat.add_mul, Nat.one_mul]
    have := ahd_len n r h i
    have := all_len8 (n - i - 1) r (by omega)
    omega
/-- [F(r) for r in a new list of lists] -/
theorem lc_rowsN {K : PySem.W.Frag} {tl te : TE} {vs : List Nat} {j : Nat} {σ : L2.St} {H : Hp} {Q : VK} (F : List Int → List Int) {rows : List (List Int)} (h : ∀ Q1 : VK, (∀ a as0 H1, Ex H H1 → Tab H1 a as0 rows → Q1 (.ref a) H1) → tl σ H Q1) (hm : rows.length ≤ 1000) (hw : ∀ u, wipe ((wipe σ vs).set j (some u)) vs = wipe σ vs)
    (he : ∀ c r H1, r ∈ rows → H1 c = some (.lst (r.map V.int)) → Ex H H1 → EvL te ((wipe σ vs).set j (some (.ref c))) H1 ((F r).map V.int))
    (k : ∀ p as H2, H p = none → (∀ a ∈ as, H a = none) → as.Nodup → p ∉ as → Ex H H2 → Tab H2 p as (rows.map F) → Q (.ref p) H2) : tLc (iList K tl) (gName j) tYes te vs σ H Q := by
  refine h _ fun a as0 H1 e1 ht => ⟨a, rfl, ⟨_, SqL.of ht.1⟩, fun D hD => ?_⟩
  have el0 : as0.length = rows.length := Paired.length ht.2
  refine lc_list (K := K) (a := a) (xs := as0.map V.ref) (fun i H' => ∃ as, Ex H1 H' ∧ H' D = some (.lst (as.map V.ref)) ∧ RowsAt H' as ((rows.take i).map F) ∧ (∀ a ∈ as, H1 a = none) ∧ as.Nodup ∧ D ∉ as) ⟨[], Ex.new hD, upd_same, .nil, fun a ha => by simp at ha, List.nodup_nil, by simp⟩ (fun i H' _ ⟨_, p1, _⟩ => SqL.of (p1 _ _ ht.1)) (fun i x H' gx p => ?_) (fun H' p => ?_)
  · obtain ⟨as, p1, p2, p3, p4, p5, p6⟩ := p
    rw [List.getElem?_map] at gx
    obtain ⟨c0, hc0, rfl⟩ := Option.map_eq_some_iff.mp gx
    obtain ⟨y, hy, hh⟩ := paired_get ht.2 hc0
    have hi := (List.getElem?_eq_some_iff.mp hy).1
    refine ⟨hw _, ?_⟩
    show te _ _ _
    refine he c0 y H' (List.mem_of_getElem? hy) (p1 _ _ hh) (e1.trans p1) H' (Ex.refl _) _ fun q H4 nq e4 hq => ?_
    have qD : q ≠ D := fun z => by rw [z, p2] at nq; cases nq
    have al : as.length = i := by
      rw [Paired.length p3, List.length_map, List.length_take]
      omega
    refine ⟨_, e4 _ _ p2, small1000 (by rw [List.length_map]; omega), as ++ [q], Ex.mut (p1.trans e4) hD, ?_, ?_, ?_, ?_, ?_⟩
    · rw [upd_same, List.map_append]
      rfl
    · rw [take_snoc hy, List.map_append]
      refine paired_snoc (rows_but p3 fun b hb o g => ?_) ?_
      · rw [upd_ne (fun z => p6 (by rw [← z]; exact hb))]
        exact e4 _ _ g
      · rw [upd_ne qD]
        exact hq
    · intro b hb
      rcases List.mem_append.mp hb with z | z
      · exact p4 b z
      · rw [List.mem_singleton.mp z]
        exact fresh_back p1 nq
    · refine List.nodup_append.mpr ⟨p5, by simp, fun b hb c hc z => ?_⟩
      rw [List.mem_singleton.mp hc] at z
      obtain ⟨jj, h1, h2⟩ := List.mem_iff_getElem.mp hb
      obtain ⟨r, _, hr⟩ := paired_get p3 (i := jj) (a := b) (by rw [List.getElem?_eq_getElem h1, h2])
      rw [z, nq] at hr
      cases hr
    · intro z
      rcases List.mem_append.mp z with z | z
      · exact p6 z
      · rw [List.mem_singleton.mp z] at qD
        exact qD rfl
  · obtain ⟨as, p1, p2, p3, p4, p5, p6⟩ := p
    rw [List.length_map, el0, List.take_length] at p3
    exact k D as H' (fresh_back e1 hD) (fun a ha => fresh_back e1 (p4 a ha)) p5 p6 (e1.trans p1) ⟨p2, p3⟩
theorem s_ret1 {tl : TE} {D : Ends} {σ : L2.St} {H : Hp} {xs : List V} (h : EvL tl σ H xs) (k : ∀ p d H1, H p = none → H d = none → p ≠ d → Ex H H1 → H1 p = some (.lst xs) → H1 d = some (.lst [.ref p]) → D.rt (.ref d) H1) : tRet (tLst (tCons tl tNil)) D σ H :=
  h H (Ex.refl H) _ fun p H1 np e1 hp => ⟨(by show 1 ≤ sizeLine; decide), fun d nd => by
    have x2 := Ex.new (o := .lst [V.ref p]) nd
    exact k p d _ np (fresh_back e1 nd) (fun z => by rw [← z, hp] at nd; cases nd) (e1.trans x2) (x2 _ _ hp) upd_same⟩

def sp__law_picks (K : PySem.W.Frag) (N : Nat) : Sp := fun vs H Q _ => ∃ (m n : Nat), vs = [.int m, .int n] ∧ m ≤ 8 ∧ n < N ∧ ∀ D as H', Ex H H' → PickL H H' D as (Cb.all m n) → Q (.ref D) H'
theorem zero__law_picks {K : PySem.W.Frag} {vs : List V} {H : Hp} {Q : VK} {E : XK} (h : sp__law_picks K 0 vs H Q E) : False := by
  obtain ⟨_, _, _, _, h, _⟩ := h
  omega

theorem okr__law_picks (T : Txt K mg) : ∀ n : Nat, FnOk P w K mg base CX0 (n + 1) T.f__law_picks T.fd__law_picks ["_law_many", "_law_size"] (sp__law_picks K n)
  | 0 => ⟨fun vs H Q E h => (zero__law_picks h).elim, fun A outer s H args us vs Q E hr e0 hb r h => (zero__law_picks h).elim⟩
  | n + 1 => by
    have ih := okr__law_picks T n
    refine Fun.ok T.F__law_picks sc__law_picks (fun vs H Q E h => ?_) (fun cdv A outer s H vs Q E hr h => ?_)
    · obtain ⟨_, _, rfl, _⟩ := h; rfl
    · refine ⟨_, (pss_cons (ps_if (pt_cmpR op_eq (pv 1) pe_int (nomark _))
        (pss_one (ps_ret (pe_lst (pa_cons (pe_lst pa_nil) pa_nil))))
        pss_nil)
      (pss_cons (ps_set (i := 2) sc__law_picks.nd rfl (by first | exact Or.inl rfl | exact Or.inr rfl) (pe_lst pa_nil))
      (pss_cons (ps_for PassesOwn.never rfl (pi_range1 (by rfl) T.n_range (pa_cons (pv 0) pa_nil)) (pg_name (i := 3) sc__law_picks.nd rfl (by first | exact Or.inl rfl | exact Or.inr rfl))
        (pss_one (ps_set (i := 2) sc__law_picks.nd rfl (by first | exact Or.inl rfl | exact Or.inr rfl) (pe_op op_cat (pv 2) (pe_lc (own := [("_law_rest", 4)]) (wi := iList K _) (g := gName 4) (tt := tYes) rfl sc__law_picks.nd (pi_list (pe_call ih hr (by rfl) T.g__law_picks T.k__law_picks T.b__law_picks .nil pass0 (pa_cons (pe_op op_sub (pe_op op_sub (pv 0) (pv 3)) pe_int) (pa_cons (pe_op op_sub (pv 1) pe_int) pa_nil)))) (blkOk_by (N := ["_law_many", "_law_size", "_law_found", "_law_first", "_law_rest", "_law_k"]) (sc := (defScope s__law_picks)) (by decide +kernel)) (fun _ _ _ _ _ => pg_name (i := 4) sc__law_picks.nd rfl (Or.inl rfl)) (fun _ _ _ _ _ => pts_nil) (fun _ _ _ _ _ => (pe_op op_cat (pe_lst (pa_cons (pv 3) pa_nil)) (pe_lc (own := [("_law_k", 5)]) (wi := iList K _) (g := gName 5) (tt := tYes) rfl sc__law_picks.nd (pi_list (pv 4)) (blkOk_by (N := ["_law_many", "_law_size", "_law_found", "_law_first", "_law_rest", "_law_k"]) (sc := (relS ({ kind := .function, names := [(".0", .local), ("_law_rest", .local), ("_law_first", .free)], isGenerator := false, isCoroutine := false } : Scope) (defScope s__law_picks))) (by decide +kernel)) (fun _ _ _ _ _ => pg_name (i := 5) sc__law_picks.nd rfl (Or.inl rfl)) (fun _ _ _ _ _ => pts_nil) (fun _ _ _ _ _ => (pe_op op_add (pe_op op_add (pv 3) pe_int) (pv 5)))))))))))
      (pss_one (ps_ret (pv 2)))))), ?_⟩
      obtain ⟨m, r, rfl, hm8, hr, k⟩ := h
      refine q_when (b := decide (r = 0)) (et_is (et_test (ev_op (ev_var (i := 1) rfl) ev_c (rv_eq rfl))) ?_) (fun z H1 e1 => ?_) (fun z H1 e1 => ?_)
      · rw [decide_eq_decide]
        exact ⟨fun z => by have := V.int.inj z; omega, fun z => by rw [z]; rfl⟩
      · have z := of_decide_eq_true z
        subst z
        refine s_ret1 (el_lst ea_nil (Nat.zero_le _)) fun p d H2 np nd pd e2 hp hd => k d [p] H2 (e1.trans e2) ⟨hd, .cons hp .nil, fresh_back e1 nd, fun a ha => ?_, by simp, fun z => ?_⟩
        · rw [List.mem_singleton.mp ha]
          exact fresh_back e1 np
        · exact pd (List.mem_singleton.mp z).symm
      have z := of_decide_eq_false z
      obtain ⟨r', rfl⟩ : ∃ r', r = r' + 1 := ⟨r - 1, by omega⟩
      refine q_asgL (el_lst ea_nil (Nat.zero_le _)) fun F H2 nF e2 hF => ?_
      have e12 := e1.trans e2
      refine q_forR1 (n := (m : Int)) (ea_cons (ev_var (i := 0) rfl) ea_nil) (by omega) (fun i σ' H' => ∃ (F : Addr) (as : List Addr) (y3 : Option V), σ' = [some (.int (m : Int)), some (.int ((r' + 1 : Nat) : Int)), some (.ref F), y3, none, none] ∧ Ex H H' ∧ PickL H H' F as (ahd m r' i)) (fun H3 e3 => ⟨F, [], _, rfl, e12.trans e3, e3 _ _ hF, .nil, fresh_back e1 nF, fun a ha => (nomatch ha), List.nodup_nil, fun z => nomatch z⟩) (fun i σ' H3 hi hP => ?_) (fun σ' H3 hP => ?_)
      rotate_left
      · obtain ⟨F, as, y3, rfl, e3, hL⟩ := hP
        rw [Int.toNat_natCast] at hL
        have e : ahd m r' m = Cb.all m (r' + 1) := (Cb.all_step m r').symm
        rw [e] at hL
        exact s_ret (ev_var (i := 2) rfl) fun H4 e4 => k F as H4 (e3.trans e4) (hL.ex e4)
      obtain ⟨F, as, y3, rfl, e3, hL⟩ := hP
      have hi : i < m := by omega
      have al : as.length = (ahd m r' i).length := by rw [Paired.length hL.r, List.length_map]
      have al2 := ahd_len m r' hm8 i
      have al3 : i * 256 ≤ 8 * 256 := Nat.mul_le_mul_right _ (by omega)
      have cz : ∀ l : List Nat, Sg.zs (i :: l.map fun y : Nat => i + 1 + y) = (i : Int) :: (Sg.zs l).map fun y => (i : Int) + 1 + y := fun l => by
        unfold Sg.zs
        rw [List.map_cons, List.map_map, List.map_map]
        congr 1
      refine ⟨_, rfl, ?_⟩
      have e4 := Ex.refl H3
      have hL4 := hL
      have e04 := e3
      have ln := all_len8 (m - i - 1) r' (by omega)
      refine lc_rowsN (K := K) (j := 4) (vs := [4]) (σ := [some (.int (m : Int)), some (.int ((r' + 1 : Nat) : Int)), some (.ref F), some (.int (i : Int)), none, none]) (rows := (Cb.all (m - i - 1) r').map Sg.zs) (fun r => (i : Int) :: r.map fun y => (i : Int) + 1 + y) (fun Q1 q1 => ?_) (by rw [List.length_map]; omega) (fun u => rfl) (fun c rr H5 hrr hc e5 => ?_) (fun D bs H5 nD nbs ndb Db e5 hD => ?_)
      · refine (ea_cons (ev_is (ev_op (ev_op (ev_var (i := 0) rfl) (ev_var (i := 3) rfl) rv_I0) ev_c rv_I0) (show V.int ((m : Int) - (i : Int) - 1) = .int ((m - i - 1 : Nat) : Int) from congrArg V.int (by omega))) (ea_cons (ev_is (ev_op (ev_var (i := 1) rfl) ev_c rv_I0) (show V.int (((r' + 1 : Nat) : Int) - 1) = .int ((r' : Nat) : Int) from congrArg V.int (by omega))) ea_nil)) H3 (Ex.refl _) _ fun H5 e5 => ?_
        exact ⟨m - i - 1, r', rfl, by omega, by omega, fun D as2 H6 e6 hP => q1 D as2 H6 (e5.trans e6) ⟨hP.d, hP.r⟩⟩
      · have hlr : rr.length ≤ 8 := by
          obtain ⟨l, hl, rfl⟩ := List.mem_map.mp hrr
          obtain ⟨h1, h2, h3⟩ := Cb.mem_all.mp hl
          have hn : l.Nodup := List.Pairwise.imp (fun h => Nat.ne_of_lt h) h2
          have h4 : l.length ≤ (List.range (m - i - 1)).length := List.Nodup.length_le_of_subset hn fun x hx => List.mem_range.mpr (h3 x hx)
          rw [List.length_range] at h4
          unfold Sg.zs
          rw [List.length_map]
          omega
        exact el_cat (xs := [V.int (i : Int)]) (ys := (rr.map fun y => (i : Int) + 1 + y).map V.int) (el_lst (ea_cons (ev_var (i := 3) rfl) ea_nil) (Nat.le_of_ble_eq_true rfl)) (el_mapI (K := K) (n := 4) (j := 5) (vs := [5]) (fun y => (i : Int) + 1 + y) rfl hc (by omega) (fun u => rfl) fun y H6 hy e6 => ev_op (ev_op (ev_var (i := 3) rfl) ev_c rv_I0) (ev_var (i := 5) rfl) rv_I0) (by rw [List.length_map, List.length_map]; show 1 + rr.length ≤ 100000; omega)
      have bl : bs.length = (Cb.all (m - i - 1) r').length := by rw [Paired.length hD.2, List.length_map, List.length_map]
      have hL5 := hL4.ex e5
      refine ⟨F, D, _, _, rfl, rfl, hL5.d, hD.1, ?_, fun l nl => ?_⟩
      · rw [List.length_map, List.length_map]
        exact sz_of (by omega)
      have xl := Ex.new (o := .lst (as.map V.ref ++ bs.map V.ref)) nl
      have stay : ∀ {b : Addr} {o : HO}, H5 b = some o → b ≠ l := fun h z => by rw [z, nl] at h; cases h
      refine ⟨l, as ++ bs, _, rfl, (e04.trans e5).trans xl, ⟨?_, ?_, fresh_back (e04.trans e5) nl, fun a ha => ?_, ?_, ?_⟩⟩
      · rw [upd_same, List.map_append]
      · rw [ahd_succ, List.map_append]
        refine paired_app (hL5.r.ex xl) ?_
        have h2 := (hD.ex xl).2
        rw [List.map_map] at h2 ⊢
        refine (show (Cb.all (m - i - 1) r').map _ = (Cb.all (m - i - 1) r').map _ from List.map_congr_left fun q _ => ?_) ▸ h2
        exact (cz q).symm
      · rcases List.mem_append.mp ha with h | h
        · exact hL.a0 a h
        · exact fresh_back e04 (nbs a h)
      · refine List.nodup_append.mpr ⟨hL.nd, ndb, fun a ha b hb z => ?_⟩
        obtain ⟨jj, h1, h2⟩ := List.mem_iff_getElem.mp ha
        obtain ⟨q, _, hq⟩ := paired_get hL4.r (i := jj) (a := a) (by rw [List.getElem?_eq_getElem h1, h2])
        rw [z, nbs b hb] at hq
        cases hq
      · intro z
        rcases List.mem_append.mp z with h | h
        · obtain ⟨jj, h1, h2⟩ := List.mem_iff_getElem.mp h
          obtain ⟨q, _, hq⟩ := paired_get hL5.r (i := jj) (a := l) (by rw [List.getElem?_eq_getElem h1, h2])
          exact stay hq rfl
        · obtain ⟨jj, h1, h2⟩ := List.mem_iff_getElem.mp h
          obtain ⟨q, _, hq⟩ := paired_get hD.2 (i := jj) (a := l) (by rw [List.getElem?_eq_getElem h1, h2])
          exact stay hq rfl
theorem ok__law_picks (T : Txt K mg) : FnOk P w K mg base CX0 7 T.f__law_picks T.fd__law_picks ["_law_many", "_law_size"] (sp__law_picks K 6) := okr__law_picks T 6
-- DEF _law_bad

theorem for_call2 {K : PySem.W.Frag} {sp : Sp} {E : XK} {ta te : TE} {g : TG} {tb : TS} {D : Ends} {σ : L2.St} {H : Hp} (h : ta σ H fun v H1 => te σ H1 fun u H2 => sp [v, u] H2 (fun v2 H3 => tFor (iList K (tC v2)) g tb D σ H3) E) : tFor (iList K (tCall sp [] E (tCons ta (tCons te tNil)))) g tb D σ H := h
theorem seq_call1 {sp : Sp} {E : XK} {te : TE} {g : TG} {tb : TS} {D : Ends} {σ : L2.St} {H : Hp} (h : te σ H fun v H1 => sp [v] H1 (fun u H2 => g u σ H2 fun σ3 H3 => tb D σ3 H3) E) : tSeq (tAsg (tCall sp [] E (tCons te tNil)) g) tb D σ H := h
theorem sub_row (R : List (List Int)) (i : Nat) (cs : List Nat) : (Sg.zs cs).map (fun y => Dt.at_ R i y.toNat) = cs.map fun j => Dt.at_ R i j := by
  unfold Sg.zs
  rw [List.map_map]
  rfl
theorem sub_zs (R : List (List Int)) (rs cs : List Nat) : (Sg.zs rs).map (fun x => (Sg.zs cs).map fun y => Dt.at_ R x.toNat y.toNat) = Bs.sub R rs cs := by
  unfold Bs.sub
  show (Sg.zs rs).map _ = _
  have e : Sg.zs rs = rs.map fun (i : Nat) => (i : Int) := rfl
  rw [e, List.map_map]
  refine List.map_congr_left fun i _ => ?_
  exact sub_row R i cs
def sp__law_bad (K : PySem.W.Frag) : Sp := fun vs H Q _ => ∃ (p : Addr) (as : List Addr) (R : List (List Int)) (m wd : Nat), vs = [.ref p] ∧ TabOk H p as R m wd ∧ (∀ r ∈ R, ∀ y ∈ r, Bd 100 y) ∧ m ≤ 5 ∧ wd ≤ 5 ∧ ∀ v H', Ex H H' → BadAt R H H' v (Bs.bad R m wd) → Q v H'

theorem ok__law_bad (T : Txt K mg) : FnOk P w K mg base CX0 8 T.f__law_bad T.fd__law_bad ["_law_grid"] (sp__law_bad K) := by
  refine Fun.ok T.F__law_bad sc__law_bad (fun vs H Q E h => ?_) (fun cdv A outer s H vs Q E hr h => ?_)
  · obtain ⟨_, _, _, _, _, rfl, _⟩ := h; rfl
  · refine ⟨_, (pss_cons (ps_for PassesOwn.never rfl (pi_range2 (by rfl) T.n_range (pa_cons pe_int (pa_cons (pe_op op_add (pe_callB (call_min2 rfl) (by rfl) T.n_min (by decide +kernel) (pa_cons (pe_callB (id := "len") (r := rLenS K) call_len_seq (by rfl) T.n_len PySem.boot_len (pa_cons (pv 0) pa_nil)) (pa_cons (pe_callB (id := "len") (r := rLenS K) call_len_seq (by rfl) T.n_len PySem.boot_len (pa_cons (pe_ix (r := rIxL K) ix_list (pv 0) pe_int (fun _ _ => rfl)) pa_nil)) pa_nil))) pe_int) pa_nil))) (pg_name (i := 1) sc__law_bad.nd rfl (by first | exact Or.inl rfl | exact Or.inr rfl))
        (pss_one (ps_for PassesOwn.never rfl (pi_list (pe_call (ok__law_picks T) hr (by rfl) T.g__law_picks T.k__law_picks T.b__law_picks .nil pass0 (pa_cons (pe_callB (id := "len") (r := rLenS K) call_len_seq (by rfl) T.n_len PySem.boot_len (pa_cons (pv 0) pa_nil)) (pa_cons (pv 1) pa_nil)))) (pg_name (i := 2) sc__law_bad.nd rfl (by first | exact Or.inl rfl | exact Or.inr rfl))
            (pss_one (ps_for PassesOwn.never rfl (pi_list (pe_call (ok__law_picks T) hr (by rfl) T.g__law_picks T.k__law_picks T.b__law_picks .nil pass0 (pa_cons (pe_callB (id := "len") (r := rLenS K) call_len_seq (by rfl) T.n_len PySem.boot_len (pa_cons (pe_ix (r := rIxL K) ix_list (pv 0) pe_int (fun _ _ => rfl)) pa_nil)) (pa_cons (pv 1) pa_nil)))) (pg_name (i := 3) sc__law_bad.nd rfl (by first | exact Or.inl rfl | exact Or.inr rfl))
                (pss_cons (ps_set (i := 4) sc__law_bad.nd rfl (by first | exact Or.inl rfl | exact Or.inr rfl) (pe_call (ok__law_expanded T) hr (by rfl) T.g__law_expanded T.k__law_expanded T.b__law_expanded .nil pass0 (pa_cons (pe_lc (own := [("_law_i", 5)]) (wi := iList K _) (g := gName 5) (tt := tYes) rfl sc__law_bad.nd (pi_list (pv 2)) (blkOk_by (N := ["_law_grid", "_law_size", "_law_rows", "_law_columns", "_law_worth", "_law_i", "_law_j"]) (sc := (defScope s__law_bad)) (by decide +kernel)) (fun _ _ _ _ _ => pg_name (i := 5) sc__law_bad.nd rfl (Or.inr rfl)) (fun _ _ _ _ _ => pts_nil) (fun _ _ _ _ _ => (pe_lc (own := [("_law_j", 6)]) (wi := iList K _) (g := gName 6) (tt := tYes) rfl sc__law_bad.nd (pi_list (pv 3)) (blkOk_by (N := ["_law_grid", "_law_size", "_law_rows", "_law_columns", "_law_worth", "_law_i", "_law_j"]) (sc := (relS ({ kind := .function, names := [(".0", .local), ("_law_i", .cell), ("_law_columns", .free), ("_law_grid", .free)], isGenerator := false, isCoroutine := false } : Scope) (defScope s__law_bad))) (by decide +kernel)) (fun _ _ _ _ _ => pg_name (i := 6) sc__law_bad.nd rfl (Or.inl rfl)) (fun _ _ _ _ _ => pts_nil) (fun _ _ _ _ _ => (pe_ix (r := rIxL K) ix_list (pe_ix (r := rIxL K) ix_list (pv 0) (pv 5) (fun _ _ => rfl)) (pv 6) (fun _ _ => rfl)))))) pa_nil)))
                  (pss_one (ps_if (pt_cmpR (r := rIn K true) op_notIn_seq (pv 4) (pe_tup (pa_cons (pe_un un_neg pe_int) (pa_cons pe_int (pa_cons pe_int pa_nil)))) (by rfl))
                    (pss_one (ps_ret (pe_tup (pa_cons (pv 2) (pa_cons (pv 3) (pa_cons (pv 4) pa_nil))))))
                    pss_nil))))))))
      (pss_one (ps_ret pe_non))), ?_⟩
    obtain ⟨p, as, R, m, wd, rfl, hT, hb, m5, w5, k⟩ := h
    have hdm := hT.b
    obtain ⟨a0, r0, _, _, hh0, hl0, at0⟩ := hT.row0
    have lenT : ∀ {σ : L2.St} {G : Hp}, σ[0]? = some (some (.ref p)) → Ex H G → Ev (tCB (rLenS K) (tCons (tVar 0) tNil)) σ G (.int (m : Int)) := fun hσ e => ev_is (ev_len (ev_var hσ) (SqL.of (e _ _ hT.tab.1))) (by rw [List.length_map, hT.al])
    have lenR : ∀ {σ : L2.St} {G : Hp}, σ[0]? = some (some (.ref p)) → Ex H G → Ev (tCB (rLenS K) (tCons (tOp (rIxL K) (tVar 0) (tC (.int 0))) tNil)) σ G (.int (wd : Int)) := fun hσ e => ev_is (ev_len (ev_op (ev_var hσ) ev_c (rv_ixL (SqL.of (e _ _ hT.tab.1)) at0)) (SqL.of (e _ _ hh0))) (by rw [List.length_map, hl0])
    refine q_forR2 (lo := 1) (n := ((min m wd : Nat) : Int) + 1) (ea_cons ev_c (ea_cons (ev_op (ev_is (ev_min2 (lenT rfl (Ex.refl _)) (lenR rfl (Ex.refl _))) ?_) ev_c rv_I0) ea_nil)) (by omega)
      (fun s σ' H' => ∃ (y1 y2 y3 y4 : Option V), σ' = [some (.ref p), y1, y2, y3, y4, none, none] ∧ Ex H H' ∧ (∀ x ∈ Bs.sqs m wd s, Bs.isBad (Bs.val R x.1 x.2) = false)) (fun H3 e3 => ⟨_, _, _, _, rfl, e3, fun x hx => (nomatch hx)⟩) (fun s σ' H3 hs hP => ?_) (fun σ' H3 hP => ?_)
    · exact congrArg V.int (by split <;> omega)
    rotate_left
    · obtain ⟨y1, y2, y3, y4, rfl, e3, hno⟩ := hP
      have en : (((min m wd : Nat) : Int) + 1 - 1).toNat = min m wd := by omega
      rw [en] at hno
      refine s_ret (v := .non) ev_c fun H4 e4 => k _ H4 (e3.trans e4) ?_
      have hn : Bs.bad R m wd = none := List.find?_eq_none.mpr fun x hx => by rw [hno x hx]; exact Bool.false_ne_true
      rw [hn]
      rfl
    obtain ⟨y1, y2, y3, y4, rfl, e3, hno⟩ := hP
    have hsm : s + 1 ≤ min m wd := by omega
    have esz : V.int ((1 : Int) + (s : Int)) = .int ((s + 1 : Nat) : Int) := congrArg V.int (by push_cast; omega)
    refine for_call2 (σ := [some (.ref p), some (.int (1 + (s : Int))), y2, y3, y4, none, none]) ?_
    refine lenT rfl e3 H3 (Ex.refl _) _ fun H4a e4a => (ev_is (ev_var (i := 1) rfl) esz) H4a (Ex.refl _) _ fun H4 e4b => ?_
    have e4 := e4a.trans e4b
    have e04 := e3.trans e4
    refine ⟨m, s + 1, rfl, by omega, by omega, fun D1 bs1 H5 e5 hP1 => ?_⟩
    have e05 := e04.trans e5
    refine ⟨D1, rfl, ⟨_, SqL.of hP1.d⟩, for_list (K := K) (a := D1) (xs := bs1.map V.ref) (fun i σ' H' => ∃ (y2 y3 y4 : Option V), σ' = [some (.ref p), some (.int (1 + (s : Int))), y2, y3, y4, none, none] ∧ Ex H5 H' ∧ (∀ x ∈ Bs.upto m wd (s + 1) i 0, Bs.isBad (Bs.val R x.1 x.2) = false)) ⟨_, _, _, rfl, Ex.refl _, fun x hx => (by rw [Bs.upto_zero] at hx; exact nomatch hx)⟩ (fun i σ' H' _ ⟨_, _, _, _, e, _⟩ => SqL.of (e _ _ hP1.d)) (fun i x σ' H6 hx hP => ?_) (fun σ' H6 hP => ?_)⟩
    rotate_left
    · obtain ⟨y2, y3, y4, rfl, e6, hno2⟩ := hP
      have bl : (bs1.map V.ref).length = (Cb.all m (s + 1)).length := by rw [List.length_map, Paired.length hP1.r, List.length_map]
      rw [bl, Bs.upto_all] at hno2
      refine ⟨_, _, _, _, rfl, e05.trans e6, fun x hx => ?_⟩
      rw [Bs.sqs_succ] at hx
      rcases List.mem_append.mp hx with h | h
      · exact hno x h
      · exact hno2 x h
    obtain ⟨y2, y3, y4, rfl, e6, hno2⟩ := hP
    rw [List.getElem?_map] at hx
    obtain ⟨b1, hb1, rfl⟩ := Option.map_eq_some_iff.mp hx
    obtain ⟨zr, hzr, hbz⟩ := paired_get hP1.r hb1
    rw [List.getElem?_map] at hzr
    obtain ⟨rs, hrs, rfl⟩ := Option.map_eq_some_iff.mp hzr
    obtain ⟨hr1, hr2, hr3⟩ := Cb.mem_all.mp (List.mem_of_getElem? hrs)
    have e06 := e05.trans e6
    refine for_call2 (σ := [some (.ref p), some (.int (1 + (s : Int))), some (.ref b1), y3, y4, none, none]) ?_
    refine lenR rfl e06 H6 (Ex.refl _) _ fun H7a e7a => (ev_is (ev_var (i := 1) rfl) esz) H7a (Ex.refl _) _ fun H7 e7b => ?_
    have e7 := e7a.trans e7b
    refine ⟨wd, s + 1, rfl, by omega, by omega, fun D2 bs2 H8 e8 hP2 => ?_⟩
    have e68 := e7.trans e8
    have e08 := e06.trans e68
    refine ⟨D2, rfl, ⟨_, SqL.of hP2.d⟩, for_list (K := K) (a := D2) (xs := bs2.map V.ref) (fun j σ' H' => ∃ (y3 y4 : Option V), σ' = [some (.ref p), some (.int (1 + (s : Int))), some (.ref b1), y3, y4, none, none] ∧ Ex H8 H' ∧ (∀ x ∈ Bs.upto m wd (s + 1) i j, Bs.isBad (Bs.val R x.1 x.2) = false)) ⟨_, _, rfl, Ex.refl _, hno2⟩ (fun j σ' H' _ ⟨_, _, _, e, _⟩ => SqL.of (e _ _ hP2.d)) (fun j x σ' H9 hx2 hP => ?_) (fun σ' H9 hP => ?_)⟩
    rotate_left
    · obtain ⟨y3, y4, rfl, e9, hno3⟩ := hP
      have bl : (bs2.map V.ref).length = (Cb.all wd (s + 1)).length := by rw [List.length_map, Paired.length hP2.r, List.length_map]
      rw [bl, Bs.upto_full (List.getElem?_eq_some_iff.mp hrs).1] at hno3
      exact ⟨_, _, _, rfl, e6.trans (e68.trans e9), hno3⟩
    obtain ⟨y3, y4, rfl, e9, hno3⟩ := hP
    rw [List.getElem?_map] at hx2
    obtain ⟨b2, hb2, rfl⟩ := Option.map_eq_some_iff.mp hx2
    obtain ⟨zc, hzc, hbc⟩ := paired_get hP2.r hb2
    rw [List.getElem?_map] at hzc
    obtain ⟨cs, hcs, rfl⟩ := Option.map_eq_some_iff.mp hzc
    obtain ⟨hc1, hc2, hc3⟩ := Cb.mem_all.mp (List.mem_of_getElem? hcs)
    have e09 := e08.trans e9
    have hr9 := (e6.trans (e68.trans e9)) _ _ hbz
    have hc9 := e9 _ _ hbc
    have zl : ∀ ns : List Nat, (Sg.zs ns).length = ns.length := fun ns => by unfold Sg.zs; rw [List.length_map]
    -- the square
    refine seq_call1 (σ := [some (.ref p), some (.int (1 + (s : Int))), some (.ref b1), some (.ref b2), y4, none, none]) ?_
    refine lc_rowsL (K := K) (nn := 2) (ys := Sg.zs rs) (F := fun x => (Sg.zs cs).map fun y => Dt.at_ R x.toNat y.toNat) (σ := [some (.ref p), some (.int (1 + (s : Int))), some (.ref b1), some (.ref b2), y4, none, none]) (vs := [5]) (j := 5) rfl hr9 (by rw [zl]; omega) (fun u => rfl) (fun x H10 hx e10 => ?_) (fun q qs H10 nq nqs _ _ e10 hq => ?_)
    · unfold Sg.zs at hx
      obtain ⟨ir, hir, rfl⟩ := List.mem_map.mp hx
      have him := hr3 ir hir
      obtain ⟨ai, ri, ati, hri, hhi, hli⟩ : ∃ a r, atI (as.map V.ref) (ir : Int) = some (.ref a) ∧ R[ir]? = some r ∧ H a = some (.lst (r.map V.int)) ∧ r.length = wd := by
        obtain ⟨a, r, h1, h2, h3, h4⟩ := hT.row (i := (ir : Int)) (by omega) (by omega)
        rw [Int.toNat_natCast] at h2
        exact ⟨a, r, h1, h2, h3, h4⟩
      refine el_mapI (K := K) (n := 3) (j := 6) (vs := [6]) (fun y => Dt.at_ R (ir : Int).toNat y.toNat) rfl (e10 _ _ hc9) (by rw [zl]; omega) (fun u => rfl) fun y H11 hy e11 => ?_
      unfold Sg.zs at hy
      obtain ⟨jc, hjc, rfl⟩ := List.mem_map.mp hy
      have hjw := hc3 jc hjc
      have e011 := e09.trans (e10.trans e11)
      rw [Int.toNat_natCast, Int.toNat_natCast]
      have ent : Dt.at_ R ir jc = ri[jc]?.getD 0 := by
        show (R[ir]?.getD [])[jc]?.getD 0 = _
        rw [hri]
        rfl
      rw [ent]
      exact ev_op (ev_op (ev_var (i := 0) rfl) (ev_var (i := 5) rfl) (rv_ixL (SqL.of (e011 _ _ hT.tab.1)) ati)) (ev_var (i := 6) rfl) (rv_ixL (SqL.of (e011 _ _ hhi)) (atI_row (by omega)))
    rw [sub_zs] at hq
    have hsq := Bs.sub_sq R (rows := rs) (cols := cs) (by omega)
    have okq : TabOk H10 q qs (Bs.sub R rs cs) (s + 1) (s + 1) := ⟨hq, by rw [hsq.1, hr1], fun r hr => by rw [hsq.2 r hr, hr1], by omega, by omega, by omega, by omega⟩
    refine ⟨q, qs, _, s + 1, 100, rfl, okq, by omega, by omega, fun r hr y hy => ?_, fun dv H11 hdv hbd e11 => ?_⟩
    · unfold Bs.sub at hr
      obtain ⟨ir, hir, rfl⟩ := List.mem_map.mp hr
      obtain ⟨jc, hjc, rfl⟩ := List.mem_map.mp hy
      obtain ⟨a, ri, h1, h2, h3, h4⟩ := hT.row (i := (ir : Int)) (by omega) (by have := hr3 ir hir; omega)
      rw [Int.toNat_natCast] at h2
      show Bd 100 ((R[ir]?.getD [])[jc]?.getD 0)
      rw [h2]
      show Bd 100 (ri[jc]?.getD 0)
      have := hc3 jc hjc
      rw [List.getElem?_eq_getElem (show jc < ri.length by omega)]
      exact hb ri (List.mem_of_getElem? h2) _ (List.getElem_mem _)
    have hval : dv = Bs.val R rs cs := by
      refine Rat.intCast_inj.mp ?_
      rw [hdv, Bs.val_eq R (by omega), hr1]
    subst hval
    dsimp only
    refine s_when (b := Bs.isBad (Bs.val R rs cs)) (et_is (et_test (ev_niU (ev_var (i := 4) rfl) (eu_tup (ea_cons (ev_un (x := .int 1) ev_c ru_neg) (ea_cons ev_c (ea_cons ev_c ea_nil))) (Nat.le_of_ble_eq_true rfl)) rfl rfl)) (not_in3 _)) (fun z H12 e12 => ?_) (fun z H12 e12 => ⟨_, _, rfl, e9.trans (e10.trans (e11.trans e12)), fun x hx => ?_⟩)
    rotate_left
    · rw [Bs.upto_succ hrs hcs] at hx
      rcases List.mem_append.mp hx with h | h
      · exact hno3 x h
      · rw [List.mem_singleton.mp h]
        exact z
    have e912 := e10.trans (e11.trans e12)
    refine s_retU (eu_tup (ea_cons (ev_var (i := 2) rfl) (ea_cons (ev_var (i := 3) rfl) (ea_cons (ev_var (i := 4) rfl) ea_nil))) (Nat.le_of_ble_eq_true rfl)) fun t H13 nt e13 ht => k _ H13 (e09.trans (e912.trans e13)) ?_
    have hbad : Bs.bad R m wd = some (rs, cs) := by
      obtain ⟨B1, hB1⟩ := Bs.sqs_split (m := m) (w := wd) (n := min m wd) (s := s) (by omega)
      obtain ⟨B2, hB2⟩ := Bs.sq_split hrs hcs
      unfold Bs.bad
      rw [hB1, hB2]
      have e : Bs.sqs m wd s ++ (Bs.upto m wd (s + 1) i j ++ (rs, cs) :: B2 ++ B1) = (Bs.sqs m wd s ++ Bs.upto m wd (s + 1) i j) ++ (rs, cs) :: (B2 ++ B1) := by simp [List.append_assoc]
      rw [e]
      refine Bs.find_split (fun y hy => ?_) z
      rcases List.mem_append.mp hy with h | h
      · exact hno y h
      · exact hno3 y h
    rw [hbad]
    have f913 := e912.trans e13
    refine ⟨t, b1, b2, rfl, ht, f913 _ _ hr9, f913 _ _ hc9, fresh_back e04 (hP1.a0 b1 (List.mem_of_getElem? hb1)), fresh_back (e06.trans e7) (hP2.a0 b2 (List.mem_of_getElem? hb2)), fun z => ?_⟩
    have h1 := (e6.trans e7) _ _ hbz
    rw [z, hP2.a0 b2 (List.mem_of_getElem? hb2)] at h1
    cases h1
-- DEF law
def gPm (pm : List Nat) (n m : Nat) {α : Type} (us ws : List α) : List α := if us.length = n ∧ ws.length = m then pm.filterMap fun i => (us ++ ws)[i]? else []
theorem vals_at {vs : List V} {us : List Value} (h : Vals vs us) : ∀ pm : List Nat, Vals (pm.filterMap fun i => vs[i]?) (pm.filterMap fun i => us[i]?) := by
  intro pm
  induction pm with
  | nil => exact .nil
  | cons i pm ih =>
    cases e1 : vs[i]? with
    | none =>
      rw [List.filterMap_cons_none e1, List.filterMap_cons_none (h.none_of e1)]
      exact ih
    | some v =>
      obtain ⟨u, e2, r⟩ := h.get e1
      rw [List.filterMap_cons_some e1, List.filterMap_cons_some e2]
      exact .cons r ih
theorem kb_of {K : PySem.W.Frag} {x qual : Str} {st : Stmt} {f : Addr} {fd : FuncData} {ps ks : List Str} (pm : List Nat) (n m : Nat) (hp : ps ≠ []) (F : Fun K x qual st f fd)
    (h : ∀ (kV doc pm' : Value) (an : Option Addr) (cdv ct : Value) (us ws : List Value), us.length = n → ws.length = m → bindArgs (PySem.W.fnOf x qual (defArgs st) (defBody st) (defScope st) .none kV doc pm' an cdv ct) ⟨us, ks.zip ws⟩ = pure (ps.zip (gPm pm n m us ws))) : KBinds K fd ps ks (gPm pm n m) (gPm pm n m) := by
  obtain ⟨oc, od, kV, doc, pm', an, cdv, ct, osl, rfl, lk, hcd⟩ := F.ex
  refine ⟨fun s us ws _ hl => ?_, fun {vs us zs ws} r rz => ?_⟩
  · by_cases c : us.length = n ∧ ws.length = m
    · exact BindsTo.of_eq (h kV doc pm' an cdv ct us ws c.1 c.2)
    · unfold gPm at hl
      rw [if_neg c] at hl
      exact absurd (List.length_eq_zero_iff.mp hl.symm) hp
  · unfold gPm
    rw [r.length, rz.length]
    split
    · exact vals_at (r.append rz) pm
    · exact .nil
section
variable {X : Cx} {CX : CXT} {k : Nat} {f : Addr} {fd : FuncData} {ps ks : List Str} {sp : Sp} {E : XK} {x : Str} {p pos : Pos} {kws : List Keyword} {tk : TA} {g : List Value → List Value → List Value} {gV : List V → List V → List V}
theorem pe_callK0 (F : FnOk X.prog X.w X.K X.mg X.base CX k f fd ps sp) (hr : Room k X.A) (hg : Gl X x) (hm : X.mg x = some (.ref f)) (hk : PySem.W.keepIn X.K (.ref f) = true) (hb : KBinds X.K fd ps ks g gV) (hx : Passes CX X E)
    (hkw : PK X kws tk) (hall : (backToKw pos (keywordEach kws X.env)).all (·.1.isSome) = true := by rfl) (hks : (backToKw pos (keywordEach kws X.env)).filterMap (·.1) = ks := by rfl)
    (hdb : (x == ("__debug__" : Str)) = false := by decide)
    (hpl : ((backTo pos (starEach [] X.env)).any (·.1) || (backToKw pos (keywordEach kws X.env)).any (·.1.isNone)) = false := by rfl) :
    PE X (.Call (.Name x p) [] kws pos) (tCallK sp gV E tNil tk) := by
  refine ⟨fun pins s σ H Q I h => ?_⟩
  refine wpAny_Call_Name_kw (ld_glob I hg hm ?_ hdb)
  refine PySem.W.callWith_KW0 (h₀ := X.base) I.ok.mod.kin hk hall ?_ hpl
  refine thn (hkw.run pos pins s σ H _ I h) fun ws s2 ⟨zs, H2, I2, rz, q2⟩ => ⟨I2.kIn, ?_⟩
  rw [hks]
  exact run_fnk (us := []) (vs := []) F hr hb hx I2 .nil rz q2
end
section
variable {K : PySem.W.Frag} {H H' : Hp}
mutual
theorem dpx (e : Ex H H') : ∀ {v : V} {d : PyData}, Dp K H v d → Dp K H' v d
  | _, _, .non => .non
  | _, _, .bl b => .bl b
  | _, _, .int i => .int i
  | _, _, .str x => .str x
  | _, _, .lst a b => .lst (ex_l e a) (dpxs e b)
  | _, _, .tup a b => .tup (ex_t e a) (dpxs e b)
theorem dpxs (e : Ex H H') : ∀ {vs : List V} {ds : List PyData}, DpAll K H vs ds → DpAll K H' vs ds
  | _, _, .nil => .nil
  | _, _, .cons a b => .cons (dpx e a) (dpxs e b)
end
end
theorem rv_neX {K : PySem.W.Frag} {H : Hp} {v u : V} {d : PyData} (h1 : Dp K H v d) (h2 : Dp K H u d) (sh : SeqAt.shaped d = true) : RV (rNeD K) v u H (.bl false) := fun G e Q k => by
  refine ⟨_, _, dpx e h1, dpx e h2, sh, sh, ?_⟩
  rw [SeqAt.eqv_refl _ (SeqAt.canLay_of_shaped sh)]
  exact k G (Ex.refl _)
def tabD (A : List (List Int)) : PyData := .list (A.map fun r => .list (r.map .int))
theorem shaped_ints (s : List Int) : SeqAt.shaped (.list (s.map .int)) = true := shaped_list (canLay_ints s) (by rw [depth_ints]; decide)
theorem tab_dp {K : PySem.W.Frag} {H : Hp} {p : Addr} {as : List Addr} {A : List (List Int)} (h : Tab H p as A) : Dp K H (.ref p) (tabD A) := .lst (SqL.of h.1) (dp_rows h.2)

theorem bd100 {y : Int} (h : y.natAbs ≤ 10 ^ 30) : Bd 100 y := by
  unfold Bd
  exact Nat.lt_of_le_of_lt h (by decide +kernel)
def badD (R : List (List Int)) : Option (List Nat × List Nat) → PyData
  | none => .none
  | some x => .tuple [.list ((Sg.zs x.1).map .int), .list ((Sg.zs x.2).map .int), .int (Bs.val R x.1 x.2)]
theorem bad_dp {K : PySem.W.Frag} {R : List (List Int)} {H0 H : Hp} {v : V} {o : Option (List Nat × List Nat)} (h : BadAt R H0 H v o) : Dp K H v (badD R o) := by
  cases o with
  | none =>
    have h : v = .non := h
    rw [h]
    exact .non
  | some x =>
    obtain ⟨t, a, b, rfl, h1, h2, h3, _⟩ := h
    exact .tup (SqT.of h1) (.cons (.lst (SqL.of h2) (dpAll_ints _)) (.cons (.lst (SqL.of h3) (dpAll_ints _)) (.cons (.int _) .nil)))
theorem bad_shaped (R : List (List Int)) (o : Option (List Nat × List Nat)) : SeqAt.shaped (badD R o) = true := by
  cases o with
  | none => rfl
  | some x =>
    have h1 := canLay_ints (Sg.zs x.1)
    have h2 := canLay_ints (Sg.zs x.2)
    have d1 := depth_ints (Sg.zs x.1)
    have d2 := depth_ints (Sg.zs x.2)
    unfold SeqAt.shaped
    have e1 : (badD R (some x)).canLay0 = true := by
      show (PyData.canLayAll0 ((Sg.zs x.1).map PyData.int) && (PyData.canLayAll0 ((Sg.zs x.2).map PyData.int) && (true && true))) = true
      rw [h1, h2]
      rfl
    have e2 : (badD R (some x)).depth ≤ 64 := by
      show max (PyData.depthAll ((Sg.zs x.1).map PyData.int) + 1) (max (PyData.depthAll ((Sg.zs x.2).map PyData.int) + 1) (max 0 0)) + 1 ≤ 64
      rw [d1, d2]
      decide
    rw [e1, decide_eq_true e2]
    rfl
theorem BadAt.ex {R : List (List Int)} {H0 H H' : Hp} {v : V} {o : Option (List Nat × List Nat)} (h : BadAt R H0 H v o) (e : Ex H H') : BadAt R H0 H' v o := by
  cases o with
  | none => exact h
  | some x =>
    obtain ⟨t, a, b, h0, h1, h2, h3, h4⟩ := h
    exact ⟨t, a, b, h0, e _ _ h1, e _ _ h2, e _ _ h3, h4⟩
theorem tab_mut {H : Hp} {p a : Addr} {as : List Addr} {rows : List (List Int)} {o : HO} (h : Tab H p as rows) (h1 : a ≠ p) (h2 : a ∉ as) : Tab (upd H a o) p as rows := by
  refine ⟨by rw [upd_ne h1.symm]; exact h.1, ?_⟩
  have : ∀ {as : List Addr} {rows : List (List Int)}, RowsAt H as rows → a ∉ as → RowsAt (upd H a o) as rows := by
    intro as
    induction as with
    | nil => intro rows h _; cases h; exact .nil
    | cons b bs ih =>
      intro rows h hn
      cases h with
      | cons h1 h2 => exact .cons (by rw [upd_ne fun z => hn (by rw [z]; exact List.mem_cons_self ..)]; exact h1) (ih h2 fun z => hn (List.mem_cons_of_mem _ z))
  exact this h.2 h2
def sp_law (K : PySem.W.Frag) : Sp := fun vs H Q _ => ∃ (a : Addr) (ns : List Int), vs = [.ref a] ∧ SqL K H a (ns.map V.int) ∧ ns.length ≤ 63 ∧ ∀ H', Q (.bl true) H'

theorem ok_law (T : Txt K mg) : FnOk P w K mg base CX0 9 T.f_law T.fd_law ["_law_script"] (sp_law K) := by
  refine Fun.ok T.F_law sc_law (fun vs H Q E h => ?_) (fun cdv A outer s H vs Q E hr h => ?_)
  · obtain ⟨_, _, rfl, _⟩ := h; rfl
  · refine ⟨_, (pss_cons (ps_for PassesOwn.never rfl (pi_list (pe_op op_cat (pe_lst (pa_cons (pe_call (ok__law_cell_at T) (hr.mono (by decide)) (by rfl) T.g__law_cell_at T.k__law_cell_at T.b__law_cell_at .nil pass0 (pa_cons (pv 0) (pa_cons pe_int pa_nil))) pa_nil)) (pe_slice (r := rSlL K) sl_list (pv 0) (po_some pe_int) (po_some pe_int)))) (pg_name (i := 1) sc_law.nd rfl (by first | exact Or.inl rfl | exact Or.inr rfl))
        (pss_cons (ps_set (i := 2) sc_law.nd rfl (by first | exact Or.inl rfl | exact Or.inr rfl) (pe_call (ok__law_source_of T) (hr.mono (by decide)) (by rfl) T.g__law_source_of T.k__law_source_of T.b__law_source_of .nil pass0 (pa_cons (pv 1) pa_nil)))
          (pss_cons (ps_set (i := 3) sc_law.nd rfl (by first | exact Or.inl rfl | exact Or.inr rfl) (pe_call (ok__law_table T) (hr.mono (by decide)) (by rfl) T.g__law_table T.k__law_table T.b__law_table .nil pass0 (pa_cons (pv 2) (pa_cons pe_int pa_nil))))
          (pss_cut (ps_setLc (i := 4) (own := [("_law_row", 7)]) (wi := iList K _) (g := gName 7) (tt := tYes) rfl sc_law.nd rfl rfl (sw_true rfl rfl rfl (by decide +kernel)) (pi_list (pv 3)) (blkOk_by (N := ["_law_script", "_law_cell", "_law_source", "_law_grid", "_law_copy", "_law_due", "_law_heard", "_law_row"]) (sc := (defScope s_law)) (by decide +kernel)) (fun _ _ _ _ _ => pg_name (i := 7) sc_law.nd rfl (Or.inl rfl)) (fun _ _ _ _ _ => pts_nil) (fun _ _ _ _ _ => (pe_callTy (T := "list") (r := rListS K) call_list_of (by rfl) T.n_list (by decide +kernel) (pa_cons (pv 7) pa_nil))))
          (pss_cons (ps_set (i := 5) sc_law.nd rfl (by first | exact Or.inl rfl | exact Or.inr rfl) (pe_call (ok__law_bad T) hr (by rfl) T.g__law_bad T.k__law_bad T.b__law_bad .nil pass0 (pa_cons (pv 3) pa_nil)))
          (pss_cons (ps_set (i := 6) sc_law.nd rfl (by first | exact Or.inl rfl | exact Or.inr rfl) (pe_call (ok_bad_square T) (hr.mono (by decide)) (by rfl) T.g_bad_square T.k_bad_square T.b_bad_square .nil pass0 (pa_cons (pv 3) pa_nil)))
          (pss_cons (ps_if (PW.pt (pw_or (pt_cmpR (r := rNeD K) (op_neD hr.units) (pv 6) (pv 5) (nomark _)) (pw_or1 (PW.pt (pw_and (pt_cmpR op_notN (pv 5) pe_non (nomark _)) (pw_and1 (pt_not (pt_val (pe_callB (id := "isinstance") (r := rIsi K) call_isi (by rfl) T.n_isinstance (by decide +kernel) (pa_cons (pv 6) (pa_cons (pe_bltn (v := .ty "tuple") (by rfl) T.n_tuple (by decide +kernel) rfl) pa_nil)))))))))))
            (pss_one (ps_ret pe_bl))
            pss_nil)
          (pss_cut (ps_if (pt_cmpR op_notN (pv 5) pe_non (nomark _))
            (pss_cons (ps_expr (pe_bm PySem.F.plainAttrs_list PySem.F.slot_list_append PySem.F.type_list_append mt_append (pe_ix (r := rIxT K) ix_tup (pv 6) pe_int (fun _ _ => rfl)) (pa_cons pe_int pa_nil)))
              (pss_one (ps_expr (pe_bm0 PySem.F.plainAttrs_list PySem.F.slot_list_clear PySem.F.type_list_clear mt_clear (pe_ix (r := rIxT K) ix_tup (pv 6) pe_int (fun _ _ => rfl))))))
            pss_nil)
          (pss_one (ps_if (PW.pt (pw_or (pt_cmpR (r := rNeD K) (op_neD hr.units) (pe_callK0 (ok_bad_square T) (hr.mono (by decide)) (by rfl) T.g_bad_square T.k_bad_square (kb_of [0] 0 1 (by simp) T.F_bad_square fun _ _ _ _ _ _ us ws l1 l2 => match us, ws, l1, l2 with | [], [_], _, _ => rfl) pass0 (pk_cons (pv 3) pk_nil)) (pv 5) (nomark _)) (pw_or1 (pt_cmpR (r := rNeD K) (op_neD hr.units) (pv 3) (pv 4) (nomark _)))))
            (pss_one (ps_ret pe_bl))
            pss_nil))))))))))
      (pss_one (ps_ret pe_bl))), ?_⟩
    obtain ⟨a0, ns, rfl, hS, hlen, q⟩ := h
    refine ⟨_, rfl, a0, ns, 0, rfl, hS, by decide, fun c0 => ⟨(by show 1 ≤ sizeLine; decide), fun p0 np0 => ⟨_, rfl, ?_⟩⟩⟩
    have x0 := Ex.new (o := .lst [V.int c0]) np0
    refine ⟨1, rfl, 4, rfl, a0, _, rfl, ex_l x0 hS, fun p1 np1 => ?_⟩
    obtain ⟨ys, hys⟩ := cutV_ints ns (some 1) (some 4)
    have hyl : ys.length ≤ 63 := by
      have h1 := cutV_length (ns.map V.int) (some 1) (some 4)
      rw [hys, List.length_map, List.length_map] at h1
      omega
    rw [hys]
    have x1 := Ex.new (o := .lst (ys.map V.int)) np1
    refine ⟨p0, p1, _, _, rfl, rfl, x1 _ _ upd_same, upd_same, ?_, fun p2 np2 => ?_⟩
    · have : ([V.int c0].length + (ys.map V.int).length) ≤ 1000 := by
        rw [List.length_map]
        show 1 + ys.length ≤ 1000
        omega
      exact Nat.le_trans this (by decide)
    refine ⟨p2, rfl, ⟨_, SqL.of upd_same⟩, for_list (K := K) (a := p2) (xs := [V.int c0] ++ ys.map V.int) (fun i σ H' => ∃ y1 y2 y3 y4 y5 y6 y7 : Option V, σ = [some (.ref a0), y1, y2, y3, y4, y5, y6, y7] ∧ H' p2 = some (.lst ([V.int c0] ++ ys.map V.int)))
      ⟨_, _, _, _, _, _, _, rfl, upd_same⟩ (fun i σ H' _ ⟨_, _, _, _, _, _, _, _, h⟩ => SqL.of h) ?_ (fun σ H' _ => q H')⟩
    rintro i x σ H0 hi ⟨y1, y2, y3, y4, y5, y6, y7, rfl, hp2⟩
    obtain ⟨c, rfl⟩ : ∃ c : Int, x = .int c := by
      rcases List.mem_append.mp (List.mem_of_getElem? hi) with h | h
      · exact ⟨c0, by simpa using h⟩
      · obtain ⟨c, _, rfl⟩ := List.mem_map.mp h
        exact ⟨c, rfl⟩
    generalize p2 = pL at hp2 ⊢
    clear hi x1 x0 hyl hys hS hlen
    -- source, table
    refine ⟨_, rfl, c, rfl, fun s H1 n1 e1 s1 => ?_⟩
    refine ⟨_, rfl, s, 0, 5, rfl, s1, by decide, by decide, by decide, fun as rows g H2 m w hm1 hm8 hw1 hw8 hN hm e2 s2 => ?_⟩
    have E2 : Ex H0 H2 := e2.ex n1 e1
    have hb : ∀ r ∈ rows, ∀ y ∈ r, Bd 100 y := fun r hr y hy => bd100 ((hN.ok r hr).2 y hy)
    have hT : TabOk H2 g as rows m w := ⟨hN.tab, hm, fun r hr => (hN.ok r hr).1, hm1, by omega, hw1, by omega⟩
    have hp2' := E2 _ _ hp2
    clear s2 e2 hN E2 s1 e1 n1 hp2
    -- copy
    refine ⟨fun σ' H' => ∃ cp cs, σ' = [some (.ref a0), some (.int c), some (.ref s), some (.ref g), some (.ref cp), y5, y6, y7] ∧ Ex H2 H' ∧ Tab H' cp cs rows, ?_, ?_⟩
    · refine lc_rowsT (K := K) (nn := 3) (as0 := as) (rows := rows) (F := fun r => r) rfl hT.tab (by omega) (fun u => rfl) (fun a r H4 hr ha e4 H5 e5 Q1 q1 => ⟨_, rfl, a, _, rfl, .inl (SqL.of ((e4.trans e5) _ _ ha)), fun l nl => q1 l _ nl (Ex.new nl) upd_same⟩) (fun cp cs H4 ncp ncs ndc ncc e4 hc => ?_)
      rw [List.map_id'] at hc
      exact ⟨cp, cs, rfl, e4, hc⟩
    rintro σ' H3 ⟨cp, cs, rfl, e3, hC3⟩
    have hT3 := hT.ex e3
    -- due
    refine ⟨_, rfl, g, as, rows, m, w, rfl, hT3, hb, by omega, by omega, fun vd H4 e4 hvd => ?_⟩
    have hT4 := hT3.ex e4
    have hC4 := hC3.ex e4
    have hp4 := (e3.trans e4) _ _ hp2'
    -- heard
    refine ⟨_, rfl, g, as, rows, m, w, rfl, hT4, hb, fun vh H5 e5 hvh => ?_⟩
    have hvd5 := hvd.ex e5
    have hE : RV (rNeD K) vh vd H5 (.bl false) := rv_neX (bad_dp hvh) (bad_dp hvd5) (bad_shaped _ _)
    refine q_when (σ := [some (.ref a0), some (.int c), some (.ref s), some (.ref g), some (.ref cp), some vd, some vh, y7]) (b := false) (et_is (et_or (et_test (ev_op (ev_var (i := 6) rfl) (ev_var (i := 5) rfl) hE)) fun _ => (?_ : EvT _ _ _ false)) rfl) (fun z => nomatch z) (fun _ H6 e6 => ?_)
    · cases ho : Bs.bad rows m w with
      | none =>
        rw [ho] at hvd
        have hvd : vd = .non := hvd
        subst hvd
        exact et_and (a := false) (b := false) (et_test (ev_op (ev_var (i := 5) rfl) ev_c (fun H11 e11 Q11 q11 => ⟨rfl, q11 H11 (Ex.refl _)⟩))) fun z => nomatch z
      | some x =>
        rw [ho] at hvd hvh
        obtain ⟨t0, _, _, rfl, _⟩ := hvd
        obtain ⟨t1, _, _, rfl, ht1, _⟩ := hvh
        exact et_and (a := true) (b := false) (et_test (ev_op (ev_var (i := 5) rfl) ev_c (fun H11 e11 Q11 q11 => ⟨rfl, q11 H11 (Ex.refl _)⟩))) fun _ => et_is (et_not (et_B (ev_isi (t := "tuple") (b := true) (ev_var (i := 6) rfl) ev_c (fun H1 e => .base (.tup (e _ _ ht1))) (by decide +kernel)))) rfl
    -- what was heard is spoiled
    refine ⟨fun σ' H' => σ' = [some (.ref a0), some (.int c), some (.ref s), some (.ref g), some (.ref cp), some vd, some vh, y7] ∧ Ex H4 H', ?_, ?_⟩
    · cases ho : Bs.bad rows m w with
      | none =>
        rw [ho] at hvd
        have hvd : vd = .non := hvd
        subst hvd
        exact s_when (b := false) (et_test (ev_op (ev_var (i := 5) rfl) ev_c (fun H11 e11 Q11 q11 => ⟨rfl, q11 H11 (Ex.refl _)⟩))) (fun z => nomatch z) fun _ H7 e7 => ⟨rfl, e5.trans (e6.trans e7)⟩
      | some x =>
        rw [ho] at hvd hvh
        obtain ⟨t0, _, _, rfl, _⟩ := hvd
        obtain ⟨t1, a, b, rfl, ht1, ha, hb', na, nb, ab⟩ := hvh
        refine s_when (b := true) (et_test (ev_op (ev_var (i := 5) rfl) ev_c (fun H11 e11 Q11 q11 => ⟨rfl, q11 H11 (Ex.refl _)⟩))) (fun _ H7 e7 => ?_) (fun z => nomatch z)
        have e57 := e6.trans e7
        have at0 : atI [V.ref a, .ref b, .int (Bs.val rows x.1 x.2)] 0 = some (.ref a) := rfl
        have at1 : atI [V.ref a, .ref b, .int (Bs.val rows x.1 x.2)] 1 = some (.ref b) := rfl
        refine (ev_op (ev_var (i := 6) rfl) ev_c (rv_ixT (SqT.of (e57 _ _ ht1)) at0)) H7 (Ex.refl _) _ fun H8 e8 => ⟨.inl ⟨rfl, _, SqL.of ((e57.trans e8) _ _ ha)⟩, ?_⟩
        have e58 := e57.trans e8
        refine ⟨a, _, .int 9, rfl, rfl, e58 _ _ ha, ?_, ?_⟩
        · rw [List.length_map]
          have hl : x.1.length ≤ 8 := by
            obtain ⟨rs, hrs⟩ := List.mem_of_find?_eq_some ho |> fun h => List.mem_flatMap.mp h
            obtain ⟨rs', h2, h3⟩ := List.mem_flatMap.mp hrs.2
            obtain ⟨cs, _, rfl⟩ := List.mem_map.mp h3
            have := List.mem_range.mp hrs.1
            have h4 := (Cb.mem_all.mp h2).1
            show rs'.length ≤ 8
            omega
          show (Sg.zs x.1).length < sizeLine
          unfold Sg.zs
          rw [List.length_map]
          exact Nat.lt_of_le_of_lt hl (by decide)
        have ta : t1 ≠ a := fun z => by
          have h1 := e58 _ _ ht1
          have h2 := e58 _ _ ha
          rw [z, h2] at h1
          cases h1
        have tb : t1 ≠ b := fun z => by
          rw [z, hb'] at ht1
          cases ht1
        have xa : Ex H4 (upd H8 a (.lst ((Sg.zs x.1).map V.int ++ [.int 9]))) := Ex.mut (e5.trans e58) na
        have ht9 : upd H8 a (.lst ((Sg.zs x.1).map V.int ++ [.int 9])) t1 = some (.tup [.ref a, .ref b, .int (Bs.val rows x.1 x.2)]) := by
          rw [upd_ne ta]
          exact e58 _ _ ht1
        have hb9 : upd H8 a (.lst ((Sg.zs x.1).map V.int ++ [.int 9])) b = some (.lst ((Sg.zs x.2).map V.int)) := by
          rw [upd_ne ab.symm]
          exact e58 _ _ hb'
        dsimp only
        generalize upd H8 a (.lst ((Sg.zs x.1).map V.int ++ [.int 9])) = H9 at xa ht9 hb9 ⊢
        refine (ev_op (ev_var (i := 6) rfl) ev_c (rv_ixT (SqT.of ht9) at1)) H9 (Ex.refl _) _ fun H10 e10 => ⟨.inl ⟨rfl, _, SqL.of (e10 _ _ hb9)⟩, ?_⟩
        exact ⟨b, _, rfl, rfl, e10 _ _ hb9, rfl, Ex.mut (xa.trans e10) nb⟩
    rintro σ' H7 ⟨rfl, e7⟩
    have hvd7 := hvd.ex e7
    refine ⟨_, rfl, g, as, rows, m, w, rfl, hT4.ex e7, hb, fun v2 H8 e8 hv2 => ⟨_, rfl, ?_⟩⟩
    refine rv_neX (bad_dp hv2) (bad_dp (hvd7.ex e8)) (bad_shaped _ _) H8 (Ex.refl _) _ fun H9 e9 => ⟨false, rfl, iteF ?_⟩
    have e49 := e7.trans (e8.trans e9)
    refine (et_test (ev_op (ev_var (i := 3) rfl) (ev_var (i := 4) rfl) (rv_neT (hT4.ex e49).tab (hC4.ex e49)))) H9 (Ex.refl _) _ fun H10 e10 => ?_
    exact ⟨_, _, _, _, _, _, _, rfl, (e49.trans e10) _ _ hp4⟩
end
/-! ### what the top has written; the end -/
theorem all_mk {P : Program} {w : World} {K : PySem.W.Frag} {h : Heap} {mg : Str → Option Value} {fa : Addr} (X : K.In h) (G : h.Ns mainGlobals mg) (hfa : mg "law" = some (.ref fa))
    {f1 : Addr} {od1 an1 : Option Addr} {sl1 : Array (Option Value)} {oc1 kV1 dc1 pm1 cd1 ct1 : Value}
    (a1 : PySem.W.nsIn K mainGlobals "is_whole" = some (some (.ref f1))) (l1 : K.lookup f1 = some ⟨oc1, od1, .func (PySem.W.fnOf "is_whole" "is_whole" (defArgs s_is_whole) (defBody s_is_whole) (defScope s_is_whole) (.none) kV1 dc1 pm1 an1 cd1 ct1), sl1⟩) (c1 : PySem.W.codeIn K cd1 "is_whole" = true) (k1 : PySem.W.keepIn K (.ref f1) = true)
    {f2 : Addr} {od2 an2 : Option Addr} {sl2 : Array (Option Value)} {oc2 kV2 dc2 pm2 cd2 ct2 : Value}
    (a2 : PySem.W.nsIn K mainGlobals "is_table" = some (some (.ref f2))) (l2 : K.lookup f2 = some ⟨oc2, od2, .func (PySem.W.fnOf "is_table" "is_table" (defArgs s_is_table) (defBody s_is_table) (defScope s_is_table) (.none) kV2 dc2 pm2 an2 cd2 ct2), sl2⟩) (c2 : PySem.W.codeIn K cd2 "is_table" = true) (k2 : PySem.W.keepIn K (.ref f2) = true)
    {f3 : Addr} {od3 an3 : Option Addr} {sl3 : Array (Option Value)} {oc3 kV3 dc3 pm3 cd3 ct3 : Value}
    (a3 : PySem.W.nsIn K mainGlobals "is_row" = some (some (.ref f3))) (l3 : K.lookup f3 = some ⟨oc3, od3, .func (PySem.W.fnOf "is_row" "is_row" (defArgs s_is_row) (defBody s_is_row) (defScope s_is_row) (.none) kV3 dc3 pm3 an3 cd3 ct3), sl3⟩) (c3 : PySem.W.codeIn K cd3 "is_row" = true) (k3 : PySem.W.keepIn K (.ref f3) = true)
    {f4 : Addr} {od4 an4 : Option Addr} {sl4 : Array (Option Value)} {oc4 kV4 dc4 pm4 cd4 ct4 : Value}
    (a4 : PySem.W.nsIn K mainGlobals "check_table" = some (some (.ref f4))) (l4 : K.lookup f4 = some ⟨oc4, od4, .func (PySem.W.fnOf "check_table" "check_table" (defArgs s_check_table) (defBody s_check_table) (defScope s_check_table) (.none) kV4 dc4 pm4 an4 cd4 ct4), sl4⟩) (c4 : PySem.W.codeIn K cd4 "check_table" = true) (k4 : PySem.W.keepIn K (.ref f4) = true)
    {f5 : Addr} {od5 an5 : Option Addr} {sl5 : Array (Option Value)} {oc5 kV5 dc5 pm5 cd5 ct5 : Value}
    (a5 : PySem.W.nsIn K mainGlobals "shape" = some (some (.ref f5))) (l5 : K.lookup f5 = some ⟨oc5, od5, .func (PySem.W.fnOf "shape" "shape" (defArgs s_shape) (defBody s_shape) (defScope s_shape) (.none) kV5 dc5 pm5 an5 cd5 ct5), sl5⟩) (c5 : PySem.W.codeIn K cd5 "shape" = true) (k5 : PySem.W.keepIn K (.ref f5) = true)
    {f6 : Addr} {od6 an6 : Option Addr} {sl6 : Array (Option Value)} {oc6 kV6 dc6 pm6 cd6 ct6 : Value}
    (a6 : PySem.W.nsIn K mainGlobals "bad_square" = some (some (.ref f6))) (l6 : K.lookup f6 = some ⟨oc6, od6, .func (PySem.W.fnOf "bad_square" "bad_square" (defArgs s_bad_square) (defBody s_bad_square) (defScope s_bad_square) (.none) kV6 dc6 pm6 an6 cd6 ct6), sl6⟩) (c6 : PySem.W.codeIn K cd6 "bad_square" = true) (k6 : PySem.W.keepIn K (.ref f6) = true)
    {f7 : Addr} {od7 an7 : Option Addr} {sl7 : Array (Option Value)} {oc7 kV7 dc7 pm7 cd7 ct7 : Value}
    (a7 : PySem.W.nsIn K mainGlobals "is_bad" = some (some (.ref f7))) (l7 : K.lookup f7 = some ⟨oc7, od7, .func (PySem.W.fnOf "is_bad" "is_bad" (defArgs s_is_bad) (defBody s_is_bad) (defScope s_is_bad) (.none) kV7 dc7 pm7 an7 cd7 ct7), sl7⟩) (c7 : PySem.W.codeIn K cd7 "is_bad" = true) (k7 : PySem.W.keepIn K (.ref f7) = true)
    {f8 : Addr} {od8 an8 : Option Addr} {sl8 : Array (Option Value)} {oc8 kV8 dc8 pm8 cd8 ct8 : Value}
    (a8 : PySem.W.nsIn K mainGlobals "unfolded" = some (some (.ref f8))) (l8 : K.lookup f8 = some ⟨oc8, od8, .func (PySem.W.fnOf "unfolded" "unfolded" (defArgs s_unfolded) (defBody s_unfolded) (defScope s_unfolded) (.none) kV8 dc8 pm8 an8 cd8 ct8), sl8⟩) (c8 : PySem.W.codeIn K cd8 "unfolded" = true) (k8 : PySem.W.keepIn K (.ref f8) = true)
    {f9 : Addr} {od9 an9 : Option Addr} {sl9 : Array (Option Value)} {oc9 kV9 dc9 pm9 cd9 ct9 : Value}
    (a9 : PySem.W.nsIn K mainGlobals "_law_source_of" = some (some (.ref f9))) (l9 : K.lookup f9 = some ⟨oc9, od9, .func (PySem.W.fnOf "_law_source_of" "_law_source_of" (defArgs s__law_source_of) (defBody s__law_source_of) (defScope s__law_source_of) (.none) kV9 dc9 pm9 an9 cd9 ct9), sl9⟩) (c9 : PySem.W.codeIn K cd9 "_law_source_of" = true) (k9 : PySem.W.keepIn K (.ref f9) = true)
    {f10 : Addr} {od10 an10 : Option Addr} {sl10 : Array (Option Value)} {oc10 kV10 dc10 pm10 cd10 ct10 : Value}
    (a10 : PySem.W.nsIn K mainGlobals "_law_next" = some (some (.ref f10))) (l10 : K.lookup f10 = some ⟨oc10, od10, .func (PySem.W.fnOf "_law_next" "_law_next" (defArgs s__law_next) (defBody s__law_next) (defScope s__law_next) (.none) kV10 dc10 pm10 an10 cd10 ct10), sl10⟩) (c10 : PySem.W.codeIn K cd10 "_law_next" = true) (k10 : PySem.W.keepIn K (.ref f10) = true)
    {f11 : Addr} {od11 an11 : Option Addr} {sl11 : Array (Option Value)} {oc11 kV11 dc11 pm11 cd11 ct11 : Value}
    (a11 : PySem.W.nsIn K mainGlobals "_law_one" = some (some (.ref f11))) (l11 : K.lookup f11 = some ⟨oc11, od11, .func (PySem.W.fnOf "_law_one" "_law_one" (defArgs s__law_one) (defBody s__law_one) (defScope s__law_one) (.none) kV11 dc11 pm11 an11 cd11 ct11), sl11⟩) (c11 : PySem.W.codeIn K cd11 "_law_one" = true) (k11 : PySem.W.keepIn K (.ref f11) = true)
    {f12 : Addr} {od12 an12 : Option Addr} {sl12 : Array (Option Value)} {oc12 kV12 dc12 pm12 cd12 ct12 : Value}
    (a12 : PySem.W.nsIn K mainGlobals "_law_cell_at" = some (some (.ref f12))) (l12 : K.lookup f12 = some ⟨oc12, od12, .func (PySem.W.fnOf "_law_cell_at" "_law_cell_at" (defArgs s__law_cell_at) (defBody s__law_cell_at) (defScope s__law_cell_at) (.none) kV12 dc12 pm12 an12 cd12 ct12), sl12⟩) (c12 : PySem.W.codeIn K cd12 "_law_cell_at" = true) (k12 : PySem.W.keepIn K (.ref f12) = true)
    {f13 : Addr} {od13 an13 : Option Addr} {sl13 : Array (Option Value)} {oc13 kV13 dc13 pm13 cd13 ct13 : Value}
    (a13 : PySem.W.nsIn K mainGlobals "_law_mixed" = some (some (.ref f13))) (l13 : K.lookup f13 = some ⟨oc13, od13, .func (PySem.W.fnOf "_law_mixed" "_law_mixed" (defArgs s__law_mixed) (defBody s__law_mixed) (defScope s__law_mixed) (.none) kV13 dc13 pm13 an13 cd13 ct13), sl13⟩) (c13 : PySem.W.codeIn K cd13 "_law_mixed" = true) (k13 : PySem.W.keepIn K (.ref f13) = true)
    {f14 : Addr} {od14 an14 : Option Addr} {sl14 : Array (Option Value)} {oc14 kV14 dc14 pm14 cd14 ct14 : Value}
    (a14 : PySem.W.nsIn K mainGlobals "_law_ends" = some (some (.ref f14))) (l14 : K.lookup f14 = some ⟨oc14, od14, .func (PySem.W.fnOf "_law_ends" "_law_ends" (defArgs s__law_ends) (defBody s__law_ends) (defScope s__law_ends) (.none) kV14 dc14 pm14 an14 cd14 ct14), sl14⟩) (c14 : PySem.W.codeIn K cd14 "_law_ends" = true) (k14 : PySem.W.keepIn K (.ref f14) = true)
    {f15 : Addr} {od15 an15 : Option Addr} {sl15 : Array (Option Value)} {oc15 kV15 dc15 pm15 cd15 ct15 : Value}
    (a15 : PySem.W.nsIn K mainGlobals "_law_net" = some (some (.ref f15))) (l15 : K.lookup f15 = some ⟨oc15, od15, .func (PySem.W.fnOf "_law_net" "_law_net" (defArgs s__law_net) (defBody s__law_net) (defScope s__law_net) (.none) kV15 dc15 pm15 an15 cd15 ct15), sl15⟩) (c15 : PySem.W.codeIn K cd15 "_law_net" = true) (k15 : PySem.W.keepIn K (.ref f15) = true)
    {f16 : Addr} {od16 an16 : Option Addr} {sl16 : Array (Option Value)} {oc16 kV16 dc16 pm16 cd16 ct16 : Value}
    (a16 : PySem.W.nsIn K mainGlobals "_law_net_drawn" = some (some (.ref f16))) (l16 : K.lookup f16 = some ⟨oc16, od16, .func (PySem.W.fnOf "_law_net_drawn" "_law_net_drawn" (defArgs s__law_net_drawn) (defBody s__law_net_drawn) (defScope s__law_net_drawn) (.none) kV16 dc16 pm16 an16 cd16 ct16), sl16⟩) (c16 : PySem.W.codeIn K cd16 "_law_net_drawn" = true) (k16 : PySem.W.keepIn K (.ref f16) = true)
    {f17 : Addr} {od17 an17 : Option Addr} {sl17 : Array (Option Value)} {oc17 kV17 dc17 pm17 cd17 ct17 : Value}
    (a17 : PySem.W.nsIn K mainGlobals "_law_stretches" = some (some (.ref f17))) (l17 : K.lookup f17 = some ⟨oc17, od17, .func (PySem.W.fnOf "_law_stretches" "_law_stretches" (defArgs s__law_stretches) (defBody s__law_stretches) (defScope s__law_stretches) (.none) kV17 dc17 pm17 an17 cd17 ct17), sl17⟩) (c17 : PySem.W.codeIn K cd17 "_law_stretches" = true) (k17 : PySem.W.keepIn K (.ref f17) = true)
    {f18 : Addr} {od18 an18 : Option Addr} {sl18 : Array (Option Value)} {oc18 kV18 dc18 pm18 cd18 ct18 : Value}
    (a18 : PySem.W.nsIn K mainGlobals "_law_swung" = some (some (.ref f18))) (l18 : K.lookup f18 = some ⟨oc18, od18, .func (PySem.W.fnOf "_law_swung" "_law_swung" (defArgs s__law_swung) (defBody s__law_swung) (defScope s__law_swung) (.none) kV18 dc18 pm18 an18 cd18 ct18), sl18⟩) (c18 : PySem.W.codeIn K cd18 "_law_swung" = true) (k18 : PySem.W.keepIn K (.ref f18) = true)
    {f19 : Addr} {od19 an19 : Option Addr} {sl19 : Array (Option Value)} {oc19 kV19 dc19 pm19 cd19 ct19 : Value}
    (a19 : PySem.W.nsIn K mainGlobals "_law_table" = some (some (.ref f19))) (l19 : K.lookup f19 = some ⟨oc19, od19, .func (PySem.W.fnOf "_law_table" "_law_table" (defArgs s__law_table) (defBody s__law_table) (defScope s__law_table) (.none) kV19 dc19 pm19 an19 cd19 ct19), sl19⟩) (c19 : PySem.W.codeIn K cd19 "_law_table" = true) (k19 : PySem.W.keepIn K (.ref f19) = true)
    {f20 : Addr} {od20 an20 : Option Addr} {sl20 : Array (Option Value)} {oc20 kV20 dc20 pm20 cd20 ct20 : Value}
    (a20 : PySem.W.nsIn K mainGlobals "_law_expanded" = some (some (.ref f20))) (l20 : K.lookup f20 = some ⟨oc20, od20, .func (PySem.W.fnOf "_law_expanded" "_law_expanded" (defArgs s__law_expanded) (defBody s__law_expanded) (defScope s__law_expanded) (.none) kV20 dc20 pm20 an20 cd20 ct20), sl20⟩) (c20 : PySem.W.codeIn K cd20 "_law_expanded" = true) (k20 : PySem.W.keepIn K (.ref f20) = true)
    {f21 : Addr} {od21 an21 : Option Addr} {sl21 : Array (Option Value)} {oc21 kV21 dc21 pm21 cd21 ct21 : Value}
    (a21 : PySem.W.nsIn K mainGlobals "_law_picks" = some (some (.ref f21))) (l21 : K.lookup f21 = some ⟨oc21, od21, .func (PySem.W.fnOf "_law_picks" "_law_picks" (defArgs s__law_picks) (defBody s__law_picks) (defScope s__law_picks) (.none) kV21 dc21 pm21 an21 cd21 ct21), sl21⟩) (c21 : PySem.W.codeIn K cd21 "_law_picks" = true) (k21 : PySem.W.keepIn K (.ref f21) = true)
    {f22 : Addr} {od22 an22 : Option Addr} {sl22 : Array (Option Value)} {oc22 kV22 dc22 pm22 cd22 ct22 : Value}
    (a22 : PySem.W.nsIn K mainGlobals "_law_bad" = some (some (.ref f22))) (l22 : K.lookup f22 = some ⟨oc22, od22, .func (PySem.W.fnOf "_law_bad" "_law_bad" (defArgs s__law_bad) (defBody s__law_bad) (defScope s__law_bad) (.none) kV22 dc22 pm22 an22 cd22 ct22), sl22⟩) (c22 : PySem.W.codeIn K cd22 "_law_bad" = true) (k22 : PySem.W.keepIn K (.ref f22) = true)
    {f23 : Addr} {od23 an23 : Option Addr} {sl23 : Array (Option Value)} {oc23 kV23 dc23 pm23 cd23 ct23 : Value}
    (a23 : PySem.W.nsIn K mainGlobals "law" = some (some (.ref f23))) (l23 : K.lookup f23 = some ⟨oc23, od23, .func (PySem.W.fnOf "law" "law" (defArgs s_law) (defBody s_law) (defScope s_law) (.none) kV23 dc23 pm23 an23 cd23 ct23), sl23⟩) (c23 : PySem.W.codeIn K cd23 "law" = true) (k23 : PySem.W.keepIn K (.ref f23) = true)
    (z_all : PySem.W.nsIn K mainGlobals "all" = some none)
    (z_bool : PySem.W.nsIn K mainGlobals "bool" = some none)
    (z_enumerate : PySem.W.nsIn K mainGlobals "enumerate" = some none)
    (z_int : PySem.W.nsIn K mainGlobals "int" = some none)
    (z_isinstance : PySem.W.nsIn K mainGlobals "isinstance" = some none)
    (z_len : PySem.W.nsIn K mainGlobals "len" = some none)
    (z_list : PySem.W.nsIn K mainGlobals "list" = some none)
    (z_min : PySem.W.nsIn K mainGlobals "min" = some none)
    (z_range : PySem.W.nsIn K mainGlobals "range" = some none)
    (z_tuple : PySem.W.nsIn K mainGlobals "tuple" = some none)
    (z_zip : PySem.W.nsIn K mainGlobals "zip" = some none)
    (y_combinations : PySem.W.nsIn K mainGlobals "combinations" = some (some (.type "itertools.combinations")))
    {tk_MOST : Tok} (x_MOST : PySem.W.nsIn K mainGlobals "MOST" = some (some (.int 8 tk_MOST)))
    : ∃ fd : FuncData, (∀ (s : Shared) (v : Value), BindsTo s fd ⟨[v], []⟩ [("_law_script", v)]) ∧ ∀ base : Heap, K.In base → base.Ns mainGlobals mg → FnOk P w K mg base CX0 9 fa fd ["_law_script"] (sp_law K) := by
  have e := hfa.symm.trans (PySem.W.mg_of X G a23)
  cases e
  have F1 := fun_mk (st := s_is_whole) l1 c1 k1
  have b1 := F1.binds (ps := ["thing"]) fun _ _ _ _ _ _ us hl => match us, hl with | [_], _ => rfl
  have F2 := fun_mk (st := s_is_table) l2 c2 k2
  have b2 := F2.binds (ps := ["thing"]) fun _ _ _ _ _ _ us hl => match us, hl with | [_], _ => rfl
  have F3 := fun_mk (st := s_is_row) l3 c3 k3
  have b3 := F3.binds (ps := ["thing"]) fun _ _ _ _ _ _ us hl => match us, hl with | [_], _ => rfl
  have F4 := fun_mk (st := s_check_table) l4 c4 k4
  have b4 := F4.binds (ps := ["thing"]) fun _ _ _ _ _ _ us hl => match us, hl with | [_], _ => rfl
  have F5 := fun_mk (st := s_shape) l5 c5 k5
  have b5 := F5.binds (ps := ["table"]) fun _ _ _ _ _ _ us hl => match us, hl with | [_], _ => rfl
  have F6 := fun_mk (st := s_bad_square) l6 c6 k6
  have b6 := F6.binds (ps := ["table"]) fun _ _ _ _ _ _ us hl => match us, hl with | [_], _ => rfl
  have F7 := fun_mk (st := s_is_bad) l7 c7 k7
  have b7 := F7.binds (ps := ["value"]) fun _ _ _ _ _ _ us hl => match us, hl with | [_], _ => rfl
  have F8 := fun_mk (st := s_unfolded) l8 c8 k8
  have b8 := F8.binds (ps := ["table", "rows", "columns", "known"]) fun _ _ _ _ _ _ us hl => match us, hl with | [_, _, _, _], _ => rfl
  have F9 := fun_mk (st := s__law_source_of) l9 c9 k9
  have b9 := F9.binds (ps := ["_law_cell"]) fun _ _ _ _ _ _ us hl => match us, hl with | [_], _ => rfl
  have F10 := fun_mk (st := s__law_next) l10 c10 k10
  have b10 := F10.binds (ps := ["_law_source", "_law_many"]) fun _ _ _ _ _ _ us hl => match us, hl with | [_, _], _ => rfl
  have F11 := fun_mk (st := s__law_one) l11 c11 k11
  have b11 := F11.binds (ps := ["_law_source", "_law_some"]) fun _ _ _ _ _ _ us hl => match us, hl with | [_, _], _ => rfl
  have F12 := fun_mk (st := s__law_cell_at) l12 c12 k12
  have b12 := F12.binds (ps := ["_law_script", "_law_k"]) fun _ _ _ _ _ _ us hl => match us, hl with | [_, _], _ => rfl
  have F13 := fun_mk (st := s__law_mixed) l13 c13 k13
  have b13 := F13.binds (ps := ["_law_source", "_law_some"]) fun _ _ _ _ _ _ us hl => match us, hl with | [_, _], _ => rfl
  have F14 := fun_mk (st := s__law_ends) l14 c14 k14
  have b14 := F14.binds (ps := ["_law_source", "_law_many"]) fun _ _ _ _ _ _ us hl => match us, hl with | [_, _], _ => rfl
  have F15 := fun_mk (st := s__law_net) l15 c15 k15
  have b15 := F15.binds (ps := ["_law_ends_here", "_law_arcs"]) fun _ _ _ _ _ _ us hl => match us, hl with | [_, _], _ => rfl
  have F16 := fun_mk (st := s__law_net_drawn) l16 c16 k16
  have b16 := F16.binds (ps := ["_law_source", "_law_many", "_law_wide"]) fun _ _ _ _ _ _ us hl => match us, hl with | [_, _, _], _ => rfl
  have F17 := fun_mk (st := s__law_stretches) l17 c17 k17
  have b17 := F17.binds (ps := ["_law_source", "_law_many", "_law_wide"]) fun _ _ _ _ _ _ us hl => match us, hl with | [_, _, _], _ => rfl
  have F18 := fun_mk (st := s__law_swung) l18 c18 k18
  have b18 := F18.binds (ps := ["_law_source", "_law_grid"]) fun _ _ _ _ _ _ us hl => match us, hl with | [_, _], _ => rfl
  have F19 := fun_mk (st := s__law_table) l19 c19 k19
  have b19 := F19.binds (ps := ["_law_source", "_law_most"]) fun _ _ _ _ _ _ us hl => match us, hl with | [_, _], _ => rfl
  have F20 := fun_mk (st := s__law_expanded) l20 c20 k20
  have b20 := F20.binds (ps := ["_law_grid"]) fun _ _ _ _ _ _ us hl => match us, hl with | [_], _ => rfl
  have F21 := fun_mk (st := s__law_picks) l21 c21 k21
  have b21 := F21.binds (ps := ["_law_many", "_law_size"]) fun _ _ _ _ _ _ us hl => match us, hl with | [_, _], _ => rfl
  have F22 := fun_mk (st := s__law_bad) l22 c22 k22
  have b22 := F22.binds (ps := ["_law_grid"]) fun _ _ _ _ _ _ us hl => match us, hl with | [_], _ => rfl
  have F23 := fun_mk (st := s_law) l23 c23 k23
  have b23 := F23.binds (ps := ["_law_script"]) fun _ _ _ _ _ _ us hl => match us, hl with | [_], _ => rfl
  let T : Txt K mg := {
    f_is_whole := f1, fd_is_whole := _, F_is_whole := F1, g_is_whole := PySem.W.mg_of X G a1, k_is_whole := k1, b_is_whole := b1,
    f_is_table := f2, fd_is_table := _, F_is_table := F2, g_is_table := PySem.W.mg_of X G a2, k_is_table := k2, b_is_table := b2,
    f_is_row := f3, fd_is_row := _, F_is_row := F3, g_is_row := PySem.W.mg_of X G a3, k_is_row := k3, b_is_row := b3,
    f_check_table := f4, fd_check_table := _, F_check_table := F4, g_check_table := PySem.W.mg_of X G a4, k_check_table := k4, b_check_table := b4,
    f_shape := f5, fd_shape := _, F_shape := F5, g_shape := PySem.W.mg_of X G a5, k_shape := k5, b_shape := b5,
    f_bad_square := f6, fd_bad_square := _, F_bad_square := F6, g_bad_square := PySem.W.mg_of X G a6, k_bad_square := k6, b_bad_square := b6,
    f_is_bad := f7, fd_is_bad := _, F_is_bad := F7, g_is_bad := PySem.W.mg_of X G a7, k_is_bad := k7, b_is_bad := b7,
    f_unfolded := f8, fd_unfolded := _, F_unfolded := F8, g_unfolded := PySem.W.mg_of X G a8, k_unfolded := k8, b_unfolded := b8,
    f__law_source_of := f9, fd__law_source_of := _, F__law_source_of := F9, g__law_source_of := PySem.W.mg_of X G a9, k__law_source_of := k9, b__law_source_of := b9,
    f__law_next := f10, fd__law_next := _, F__law_next := F10, g__law_next := PySem.W.mg_of X G a10, k__law_next := k10, b__law_next := b10,
    f__law_one := f11, fd__law_one := _, F__law_one := F11, g__law_one := PySem.W.mg_of X G a11, k__law_one := k11, b__law_one := b11,
    f__law_cell_at := f12, fd__law_cell_at := _, F__law_cell_at := F12, g__law_cell_at := PySem.W.mg_of X G a12, k__law_cell_at := k12, b__law_cell_at := b12,
    f__law_mixed := f13, fd__law_mixed := _, F__law_mixed := F13, g__law_mixed := PySem.W.mg_of X G a13, k__law_mixed := k13, b__law_mixed := b13,
    f__law_ends := f14, fd__law_ends := _, F__law_ends := F14, g__law_ends := PySem.W.mg_of X G a14, k__law_ends := k14, b__law_ends := b14,
    f__law_net := f15, fd__law_net := _, F__law_net := F15, g__law_net := PySem.W.mg_of X G a15, k__law_net := k15, b__law_net := b15,
    f__law_net_drawn := f16, fd__law_net_drawn := _, F__law_net_drawn := F16, g__law_net_drawn := PySem.W.mg_of X G a16, k__law_net_drawn := k16, b__law_net_drawn := b16,
    f__law_stretches := f17, fd__law_stretches := _, F__law_stretches := F17, g__law_stretches := PySem.W.mg_of X G a17, k__law_stretches := k17, b__law_stretches := b17,
    f__law_swung := f18, fd__law_swung := _, F__law_swung := F18, g__law_swung := PySem.W.mg_of X G a18, k__law_swung := k18, b__law_swung := b18,
    f__law_table := f19, fd__law_table := _, F__law_table := F19, g__law_table := PySem.W.mg_of X G a19, k__law_table := k19, b__law_table := b19,
    f__law_expanded := f20, fd__law_expanded := _, F__law_expanded := F20, g__law_expanded := PySem.W.mg_of X G a20, k__law_expanded := k20, b__law_expanded := b20,
    f__law_picks := f21, fd__law_picks := _, F__law_picks := F21, g__law_picks := PySem.W.mg_of X G a21, k__law_picks := k21, b__law_picks := b21,
    f__law_bad := f22, fd__law_bad := _, F__law_bad := F22, g__law_bad := PySem.W.mg_of X G a22, k__law_bad := k22, b__law_bad := b22,
    f_law := fa, fd_law := _, F_law := F23, g_law := PySem.W.mg_of X G a23, k_law := k23, b_law := b23,
    n_all := PySem.W.mg_none_of X G z_all,
    n_bool := PySem.W.mg_none_of X G z_bool,
    n_enumerate := PySem.W.mg_none_of X G z_enumerate,
    n_int := PySem.W.mg_none_of X G z_int,
    n_isinstance := PySem.W.mg_none_of X G z_isinstance,
    n_len := PySem.W.mg_none_of X G z_len,
    n_list := PySem.W.mg_none_of X G z_list,
    n_min := PySem.W.mg_none_of X G z_min,
    n_range := PySem.W.mg_none_of X G z_range,
    n_tuple := PySem.W.mg_none_of X G z_tuple,
    n_zip := PySem.W.mg_none_of X G z_zip,
    g_combinations := PySem.W.mg_of X G y_combinations,
    t_MOST := tk_MOST, g_MOST := PySem.W.mg_of X G x_MOST }
  exact ⟨_, fun s v => .of_eq rfl, fun base _ _ => ok_law (base := base) T⟩
end SbE11
open PySem PySem.W PyProof.Rows
set_option maxRecDepth 100000 in
set_option maxHeartbeats 0 in
theorem PySem.Challenge.cw_signbook_k11_the_least_bad_square_holds : PySem.Challenge.rw_signbook_k11_the_least_bad_square.Holds := by
  w_on; o_law; k_head; (case hw => w_witness2)
  k_fill
  refine L2.walk_of (l := PySem.Challenge.rw_signbook_k11_the_least_bad_square) (n := 63) (k := 9) (x := "_law_script") (CX := fun _ => L2.CX0) (sp := fun w => SbE11.sp_law _) rfl (by decide) rfl ⟨rfl, by decide, by decide⟩ (fun w h Y => PySem.W.kIn_of Y) ?F (fun _ _ a ns hl _ hS => ⟨a, ns, rfl, hS, hl, fun _ => rfl⟩) (fun _ _ _ _ _ h => h)
  case F =>
    intro w mg fa h KX G hmg
    refine' SbE11.all_mk KX G hmg ?a1 ?l1 ?c1 ?k1 ?a2 ?l2 ?c2 ?k2 ?a3 ?l3 ?c3 ?k3 ?a4 ?l4 ?c4 ?k4 ?a5 ?l5 ?c5 ?k5 ?a6 ?l6 ?c6 ?k6 ?a7 ?l7 ?c7 ?k7 ?a8 ?l8 ?c8 ?k8 ?a9 ?l9 ?c9 ?k9 ?a10 ?l10 ?c10 ?k10 ?a11 ?l11 ?c11 ?k11 ?a12 ?l12 ?c12 ?k12 ?a13 ?l13 ?c13 ?k13 ?a14 ?l14 ?c14 ?k14 ?a15 ?l15 ?c15 ?k15 ?a16 ?l16 ?c16 ?k16 ?a17 ?l17 ?c17 ?k17 ?a18 ?l18 ?c18 ?k18 ?a19 ?l19 ?c19 ?k19 ?a20 ?l20 ?c20 ?k20 ?a21 ?l21 ?c21 ?k21 ?a22 ?l22 ?c22 ?k22 ?a23 ?l23 ?c23 ?k23 ?z_all ?z_bool ?z_enumerate ?z_int ?z_isinstance ?z_len ?z_list ?z_min ?z_range ?z_tuple ?z_zip ?y_combinations ?x_MOST
    (case a1 => k_is)
    (case l1 => k_is)
    (case c1 => k_is)
    (case k1 => k_is)
    (case a2 => k_is)
    (case l2 => k_is)
    (case c2 => k_is)
    (case k2 => k_is)
    (case a3 => k_is)
    (case l3 => k_is)
    (case c3 => k_is)
    (case k3 => k_is)
    (case a4 => k_is)
    (case l4 => k_is)
    (case c4 => k_is)
    (case k4 => k_is)
    (case a5 => k_is)
    (case l5 => k_is)
    (case c5 => k_is)
    (case k5 => k_is)
    (case a6 => k_is)
    (case l6 => k_is)
    (case c6 => k_is)
    (case k6 => k_is)
    (case a7 => k_is)
    (case l7 => k_is)
    (case c7 => k_is)
    (case k7 => k_is)
    (case a8 => k_is)
    (case l8 => k_is)
    (case c8 => k_is)
    (case k8 => k_is)
    (case a9 => k_is)
    (case l9 => k_is)
    (case c9 => k_is)
    (case k9 => k_is)
    (case a10 => k_is)
    (case l10 => k_is)
    (case c10 => k_is)
    (case k10 => k_is)
    (case a11 => k_is)
    (case l11 => k_is)
    (case c11 => k_is)
    (case k11 => k_is)
    (case a12 => k_is)
    (case l12 => k_is)
    (case c12 => k_is)
    (case k12 => k_is)
    (case a13 => k_is)
    (case l13 => k_is)
    (case c13 => k_is)
    (case k13 => k_is)
    (case a14 => k_is)
    (case l14 => k_is)
    (case c14 => k_is)
    (case k14 => k_is)
    (case a15 => k_is)
    (case l15 => k_is)
    (case c15 => k_is)
    (case k15 => k_is)
    (case a16 => k_is)
    (case l16 => k_is)
    (case c16 => k_is)
    (case k16 => k_is)
    (case a17 => k_is)
    (case l17 => k_is)
    (case c17 => k_is)
    (case k17 => k_is)
    (case a18 => k_is)
    (case l18 => k_is)
    (case c18 => k_is)
    (case k18 => k_is)
    (case a19 => k_is)
    (case l19 => k_is)
    (case c19 => k_is)
    (case k19 => k_is)
    (case a20 => k_is)
    (case l20 => k_is)
    (case c20 => k_is)
    (case k20 => k_is)
    (case a21 => k_is)
    (case l21 => k_is)
    (case c21 => k_is)
    (case k21 => k_is)
    (case a22 => k_is)
    (case l22 => k_is)
    (case c22 => k_is)
    (case k22 => k_is)
    (case a23 => k_is)
    (case l23 => k_is)
    (case c23 => k_is)
    (case k23 => k_is)
    (case z_all => k_is)
    (case z_bool => k_is)
    (case z_enumerate => k_is)
    (case z_int => k_is)
    (case z_isinstance => k_is)
    (case z_len => k_is)
    (case z_list => k_is)
    (case z_min => k_is)
    (case z_range => k_is)
    (case z_tuple => k_is)
    (case z_zip => k_is)
    (case y_combinations => k_is)
    (case x_MOST => k_is)
