import PyProof.Rows.All
import Wide.All
import OpenK.AllK
import Wide.FinOn
import PyProof.EqAt
import PyProof.EqKinds
import PyProof.TupleCall
import HandS.ForMost
import HandS.Evl
import HandS.Wide
import HandS.Gcd
import HandS.IsInst
import HandS.Defaults
import HandS.Zip
import PySem.Challenge.RW_signbook_k01_fractions
set_option Elab.async false
set_option linter.all false
set_option maxRecDepth 100000
set_option maxHeartbeats 2000000
namespace SbA
open PySem PySem.Spec PyProof.Rows L2 Evl
/-! ### the text -/
def topS (i : Nat) : Stmt := PySem.Challenge.pw_signbook_k01_fractions.main.body.getD i (.Pass ⟨0, 0, 0, 0⟩)
abbrev s_is_whole : Stmt := topS 5
theorem sc_is_whole : FnScope ["thing"] ["thing"] (defScope s_is_whole) := ⟨rfl, rfl, rfl, by decide +kernel, rfl, by decide +kernel, by decide +kernel⟩
abbrev s_is_fraction : Stmt := topS 6
theorem sc_is_fraction : FnScope ["thing", "top", "bottom"] ["thing"] (defScope s_is_fraction) := ⟨rfl, rfl, rfl, by decide +kernel, rfl, by decide +kernel, by decide +kernel⟩
abbrev s_fraction : Stmt := topS 7
theorem sc_fraction : FnScope ["top", "bottom", "common"] ["top", "bottom"] (defScope s_fraction) := ⟨rfl, rfl, rfl, by decide +kernel, rfl, by decide +kernel, by decide +kernel⟩
abbrev s_plus : Stmt := topS 8
theorem sc_plus : FnScope ["one", "other"] ["one", "other"] (defScope s_plus) := ⟨rfl, rfl, rfl, by decide +kernel, rfl, by decide +kernel, by decide +kernel⟩
abbrev s_minus : Stmt := topS 9
theorem sc_minus : FnScope ["one", "other"] ["one", "other"] (defScope s_minus) := ⟨rfl, rfl, rfl, by decide +kernel, rfl, by decide +kernel, by decide +kernel⟩
abbrev s_times : Stmt := topS 10
theorem sc_times : FnScope ["one", "other"] ["one", "other"] (defScope s_times) := ⟨rfl, rfl, rfl, by decide +kernel, rfl, by decide +kernel, by decide +kernel⟩
abbrev s_divided : Stmt := topS 11
theorem sc_divided : FnScope ["one", "other"] ["one", "other"] (defScope s_divided) := ⟨rfl, rfl, rfl, by decide +kernel, rfl, by decide +kernel, by decide +kernel⟩
abbrev s_under : Stmt := topS 12
theorem sc_under : FnScope ["one", "other"] ["one", "other"] (defScope s_under) := ⟨rfl, rfl, rfl, by decide +kernel, rfl, by decide +kernel, by decide +kernel⟩
abbrev s_floor_of : Stmt := topS 13
theorem sc_floor_of : FnScope ["value"] ["value"] (defScope s_floor_of) := ⟨rfl, rfl, rfl, by decide +kernel, rfl, by decide +kernel, by decide +kernel⟩
abbrev s_ceiling_of : Stmt := topS 14
theorem sc_ceiling_of : FnScope ["value"] ["value"] (defScope s_ceiling_of) := ⟨rfl, rfl, rfl, by decide +kernel, rfl, by decide +kernel, by decide +kernel⟩
abbrev s__law_source_of : Stmt := topS 16
theorem sc__law_source_of : FnScope ["_law_cell"] ["_law_cell"] (defScope s__law_source_of) := ⟨rfl, rfl, rfl, by decide +kernel, rfl, by decide +kernel, by decide +kernel⟩
abbrev s__law_next : Stmt := topS 17
theorem sc__law_next : FnScope ["_law_source", "_law_many", "_law_found", "_law_prime", "_law_figure"] ["_law_source", "_law_many"] (defScope s__law_next) := ⟨rfl, rfl, rfl, by decide +kernel, rfl, by decide +kernel, by decide +kernel⟩
abbrev s__law_cell_at : Stmt := topS 18
theorem sc__law_cell_at : FnScope ["_law_script", "_law_k"] ["_law_script", "_law_k"] (defScope s__law_cell_at) := ⟨rfl, rfl, rfl, by decide +kernel, rfl, by decide +kernel, by decide +kernel⟩
abbrev s__law_low : Stmt := topS 19
theorem sc__law_low : FnScope ["_law_top", "_law_bottom", "_law_one", "_law_other"] ["_law_top", "_law_bottom"] (defScope s__law_low) := ⟨rfl, rfl, rfl, by decide +kernel, rfl, by decide +kernel, by decide +kernel⟩
abbrev s__law_value : Stmt := topS 20
theorem sc__law_value : FnScope ["_law_source", "_law_kind", "_law_sign", "_law_great"] ["_law_source"] (defScope s__law_value) := ⟨rfl, rfl, rfl, by decide +kernel, rfl, by decide +kernel, by decide +kernel⟩
abbrev s__law_is : Stmt := topS 21
theorem sc__law_is : FnScope ["_law_found", "_law_due", "_law_part"] ["_law_found", "_law_due"] (defScope s__law_is) := ⟨rfl, rfl, rfl, by decide +kernel, rfl, by decide +kernel, by decide +kernel⟩
abbrev s_law : Stmt := topS 22
theorem sc_law : FnScope ["_law_script", "_law_k", "_law_source", "_law_a", "_law_b", "_law_c", "_law_d", "_law_one", "_law_two", "_law_due", "_law_share", "_law_turn", "_law_some", "_law_thing"] ["_law_script"] (defScope s_law) := ⟨rfl, rfl, rfl, by decide +kernel, rfl, by decide +kernel, by decide +kernel⟩
/-- what the top has written -/
structure Txt (K : PySem.W.Frag) (mg : Str → Option Value) where
  f_is_whole : Addr
  fd_is_whole : FuncData
  F_is_whole : Fun K "is_whole" "is_whole" s_is_whole f_is_whole fd_is_whole
  g_is_whole : mg "is_whole" = some (.ref f_is_whole)
  k_is_whole : PySem.W.keepIn K (.ref f_is_whole) = true
  b_is_whole : Binds K fd_is_whole ["thing"] []
  f_is_fraction : Addr
  fd_is_fraction : FuncData
  F_is_fraction : Fun K "is_fraction" "is_fraction" s_is_fraction f_is_fraction fd_is_fraction
  g_is_fraction : mg "is_fraction" = some (.ref f_is_fraction)
  k_is_fraction : PySem.W.keepIn K (.ref f_is_fraction) = true
  b_is_fraction : Binds K fd_is_fraction ["thing"] []
  f_fraction : Addr
  fd_fraction : FuncData
  F_fraction : FunD K "fraction" "fraction" (defArgs s_fraction) (defBody s_fraction) (defScope s_fraction) [.int 1] [] f_fraction fd_fraction
  g_fraction : mg "fraction" = some (.ref f_fraction)
  k_fraction : PySem.W.keepIn K (.ref f_fraction) = true
  b_fraction : Binds K fd_fraction ["top", "bottom"] []
  d_fraction_1 : List Value
  b_fraction_1 : Vals ([.int 1].drop 0) d_fraction_1 ∧ Binds K fd_fraction ["top", "bottom"] d_fraction_1
  f_plus : Addr
  fd_plus : FuncData
  F_plus : Fun K "plus" "plus" s_plus f_plus fd_plus
  g_plus : mg "plus" = some (.ref f_plus)
  k_plus : PySem.W.keepIn K (.ref f_plus) = true
  b_plus : Binds K fd_plus ["one", "other"] []
  f_minus : Addr
  fd_minus : FuncData
  F_minus : Fun K "minus" "minus" s_minus f_minus fd_minus
  g_minus : mg "minus" = some (.ref f_minus)
  k_minus : PySem.W.keepIn K (.ref f_minus) = true
  b_minus : Binds K fd_minus ["one", "other"] []
  f_times : Addr
  fd_times : FuncData
  F_times : Fun K "times" "times" s_times f_times fd_times
  g_times : mg "times" = some (.ref f_times)
  k_times : PySem.W.keepIn K (.ref f_times) = true
  b_times : Binds K fd_times ["one", "other"] []
  f_divided : Addr
  fd_divided : FuncData
  F_divided : Fun K "divided" "divided" s_divided f_divided fd_divided
  g_divided : mg "divided" = some (.ref f_divided)
  k_divided : PySem.W.keepIn K (.ref f_divided) = true
  b_divided : Binds K fd_divided ["one", "other"] []
  f_under : Addr
  fd_under : FuncData
  F_under : Fun K "under" "under" s_under f_under fd_under
  g_under : mg "under" = some (.ref f_under)
  k_under : PySem.W.keepIn K (.ref f_under) = true
  b_under : Binds K fd_under ["one", "other"] []
  f_floor_of : Addr
  fd_floor_of : FuncData
  F_floor_of : Fun K "floor_of" "floor_of" s_floor_of f_floor_of fd_floor_of
  g_floor_of : mg "floor_of" = some (.ref f_floor_of)
  k_floor_of : PySem.W.keepIn K (.ref f_floor_of) = true
  b_floor_of : Binds K fd_floor_of ["value"] []
  f_ceiling_of : Addr
  fd_ceiling_of : FuncData
  F_ceiling_of : Fun K "ceiling_of" "ceiling_of" s_ceiling_of f_ceiling_of fd_ceiling_of
  g_ceiling_of : mg "ceiling_of" = some (.ref f_ceiling_of)
  k_ceiling_of : PySem.W.keepIn K (.ref f_ceiling_of) = true
  b_ceiling_of : Binds K fd_ceiling_of ["value"] []
  f__law_source_of : Addr
  fd__law_source_of : FuncData
  F__law_source_of : Fun K "_law_source_of" "_law_source_of" s__law_source_of f__law_source_of fd__law_source_of
  g__law_source_of : mg "_law_source_of" = some (.ref f__law_source_of)
  k__law_source_of : PySem.W.keepIn K (.ref f__law_source_of) = true
  b__law_source_of : Binds K fd__law_source_of ["_law_cell"] []
  f__law_next : Addr
  fd__law_next : FuncData
  F__law_next : Fun K "_law_next" "_law_next" s__law_next f__law_next fd__law_next
  g__law_next : mg "_law_next" = some (.ref f__law_next)
  k__law_next : PySem.W.keepIn K (.ref f__law_next) = true
  b__law_next : Binds K fd__law_next ["_law_source", "_law_many"] []
  f__law_cell_at : Addr
  fd__law_cell_at : FuncData
  F__law_cell_at : Fun K "_law_cell_at" "_law_cell_at" s__law_cell_at f__law_cell_at fd__law_cell_at
  g__law_cell_at : mg "_law_cell_at" = some (.ref f__law_cell_at)
  k__law_cell_at : PySem.W.keepIn K (.ref f__law_cell_at) = true
  b__law_cell_at : Binds K fd__law_cell_at ["_law_script", "_law_k"] []
  f__law_low : Addr
  fd__law_low : FuncData
  F__law_low : Fun K "_law_low" "_law_low" s__law_low f__law_low fd__law_low
  g__law_low : mg "_law_low" = some (.ref f__law_low)
  k__law_low : PySem.W.keepIn K (.ref f__law_low) = true
  b__law_low : Binds K fd__law_low ["_law_top", "_law_bottom"] []
  f__law_value : Addr
  fd__law_value : FuncData
  F__law_value : Fun K "_law_value" "_law_value" s__law_value f__law_value fd__law_value
  g__law_value : mg "_law_value" = some (.ref f__law_value)
  k__law_value : PySem.W.keepIn K (.ref f__law_value) = true
  b__law_value : Binds K fd__law_value ["_law_source"] []
  f__law_is : Addr
  fd__law_is : FuncData
  F__law_is : Fun K "_law_is" "_law_is" s__law_is f__law_is fd__law_is
  g__law_is : mg "_law_is" = some (.ref f__law_is)
  k__law_is : PySem.W.keepIn K (.ref f__law_is) = true
  b__law_is : Binds K fd__law_is ["_law_found", "_law_due"] []
  f_law : Addr
  fd_law : FuncData
  F_law : Fun K "law" "law" s_law f_law fd_law
  g_law : mg "law" = some (.ref f_law)
  k_law : PySem.W.keepIn K (.ref f_law) = true
  b_law : Binds K fd_law ["_law_script"] []
  g_gcd : mg "gcd" = some (.builtin "math.gcd")
  n_abs : mg "abs" = none
  n_all : mg "all" = none
  n_bool : mg "bool" = none
  n_int : mg "int" = none
  n_isinstance : mg "isinstance" = none
  n_len : mg "len" = none
  n_max : mg "max" = none
  n_range : mg "range" = none
  n_tuple : mg "tuple" = none
/-! ### numbers -/
def Bd (n : Nat) (i : Int) : Prop := i.natAbs < 2 ^ n
theorem Bd.mono {a b : Nat} {i : Int} (h : Bd a i) (hab : a ≤ b) : Bd b i := Nat.lt_of_lt_of_le h (Nat.pow_le_pow_right (by decide) hab)
theorem Bd.mul {a b : Nat} {i j : Int} (h : Bd a i) (g : Bd b j) : Bd (a + b) (i * j) := wide_lt h g
theorem Bd.add {a : Nat} {i j : Int} (h : Bd a i) (g : Bd a j) : Bd (a + 1) (i + j) := by
  have h1 : i.natAbs < 2 ^ a := h
  have h2 : j.natAbs < 2 ^ a := g
  show (i + j).natAbs < 2 ^ (a + 1)
  rw [Nat.pow_succ]
  omega
theorem Bd.sub {a : Nat} {i j : Int} (h : Bd a i) (g : Bd a j) : Bd (a + 1) (i - j) := by
  have h1 : i.natAbs < 2 ^ a := h
  have h2 : j.natAbs < 2 ^ a := g
  show (i - j).natAbs < 2 ^ (a + 1)
  rw [Nat.pow_succ]
  omega
theorem Bd.neg {a : Nat} {i : Int} (h : Bd a i) : Bd a (-i) := by
  show (-i).natAbs < 2 ^ a
  rw [Int.natAbs_neg]
  exact h
theorem Bd.abs {a : Nat} {i j : Int} (h : Bd a i) (e : j.natAbs ≤ i.natAbs) : Bd a j := Nat.lt_of_le_of_lt e h
theorem Bd.mulOk {a b : Nat} {i j : Int} (h : Bd a i) (g : Bd b j) (h0 : 0 < a := by decide) (h1 : 0 < b := by decide) (hs : a + b ≤ 1000000 := by decide) : CMulW i j := wide_mul h g h0 h1 hs
theorem Bd.divOk {b : Nat} {i j : Int} (h : 0 < j) (g : Bd b j) (h0 : 0 < b := by decide) (h9 : b ≤ 9000 := by decide) : CDivW i j := wide_div h g h0 h9
/-- // by a divisor other than 0 below 2 ^ 9000 -/
def CDivNW (_ j : Int) : Prop := j ≠ 0 ∧ j.natAbs.log2 < 9000
theorem Bd.divNOk {b : Nat} {i j : Int} (h : j ≠ 0) (g : Bd b j) (h0 : 0 < b := by decide) (h9 : b ≤ 9000 := by decide) : CDivNW i j := ⟨h, Nat.lt_of_lt_of_le (PySem.Flt.log2_lt_of h0 g) h9⟩
theorem op_fdivNW {X : Cx} : OpR X (binaryOp .FloorDiv) (rI CDivNW fun i j => .int (i.fdiv j)) := opI fun _ _ _ _ _ _ _ hc q => floordiv_int hc.1 q (.inl (PyProof.noPylong_of_log2 hc.2))
/-! ### heaps -/
/-- all but what stands at s is as it was -/
def ExB (s : Addr) (H H' : Hp) : Prop := ∀ b o, b ≠ s → H b = some o → H' b = some o
theorem ExB.trans {s : Addr} {H H1 H2 : Hp} (a : ExB s H H1) (b : ExB s H1 H2) : ExB s H H2 := fun c o n h => b c o n (a c o n h)
theorem ExB.refl (s : Addr) (H : Hp) : ExB s H H := fun _ _ _ h => h
theorem ExB.of {s : Addr} {H H1 : Hp} (a : Ex H H1) : ExB s H H1 := fun c o _ h => a c o h
theorem ExB.ex {s : Addr} {H H1 H2 : Hp} (a : ExB s H1 H2) (n : H s = none) (e : Ex H H1) : Ex H H2 := fun b o h => a b o (ne_of_none h n) (e b o h)
theorem ExB.upd (s : Addr) (H : Hp) (o : HO) : ExB s H (upd H s o) := fun b u n h => by
  rw [upd_ne n]
  exact h
theorem Ex.updB {s : Addr} {H H' : Hp} {o : HO} (e : Ex H H') : ExB s H (upd H' s o) := fun b u n h => by
  rw [upd_ne n]
  exact e b u h
/-- the source of a law's numbers: n at least the numbers made so far -/
def SrcAt (H : Hp) (s : Addr) (n : Int) : Prop := ∃ p q r : Int, H s = some (.lst [.int p, .int q, .int r]) ∧ 0 ≤ q ∧ q < 2147483647 ∧ 0 ≤ r ∧ r ≤ n
theorem SrcAt.ex {H H' : Hp} {s : Addr} {n : Int} (h : SrcAt H s n) (e : Ex H H') : SrcAt H' s n := by
  obtain ⟨p, q, r, h1, h2⟩ := h
  exact ⟨p, q, r, e _ _ h1, h2⟩
theorem SrcAt.exB {H H' : Hp} {s t : Addr} {n : Int} (h : SrcAt H s n) (e : ExB t H H') (ne : s ≠ t) : SrcAt H' s n := by
  obtain ⟨p, q, r, h1, h2⟩ := h
  exact ⟨p, q, r, e _ _ ne h1, h2⟩
theorem SrcAt.le {H : Hp} {s : Addr} {n m : Int} (h : SrcAt H s n) (e : n ≤ m) : SrcAt H s m := by
  obtain ⟨p, q, r, h1, h2, h3, h4, h5⟩ := h
  exact ⟨p, q, r, h1, h2, h3, h4, by omega⟩
theorem SrcAt.some {H : Hp} {s : Addr} {n : Int} (h : SrcAt H s n) : ∃ o, H s = some o := by
  obtain ⟨p, q, r, h1, _⟩ := h
  exact ⟨_, h1⟩
/-- classes that is_whole is asked about -/
def tyOk (t : String) : Prop := t = "int" ∨ t = "bool" ∨ t = "NoneType" ∨ t = "str" ∨ t = "tuple" ∨ t = "list" ∨ t = "dict"
theorem ty_int {t : String} (h : tyOk t) : kitB t "int" = some (t == "int" || t == "bool") := by
  rcases h with rfl | rfl | rfl | rfl | rfl | rfl | rfl <;> decide +kernel
theorem ty_bool {t : String} (h : tyOk t) : kitB t "bool" = some (t == "bool") := by
  rcases h with rfl | rfl | rfl | rfl | rfl | rfl | rfl <;> decide +kernel
theorem ty_tuple {t : String} (h : tyOk t) : kitB t "tuple" = some (t == "tuple") := by
  rcases h with rfl | rfl | rfl | rfl | rfl | rfl | rfl <;> decide +kernel
theorem ty_list {t : String} (h : tyOk t) : kitB t "list" = some (t == "list") := by
  rcases h with rfl | rfl | rfl | rfl | rfl | rfl | rfl <;> decide +kernel
theorem prime_at (r : Int) (h : 0 ≤ r) : ∃ p : Int, atI [V.int 2147483647, V.int 2147483629, V.int 2147483587, V.int 2147483579, V.int 2147483563, V.int 2147483549, V.int 2147483543] (r % 7) = some (.int p) ∧ 0 < p ∧ p ≤ 2147483647 := by
  have h1 : 0 ≤ r % 7 := Int.emod_nonneg _ (by decide)
  have h2 : r % 7 < 7 := Int.emod_lt_of_pos _ (by decide)
  generalize r % 7 = k at h1 h2
  have hk : k = 0 ∨ k = 1 ∨ k = 2 ∨ k = 3 ∨ k = 4 ∨ k = 5 ∨ k = 6 := by omega
  rcases hk with rfl | rfl | rfl | rfl | rfl | rfl | rfl <;> exact ⟨_, rfl, by decide, by decide⟩

/-! ### fractions -/
def gcdI (t b : Int) : Int := ((Nat.gcd t.natAbs b.natAbs : Nat) : Int)
/-- the divisor that fraction takes -/
def comI (t b : Int) : Int := if b < 0 then -(gcdI t b) else gcdI t b
theorem gcdI_pos {t b : Int} (h : b ≠ 0) : 0 < gcdI t b := by
  unfold gcdI
  have : 0 < Nat.gcd t.natAbs b.natAbs := Nat.gcd_pos_of_pos_right _ (by omega)
  omega
theorem comI_ne {t b : Int} (h : b ≠ 0) : comI t b ≠ 0 := by
  have := gcdI_pos (t := t) h
  unfold comI
  split <;> omega
theorem gcdI_le {t b : Int} (h : b ≠ 0) : (gcdI t b).natAbs ≤ b.natAbs := by
  unfold gcdI
  rw [Int.natAbs_natCast]
  exact Nat.gcd_le_right _ (by omega)
theorem comI_bd {t b : Int} {n : Nat} (h : b ≠ 0) (g : Bd n b) : Bd n (comI t b) := by
  have e : (comI t b).natAbs = (gcdI t b).natAbs := by
    unfold comI
    split
    · exact Int.natAbs_neg _
    · rfl
  exact Bd.abs g (by rw [e]; exact gcdI_le h)
/-- a value that is_fraction is asked of, and its answer -/
inductive FracV (K : PySem.W.Frag) (H : Hp) : V → Bool → Prop where
  | two {p : Addr} {t b : Int} (e : H p = some (.tup [.int t, .int b])) : FracV K H (.ref p) (decide (1 ≤ b) && decide (gcdI t b = 1))
  | odd1 {p : Addr} {x y : V} {t : String} (e : H p = some (.tup [x, y])) (h : TyX K H x (.type t)) (k : tyOk t) (n : t ≠ "int") : FracV K H (.ref p) false
  | odd2 {p : Addr} {t : Int} {y : V} {u : String} (e : H p = some (.tup [.int t, y])) (h : TyX K H y (.type u)) (k : tyOk u) (n : u ≠ "int") : FracV K H (.ref p) false
  | len {p : Addr} {xs : List V} (e : H p = some (.tup xs)) (n : xs.length ≠ 2) : FracV K H (.ref p) false
  | no {x : V} {t : String} (h : TyX K H x (.type t)) (k : tyOk t) (n : t ≠ "tuple") : FracV K H x false

theorem great_at (k : Int) (h0 : 0 ≤ k) (h1 : k < 4) : ∃ g : Int, atI [V.int 7, V.int 1000, V.int (10 ^ (12 : Int).toNat), V.int (10 ^ (39 : Int).toNat)] k = some (.int g) ∧ 0 < g ∧ Bd 130 g := by
  have hk : k = 0 ∨ k = 1 ∨ k = 2 ∨ k = 3 := by omega
  rcases hk with rfl | rfl | rfl | rfl <;> exact ⟨_, rfl, by decide +kernel, by unfold Bd; decide +kernel⟩
theorem gcdI_dvd_l (t b : Int) : gcdI t b ∣ t := Int.gcd_dvd_left ..
theorem gcdI_dvd_r (t b : Int) : gcdI t b ∣ b := Int.gcd_dvd_right ..
theorem gcdI_mul (m a b : Int) : gcdI (m * a) (m * b) = (m.natAbs : Int) * gcdI a b := by
  unfold gcdI
  rw [Int.natAbs_mul, Int.natAbs_mul, Nat.gcd_mul_left, Int.natCast_mul]
/-- what low tells is in lowest terms -/
theorem low_terms {t b : Int} (h : 0 < b) : 0 < b / gcdI t b ∧ gcdI (t / gcdI t b) (b / gcdI t b) = 1 ∧ (t / gcdI t b).natAbs ≤ t.natAbs ∧ (b / gcdI t b).natAbs ≤ b.natAbs := by
  have gp := gcdI_pos (t := t) (show b ≠ 0 by omega)
  obtain ⟨x, hx⟩ := gcdI_dvd_l t b
  obtain ⟨y, hy⟩ := gcdI_dvd_r t b
  generalize hg : gcdI t b = g at gp hx hy ⊢
  have e1 : t / g = x := by rw [hx]; exact Int.mul_ediv_cancel_left _ (by omega)
  have e2 : b / g = y := by rw [hy]; exact Int.mul_ediv_cancel_left _ (by omega)
  rw [e1, e2]
  have hy0 : 0 < y := by
    rw [hy] at h
    exact Int.pos_of_mul_pos_right h gp |> fun z => z
  refine ⟨hy0, ?_, ?_, ?_⟩
  · have e3 := gcdI_mul g x y
    rw [← hx, ← hy, hg] at e3
    have e4 : (g.natAbs : Int) = g := by omega
    rw [e4] at e3
    have e5 : g * 1 = g * gcdI x y := by rw [Int.mul_one]; exact e3
    exact (Int.eq_of_mul_eq_mul_left (by omega) e5).symm
  · rw [hx, Int.natAbs_mul]
    exact Nat.le_mul_of_pos_left _ (by omega)
  · rw [hy, Int.natAbs_mul]
    exact Nat.le_mul_of_pos_left _ (by omega)
/-- fraction and low agree -/
theorem frac_low {t b : Int} (h : 0 < b) : t.fdiv (comI t b) = t / gcdI t b ∧ b.fdiv (comI t b) = b / gcdI t b := by
  have e : comI t b = gcdI t b := by
    unfold comI
    rw [if_neg (by omega)]
  have gp := gcdI_pos (t := t) (show b ≠ 0 by omega)
  rw [e]
  exact ⟨Int.fdiv_eq_ediv_of_nonneg _ (by omega), Int.fdiv_eq_ediv_of_nonneg _ (by omega)⟩
theorem gcdI_neg_neg (t b : Int) : gcdI (-t) (-b) = gcdI t b := by
  unfold gcdI
  rw [Int.natAbs_neg, Int.natAbs_neg]
theorem frac_low_neg {t b : Int} (h : b < 0) : t.fdiv (comI t b) = (-t) / gcdI (-t) (-b) ∧ b.fdiv (comI t b) = (-b) / gcdI (-t) (-b) := by
  have e : comI t b = -(gcdI t b) := by
    unfold comI
    rw [if_pos h]
  have gp := gcdI_pos (t := t) (show b ≠ 0 by omega)
  rw [e, gcdI_neg_neg]
  obtain ⟨x, hx⟩ := gcdI_dvd_l t b
  obtain ⟨y, hy⟩ := gcdI_dvd_r t b
  generalize gcdI t b = g at gp hx hy ⊢
  have aux : ∀ z w : Int, z = g * w → z.fdiv (-g) = (-z) / g := by
    intro z w hz
    have e1 : z = (-g) * (-w) := by rw [hz, Int.neg_mul_neg]
    have e2 : -z = g * (-w) := by rw [hz, Int.mul_neg]
    have e3 : z.fdiv (-g) = -w := by rw [e1]; exact Int.mul_fdiv_cancel_left _ (by omega)
    rw [e3, e2, Int.mul_ediv_cancel_left _ (by omega)]
  exact ⟨aux t x hx, aux b y hy⟩
theorem frac_share {m a b : Int} (hm : m ≠ 0) (hb : 0 < b) (hg : gcdI a b = 1) : (m * a).fdiv (comI (m * a) (m * b)) = a ∧ (m * b).fdiv (comI (m * a) (m * b)) = b := by
  have e : comI (m * a) (m * b) = m := by
    unfold comI
    rw [gcdI_mul, hg, Int.mul_one]
    by_cases h : m < 0
    · rw [if_pos (Int.mul_neg_of_neg_of_pos h hb)]
      omega
    · rw [if_neg (by have := Int.mul_pos (show 0 < m by omega) hb; omega)]
      omega
  rw [e]
  exact ⟨Int.mul_fdiv_cancel_left _ hm, Int.mul_fdiv_cancel_left _ hm⟩
theorem frac_one (a : Int) : a.fdiv (comI a 1) = a ∧ (1 : Int).fdiv (comI a 1) = 1 := by
  have e : comI a 1 = 1 := by
    unfold comI gcdI
    rw [if_neg (by decide)]
    show ((Nat.gcd a.natAbs 1 : Nat) : Int) = 1
    rw [Nat.gcd_one_right]
    rfl
  rw [e]
  exact ⟨Int.fdiv_one a, rfl⟩

theorem paired_get {α β : Type} {R : α → β → Prop} : ∀ {xs : List α} {ys : List β} {i : Nat} {x : α}, Paired R xs ys → xs[i]? = some x → ∃ y, ys[i]? = some y ∧ R x y
  | _, _, _, _, .nil, h => by simp at h
  | _, _, 0, _, .cons r _, h => ⟨_, rfl, by
      have e := Option.some.inj h
      subst e
      exact r⟩
  | _, _, i + 1, _, .cons _ t, h => paired_get (i := i) t h
theorem tyx_ex {K : PySem.W.Frag} {H H' : Hp} (e : Ex H H') {x : V} {t : String} (k : tyOk t) (h : TyX K H x (.type t)) : TyX K H' x (.type t) := by
    cases h with
    | base b =>
      cases b with
      | non => exact .base .non
      | bl y => exact .base (.bl y)
      | int i => exact .base (.int i)
      | str y => exact .base (.str y)
      | flt y => exact .base (.flt y)
      | lst h => exact .base (.lst (e _ _ h))
      | frz h => exact .base (.frz (e _ _ h))
      | tup h => exact .base (.tup (e _ _ h))
      | dK h => exact .base (.dK (e _ _ h))
      | dT h => exact .base (.dT (e _ _ h))
    | byt y => exact .byt y
    | set h => exact .set (e _ _ h)
    | kList h c => exact .kList h c
    | kTuple h c => exact .kTuple h c
    | kDict h c => exact .kDict h c
    | fTuple h => exact .fTuple (e _ _ h)
    | fDict h => exact .fDict (e _ _ h)
theorem FracV.ex {K : PySem.W.Frag} {H H' : Hp} {x : V} {r : Bool} (e : Ex H H') (f : FracV K H x r) : FracV K H' x r := by
  cases f with
  | two h => exact .two (e _ _ h)
  | odd1 h a k n => exact .odd1 (e _ _ h) (tyx_ex e k a) k n
  | odd2 h a k n => exact .odd2 (e _ _ h) (tyx_ex e k a) k n
  | len h n => exact .len (e _ _ h) n
  | no a k n => exact .no (tyx_ex e k a) k n
/-- what is_whole is asked of, and its answer -/
def WhoV (K : PySem.W.Frag) (H : Hp) (x : V) (r : Bool) : Prop := ∃ t, TyX K H x (.type t) ∧ tyOk t ∧ r = (t == "int")
theorem dp_bools {K : PySem.W.Frag} {H : Hp} : ∀ bs : List Bool, DpAll K H (bs.map V.bl) (bs.map PyData.bool)
  | [] => .nil
  | b :: r => .cons (.bl b) (dp_bools r)
theorem sgn_at (c : Int) : atI [V.int 1, V.int (-1)] (if decide (c < 0) = true then 1 else 0) = some (.int (if c < 0 then -1 else 1)) := by
  by_cases h : c < 0
  · rw [decide_eq_true h, if_pos rfl, if_pos h]
    rfl
  · rw [decide_eq_false h, if_neg Bool.false_ne_true, if_neg h]
    rfl
theorem turn_at (f : Int) (h0 : 0 ≤ f) (h1 : f < 2) : ∃ t : Int, atI [V.int 1, V.int (-1)] f = some (.int t) ∧ t ≠ 0 ∧ Bd 2 t := by
  have : f = 0 ∨ f = 1 := by omega
  rcases this with rfl | rfl <;> exact ⟨_, rfl, by decide, by unfold Bd; decide⟩
theorem c_tup {ta : TA} {σ : L2.St} {H : Hp} {Q : VK} {vs : List V} (h : EvA ta σ H vs) (hl : vs.length ≤ 100000) (k : ∀ p H2, H p = none → Ex H H2 → H2 p = some (.tup vs) → Q (.ref p) H2) : tTup ta σ H Q := eu_tup h hl H (Ex.refl H) Q k
theorem c_lst {ta : TA} {σ : L2.St} {H : Hp} {Q : VK} {vs : List V} (h : EvA ta σ H vs) (hl : vs.length ≤ 100000) (k : ∀ p H2, H p = none → Ex H H2 → H2 p = some (.lst vs) → Q (.ref p) H2) : tLst ta σ H Q := el_lst h hl H (Ex.refl H) Q k
/-- [f(x) for x in xs], the answers rs -/
theorem t_ask {K : PySem.W.Frag} {n j : Nat} {a : Addr} {xs : List V} {rs : List Bool} {R : V → Bool → Prop} {te : TE} {vs : List Nat} {σ : L2.St} {H : Hp} {Q : VK} (hσ : σ[n]? = some (some (.ref a))) (hx : H a = some (.lst xs)) (hl : xs.length ≤ 1000) (hR : Paired R xs rs)
    (hs : ∀ x r H', Ex H H' → R x r → ∀ Q : VK, Q (.bl r) H' → te ((wipe σ vs).set j (some x)) H' Q) (hw : ∀ x, wipe ((wipe σ vs).set j (some x)) vs = wipe σ vs)
    (hd : ∀ D H', H D = none → Ex H H' → H' D = some (.lst (rs.map V.bl)) → Q (.ref D) H') : tLc (iList K (tVar n)) (gName j) tYes te vs σ H Q := by
  refine ⟨_, hσ, a, rfl, ⟨_, SqL.of hx⟩, fun D hD => ?_⟩
  refine lc_list (K := K) (a := a) (xs := xs) (fun i H' => Ex H H' ∧ H' D = some (.lst ((rs.take i).map V.bl))) ⟨Ex.new hD, upd_same⟩ (fun i H' _ h => SqL.of (h.1 _ _ hx)) (fun i x H' hi h => ?_) (fun H' h => ?_)
  · obtain ⟨e, hD'⟩ := h
    obtain ⟨r, hr, f⟩ := paired_get hR hi
    refine ⟨hw x, ?_⟩
    show te ((wipe σ vs).set j (some x)) H' _
    refine hs x r H' e f _ ⟨_, hD', ?_, Ex.mut e hD, ?_⟩
    · rw [List.length_map, List.length_take]
      have h1 := (List.getElem?_eq_some_iff.mp hi).1
      exact small1000 (by omega)
    · rw [upd_same, List.take_add_one, hr, List.map_append]
      rfl
  · obtain ⟨e, hD'⟩ := h
    have el : xs.length = rs.length := Paired.length hR
    rw [el, List.take_length] at hD'
    exact hd D H' hD e hD'
theorem el_ask {K : PySem.W.Frag} {n j : Nat} {a : Addr} {xs : List V} {rs : List Bool} {R : V → Bool → Prop} {te : TE} {vs : List Nat} {σ : L2.St} {H : Hp} (hσ : σ[n]? = some (some (.ref a))) (hx : H a = some (.lst xs)) (hl : xs.length ≤ 1000) (hR : Paired R xs rs)
    (hs : ∀ x r H', Ex H H' → R x r → ∀ Q : VK, Q (.bl r) H' → te ((wipe σ vs).set j (some x)) H' Q) (hw : ∀ x, wipe ((wipe σ vs).set j (some x)) vs = wipe σ vs) : EvL (tLc (iList K (tVar n)) (gName j) tYes te vs) σ H (rs.map V.bl) :=
  fun H1 e Q q => t_ask hσ (e _ _ hx) hl hR (fun x r H' e' f => hs x r H' (e.trans e') f) hw q
theorem rv_neB {K : PySem.W.Frag} {p q : Addr} {bs : List Bool} {H : Hp} (hp : SqL K H p (bs.map V.bl)) (hq : SqL K H q (bs.map V.bl)) (hs : SeqAt.shaped (.list (bs.map PyData.bool)) = true) : RV (rNeD K) (.ref p) (.ref q) H (.bl false) := fun H1 e Q k =>
  ⟨_, _, .lst (ex_l e hp) (dp_bools bs), .lst (ex_l e hq) (dp_bools bs), hs, hs, by
    rw [SeqAt.eqv_refl _ (SeqAt.canLay_of_shaped hs)]
    exact k H1 (Ex.refl _)⟩
theorem el_cat {σ : L2.St} {H : Hp} {ta tb : TE} {xs ys : List V} (ha : EvL ta σ H xs) (hb : EvL tb σ H ys) (hz : xs.length + ys.length ≤ 100000) : EvL (tOp rCat ta tb) σ H (xs ++ ys) := fun H1 e Q q =>
  ha H1 e _ fun p H2 _ e2 hp => hb H2 (e.trans e2) _ fun r H3 _ e3 hr => ⟨p, r, xs, ys, rfl, rfl, e3 _ _ hp, hr, sz_of hz, fun u hu => q u _ (fresh_back (e2.trans e3) hu) ((e2.trans e3).trans (Ex.new hu)) upd_same⟩
theorem el_rep {σ : L2.St} {H : Hp} {ta tb : TE} {xs : List V} {k : Int} (ha : EvL ta σ H xs) (hb : Ev tb σ H (.int k)) (h0 : 0 ≤ k ∧ k ≤ 100000) (hz : xs.length * k.toNat ≤ 100000) : EvL (tOp rRep ta tb) σ H (List.replicate k.toNat xs).flatten := fun H1 e Q q =>
  ha H1 e _ fun p H2 _ e2 hp => hb H2 (e.trans e2) _ fun H3 e3 => ⟨p, k, xs, rfl, rfl, e3 _ _ hp, by omega, by omega, sz_of hz, fun u hu => q u _ (fresh_back (e2.trans e3) hu) ((e2.trans e3).trans (Ex.new hu)) upd_same⟩
theorem tcons_c {v : V} {r : TA} {σ : L2.St} {H : Hp} {Q : List V → Hp → Prop} (h : r σ H fun xs H2 => Q (v :: xs) H2) : tCons (tC v) r σ H Q := h
theorem due_eq {b c : Int} (X : Int) (hb : 0 < b) (hc : c ≠ 0) :
    (X * (if c < 0 then -1 else 1)) / gcdI (X * (if c < 0 then -1 else 1)) (b * (if (if c < 0 then -c else c) > 1 then (if c < 0 then -c else c) else 1)) = X.fdiv (comI X (b * c)) ∧
    (b * (if (if c < 0 then -c else c) > 1 then (if c < 0 then -c else c) else 1)) / gcdI (X * (if c < 0 then -1 else 1)) (b * (if (if c < 0 then -c else c) > 1 then (if c < 0 then -c else c) else 1)) = (b * c).fdiv (comI X (b * c)) := by
  have e : (if (if c < 0 then -c else c) > 1 then (if c < 0 then -c else c) else 1) = (if c < 0 then -c else c) := by
    split <;> split <;> omega
  rw [e]
  by_cases h : c < 0
  · rw [if_pos h, if_pos h, Int.mul_neg, Int.mul_neg, Int.mul_one]
    have hn : b * c < 0 := Int.mul_neg_of_pos_of_neg hb h
    exact ⟨(frac_low_neg hn).1.symm, (frac_low_neg hn).2.symm⟩
  · rw [if_neg h, if_neg h, Int.mul_one]
    have hp : 0 < b * c := Int.mul_pos hb (by omega)
    exact ⟨(frac_low hp).1.symm, (frac_low hp).2.symm⟩
theorem max_abs (c : Int) (h : c ≠ 0) : (if (if c < 0 then -c else c) > 1 then (if c < 0 then -c else c) else 1) = (if c < 0 then -c else c) := by
  split <;> split <;> omega

section
variable {P : Program} {w : World} {K : PySem.W.Frag} {mg : Str → Option Value} {base : Heap}
-- DEF is_whole

def sp_is_whole (K : PySem.W.Frag) : Sp := fun vs H Q _ => ∃ (x : V) (t : String), vs = [x] ∧ TyX K H x (.type t) ∧ tyOk t ∧ Q (.bl (t == "int")) H

theorem ok_is_whole (T : Txt K mg) : FnOk P w K mg base CX0 1 T.f_is_whole T.fd_is_whole ["thing"] (sp_is_whole K) := by
  refine Fun.ok T.F_is_whole sc_is_whole (fun vs H Q E h => ?_) (fun cdv A outer s H vs Q E hr h => ?_)
  · obtain ⟨_, _, rfl, _⟩ := h; rfl
  · refine ⟨_, (pss_one (ps_ret (pe_and (pe_callB (id := "isinstance") (r := rIsi K) call_isi (by rfl) T.n_isinstance (by decide +kernel) (pa_cons (pv 0) (pa_cons (pe_bltn (v := .ty "int") (by rfl) T.n_int (by decide +kernel) rfl) pa_nil))) (pe_one (pe_not (pe_callB (id := "isinstance") (r := rIsi K) call_isi (by rfl) T.n_isinstance (by decide +kernel) (pa_cons (pv 0) (pa_cons (pe_bltn (v := .ty "bool") (by rfl) T.n_bool (by decide +kernel) rfl) pa_nil)))))))), ?_⟩
    obtain ⟨x, t, rfl, ty, ok, q⟩ := h
    refine ⟨x, rfl, x, _, _, _, _, rfl, ClsV.ty _, ty, kit_ty (ty_int ok), _, rfl, ?_⟩
    rcases ok with rfl | rfl | rfl | rfl | rfl | rfl | rfl
    · exact iteT ⟨x, rfl, x, _, _, _, _, rfl, ClsV.ty _, ty, kit_ty (ty_bool (.inl rfl)), _, rfl, q⟩
    · exact iteT ⟨x, rfl, x, _, _, _, _, rfl, ClsV.ty _, ty, kit_ty (ty_bool (.inr (.inl rfl))), _, rfl, q⟩
    all_goals exact iteF q
-- DEF is_fraction

def sp_is_fraction (K : PySem.W.Frag) : Sp := fun vs H Q _ => ∃ (x : V) (r : Bool), vs = [x] ∧ FracV K H x r ∧ Q (.bl r) H

theorem ok_is_fraction (T : Txt K mg) : FnOk P w K mg base CX0 2 T.f_is_fraction T.fd_is_fraction ["thing"] (sp_is_fraction K) := by
  refine Fun.ok T.F_is_fraction sc_is_fraction (fun vs H Q E h => ?_) (fun cdv A outer s H vs Q E hr h => ?_)
  · obtain ⟨_, _, rfl, _⟩ := h; rfl
  · refine ⟨_, (pss_cons (ps_if (PW.pt (pw_or (pt_not (pt_val (pe_callB (id := "isinstance") (r := rIsi K) call_isi (by rfl) T.n_isinstance (by decide +kernel) (pa_cons (pv 0) (pa_cons (pe_bltn (v := .ty "tuple") (by rfl) T.n_tuple (by decide +kernel) rfl) pa_nil))))) (pw_or1 (pt_cmpR op_ne (pe_callB (id := "len") (r := rLenS K) call_len_seq (by rfl) T.n_len PySem.boot_len (pa_cons (pv 0) pa_nil)) pe_int (nomark _)))))
        (pss_one (ps_ret pe_bl))
        pss_nil)
      (pss_cons (ps_asg (pv 0) (pg_tup rfl (pgs_cons (pg_name (i := 1) sc_is_fraction.nd rfl (by first | exact Or.inl rfl | exact Or.inr rfl)) (pgs_cons (pg_name (i := 2) sc_is_fraction.nd rfl (by first | exact Or.inl rfl | exact Or.inr rfl)) pgs_nil))))
      (pss_cons (ps_if (PW.pt (pw_or (pt_not (pt_val (pe_call (ok_is_whole T) hr (by rfl) T.g_is_whole T.k_is_whole T.b_is_whole .nil pass0 (pa_cons (pv 1) pa_nil)))) (pw_or1 (pt_not (pt_val (pe_call (ok_is_whole T) hr (by rfl) T.g_is_whole T.k_is_whole T.b_is_whole .nil pass0 (pa_cons (pv 2) pa_nil)))))))
        (pss_one (ps_ret pe_bl))
        pss_nil)
      (pss_one (ps_ret (pe_and (pe_cmpR op_ge (pv 2) pe_int (nomark _)) (pe_one (pe_cmpR op_eq (pe_callBfun cr_gcd (by rfl) T.g_gcd (pa_cons (pv 1) (pa_cons (pv 2) pa_nil))) pe_int (nomark _))))))))), ?_⟩
    obtain ⟨x, r, rfl, fv, q⟩ := h
    cases fv with
    | @no x t h k n =>
      refine ⟨x, rfl, x, _, _, _, _, rfl, ClsV.ty _, h, kit_ty (ty_tuple k), _, rfl, ?_⟩
      have e : (t == "tuple") = false := by simpa using n
      rw [e]
      exact iteT q
    | @len p xs e n =>
      refine ⟨.ref p, rfl, .ref p, _, _, _, _, rfl, ClsV.ty _, .base (.tup e), kit_ty (ty_tuple (.inr (.inr (.inr (.inr (.inl rfl)))))), _, rfl, ?_⟩
      refine ⟨.ref p, rfl, p, xs, rfl, .inr (SqT.of e), rfl, _, rfl, ?_⟩
      have e2 : (!decide (V.int (xs.length : Int) = V.int 2)) = true := by
        rw [decide_eq_false (fun z => n (by have := V.int.inj z; omega))]
        rfl
      rw [e2]
      exact iteT q
    | @two p t b e =>
      refine ⟨.ref p, rfl, .ref p, _, _, _, _, rfl, ClsV.ty _, .base (.tup e), kit_ty (ty_tuple (.inr (.inr (.inr (.inr (.inl rfl)))))), _, rfl, ?_⟩
      refine ⟨.ref p, rfl, p, _, rfl, .inr (SqT.of e), rfl, _, rfl, ?_⟩
      refine iteF ?_
      refine ⟨.ref p, rfl, p, _, rfl, SqT.of e, rfl, _, _, rfl, _, _, rfl, rfl, ?_⟩
      refine ⟨_, rfl, _, _, rfl, .base (.int _), .inl rfl, _, rfl, ?_⟩
      refine ⟨_, rfl, _, _, rfl, .base (.int _), .inl rfl, _, rfl, ?_⟩
      refine iteF ?_
      refine ⟨_, rfl, _, _, rfl, rfl, _, rfl, ?_⟩
      by_cases hb : 1 ≤ b
      · rw [decide_eq_true hb] at q ⊢
        refine iteT ?_
        refine ⟨_, rfl, _, rfl, _, _, rfl, rfl, ?_⟩
        have e3 : decide (V.int ((Nat.gcd t.natAbs b.natAbs : Nat) : Int) = V.int 1) = (true && decide (gcdI t b = 1)) := by
          rw [Bool.true_and]
          unfold gcdI
          by_cases g : ((Nat.gcd t.natAbs b.natAbs : Nat) : Int) = 1
          · rw [decide_eq_true g, g]
            exact decide_eq_true rfl
          · rw [decide_eq_false g]
            exact decide_eq_false fun z => g (V.int.inj z)
        rw [e3]
        exact q
      · rw [decide_eq_false hb] at q ⊢
        exact iteF q
    | @odd1 p x y t e h k n =>
      refine ⟨.ref p, rfl, .ref p, _, _, _, _, rfl, ClsV.ty _, .base (.tup e), kit_ty (ty_tuple (.inr (.inr (.inr (.inr (.inl rfl)))))), _, rfl, ?_⟩
      refine ⟨.ref p, rfl, p, _, rfl, .inr (SqT.of e), rfl, _, rfl, ?_⟩
      refine iteF ?_
      refine ⟨.ref p, rfl, p, _, rfl, SqT.of e, rfl, _, _, rfl, _, _, rfl, rfl, ?_⟩
      refine ⟨_, rfl, _, _, rfl, h, k, _, rfl, ?_⟩
      have e2 : (t == "int") = false := by simpa using n
      rw [e2]
      exact iteT q
    | @odd2 p t y u e h k n =>
      refine ⟨.ref p, rfl, .ref p, _, _, _, _, rfl, ClsV.ty _, .base (.tup e), kit_ty (ty_tuple (.inr (.inr (.inr (.inr (.inl rfl)))))), _, rfl, ?_⟩
      refine ⟨.ref p, rfl, p, _, rfl, .inr (SqT.of e), rfl, _, rfl, ?_⟩
      refine iteF ?_
      refine ⟨.ref p, rfl, p, _, rfl, SqT.of e, rfl, _, _, rfl, _, _, rfl, rfl, ?_⟩
      refine ⟨_, rfl, _, _, rfl, .base (.int _), .inl rfl, _, rfl, ?_⟩
      refine ⟨_, rfl, _, _, rfl, h, k, _, rfl, ?_⟩
      have e2 : (u == "int") = false := by simpa using n
      rw [e2]
      exact iteT q
-- DEF fraction

def sp_fraction (K : PySem.W.Frag) : Sp := fun vs H Q _ => ∃ (t b : Int), vs = [.int t, .int b] ∧ b ≠ 0 ∧ Bd 9000 b ∧
  ∀ (p : Addr) (H' : Hp), H p = none → Ex H H' → H' p = some (.tup [.int (t.fdiv (comI t b)), .int (b.fdiv (comI t b))]) → Q (.ref p) H'

theorem ok_fraction (T : Txt K mg) : FnOk P w K mg base CX0 2 T.f_fraction T.fd_fraction ["top", "bottom"] (sp_fraction K) := by
  refine FunD.ok T.F_fraction sc_fraction (fun vs H Q E h => ?_) (fun cdv A outer s H vs Q E hr h => ?_)
  · obtain ⟨_, _, rfl, _⟩ := h; rfl
  · refine ⟨_, (pss_cons (ps_if (PW.pt (pw_or (pt_not (pt_val (pe_call (ok_is_whole T) hr (by rfl) T.g_is_whole T.k_is_whole T.b_is_whole .nil pass0 (pa_cons (pv 0) pa_nil)))) (pw_or1 (pt_not (pt_val (pe_call (ok_is_whole T) hr (by rfl) T.g_is_whole T.k_is_whole T.b_is_whole .nil pass0 (pa_cons (pv 1) pa_nil)))))))
        (pss_one ps_never)
        pss_nil)
      (pss_cons (ps_if (pt_cmpR op_eq (pv 1) pe_int (nomark _))
        (pss_one ps_never)
        pss_nil)
      (pss_cons (ps_set (i := 2) sc_fraction.nd rfl (by first | exact Or.inl rfl | exact Or.inr rfl) (pe_callBfun cr_gcd (by rfl) T.g_gcd (pa_cons (pv 0) (pa_cons (pv 1) pa_nil))))
      (pss_cons (ps_if (pt_cmpR op_lt (pv 1) pe_int (nomark _))
        (pss_one (ps_set (i := 2) sc_fraction.nd rfl (by first | exact Or.inl rfl | exact Or.inr rfl) (pe_un un_neg (pv 2))))
        pss_nil)
      (pss_one (ps_ret (pe_tup (pa_cons (pe_op op_fdivNW (pv 0) (pv 2)) (pa_cons (pe_op op_fdivNW (pv 1) (pv 2)) pa_nil))))))))), ?_⟩
    obtain ⟨t, b, rfl, hb, hbd, q⟩ := h
    refine ⟨_, rfl, _, _, rfl, .base (.int _), .inl rfl, _, rfl, ?_⟩
    refine ⟨_, rfl, _, _, rfl, .base (.int _), .inl rfl, _, rfl, ?_⟩
    refine iteF ?_
    refine ⟨_, rfl, rfl, _, rfl, ?_⟩
    have e1 : decide (V.int b = V.int 0) = false := decide_eq_false fun z => hb (V.int.inj z)
    rw [e1]
    refine iteF ?_
    refine ⟨_, rfl, _, rfl, _, _, rfl, ?_⟩
    refine ⟨_, rfl, _, _, rfl, rfl, _, rfl, ?_⟩
    have fin : ∀ c : Int, c = comI t b → tRet (tTup (tCons (tOp (rI CDivNW fun i j => .int (i.fdiv j)) (tVar 0) (tVar 2)) (tCons (tOp (rI CDivNW fun i j => .int (i.fdiv j)) (tVar 1) (tVar 2)) tNil))) { nx := fun _ H' => Q .non H', rt := Q } [some (.int t), some (.int b), some (.int c)] H := by
      intro c hc
      subst hc
      refine ⟨_, rfl, _, rfl, _, _, rfl, rfl, Bd.divNOk (comI_ne hb) (comI_bd hb hbd), ?_⟩
      refine ⟨_, rfl, _, rfl, _, _, rfl, rfl, Bd.divNOk (comI_ne hb) (comI_bd hb hbd), (by show 2 ≤ sizeLine; decide), fun p hp => ?_⟩
      exact q p _ hp (Ex.new hp) upd_same
    by_cases hn : b < 0
    · rw [decide_eq_true hn]
      refine iteT ?_
      refine ⟨_, rfl, _, rfl, ?_⟩
      exact fin _ (by unfold comI; rw [if_pos hn]; rfl)
    · rw [decide_eq_false hn]
      refine iteF ?_
      exact fin _ (by unfold comI; rw [if_neg hn]; rfl)
-- DEF plus

def sp_plus (K : PySem.W.Frag) : Sp := fun vs H Q _ => ∃ (p q : Addr) (a b c d : Int), vs = [.ref p, .ref q] ∧ H p = some (.tup [.int a, .int b]) ∧ H q = some (.tup [.int c, .int d]) ∧ b ≠ 0 ∧ d ≠ 0 ∧ Bd 1000 a ∧ Bd 1000 b ∧ Bd 1000 c ∧ Bd 1000 d ∧
  ∀ (r : Addr) (H' : Hp), H r = none → Ex H H' → H' r = some (.tup [.int ((a * d + c * b).fdiv (comI (a * d + c * b) (b * d))), .int ((b * d).fdiv (comI (a * d + c * b) (b * d)))]) → Q (.ref r) H'

theorem ok_plus (T : Txt K mg) : FnOk P w K mg base CX0 3 T.f_plus T.fd_plus ["one", "other"] (sp_plus K) := by
  refine Fun.ok T.F_plus sc_plus (fun vs H Q E h => ?_) (fun cdv A outer s H vs Q E hr h => ?_)
  · obtain ⟨_, _, _, _, _, _, rfl, _⟩ := h; rfl
  · refine ⟨_, (pss_one (ps_ret (pe_call (ok_fraction T) hr (by rfl) T.g_fraction T.k_fraction T.b_fraction .nil pass0 (pa_cons (pe_op op_add (pe_op op_mulW (pe_ix ix_tup (pv 0) pe_int (fun _ _ => rfl)) (pe_ix ix_tup (pv 1) pe_int (fun _ _ => rfl))) (pe_op op_mulW (pe_ix ix_tup (pv 1) pe_int (fun _ _ => rfl)) (pe_ix ix_tup (pv 0) pe_int (fun _ _ => rfl)))) (pa_cons (pe_op op_mulW (pe_ix ix_tup (pv 0) pe_int (fun _ _ => rfl)) (pe_ix ix_tup (pv 1) pe_int (fun _ _ => rfl))) pa_nil))))), ?_⟩
    obtain ⟨p, q, a, b, c, d, rfl, hp, hq, hb, hd, ba, bb, bc, bd, k⟩ := h
    refine ⟨_, rfl, p, _, _, _, rfl, rfl, SqT.of hp, rfl, _, rfl, q, _, _, _, rfl, rfl, SqT.of hq, rfl, _, _, rfl, rfl, ba.mulOk bd, ?_⟩
    refine ⟨_, rfl, q, _, _, _, rfl, rfl, SqT.of hq, rfl, _, rfl, p, _, _, _, rfl, rfl, SqT.of hp, rfl, _, _, rfl, rfl, bc.mulOk bb, _, _, rfl, rfl, ?_⟩
    refine ⟨_, rfl, p, _, _, _, rfl, rfl, SqT.of hp, rfl, _, rfl, q, _, _, _, rfl, rfl, SqT.of hq, rfl, _, _, rfl, rfl, bb.mulOk bd, ?_⟩
    exact ⟨_, _, rfl, Int.mul_ne_zero hb hd, (bb.mul bd).mono (by decide), k⟩
-- DEF minus

def sp_minus (K : PySem.W.Frag) : Sp := fun vs H Q _ => ∃ (p q : Addr) (a b c d : Int), vs = [.ref p, .ref q] ∧ H p = some (.tup [.int a, .int b]) ∧ H q = some (.tup [.int c, .int d]) ∧ b ≠ 0 ∧ d ≠ 0 ∧ Bd 1000 a ∧ Bd 1000 b ∧ Bd 1000 c ∧ Bd 1000 d ∧
  ∀ (r : Addr) (H' : Hp), H r = none → Ex H H' → H' r = some (.tup [.int ((a * d - c * b).fdiv (comI (a * d - c * b) (b * d))), .int ((b * d).fdiv (comI (a * d - c * b) (b * d)))]) → Q (.ref r) H'

theorem ok_minus (T : Txt K mg) : FnOk P w K mg base CX0 3 T.f_minus T.fd_minus ["one", "other"] (sp_minus K) := by
  refine Fun.ok T.F_minus sc_minus (fun vs H Q E h => ?_) (fun cdv A outer s H vs Q E hr h => ?_)
  · obtain ⟨_, _, _, _, _, _, rfl, _⟩ := h; rfl
  · refine ⟨_, (pss_one (ps_ret (pe_call (ok_fraction T) hr (by rfl) T.g_fraction T.k_fraction T.b_fraction .nil pass0 (pa_cons (pe_op op_sub (pe_op op_mulW (pe_ix ix_tup (pv 0) pe_int (fun _ _ => rfl)) (pe_ix ix_tup (pv 1) pe_int (fun _ _ => rfl))) (pe_op op_mulW (pe_ix ix_tup (pv 1) pe_int (fun _ _ => rfl)) (pe_ix ix_tup (pv 0) pe_int (fun _ _ => rfl)))) (pa_cons (pe_op op_mulW (pe_ix ix_tup (pv 0) pe_int (fun _ _ => rfl)) (pe_ix ix_tup (pv 1) pe_int (fun _ _ => rfl))) pa_nil))))), ?_⟩
    obtain ⟨p, q, a, b, c, d, rfl, hp, hq, hb, hd, ba, bb, bc, bd, k⟩ := h
    refine ⟨_, rfl, p, _, _, _, rfl, rfl, SqT.of hp, rfl, _, rfl, q, _, _, _, rfl, rfl, SqT.of hq, rfl, _, _, rfl, rfl, ba.mulOk bd, ?_⟩
    refine ⟨_, rfl, q, _, _, _, rfl, rfl, SqT.of hq, rfl, _, rfl, p, _, _, _, rfl, rfl, SqT.of hp, rfl, _, _, rfl, rfl, bc.mulOk bb, _, _, rfl, rfl, ?_⟩
    refine ⟨_, rfl, p, _, _, _, rfl, rfl, SqT.of hp, rfl, _, rfl, q, _, _, _, rfl, rfl, SqT.of hq, rfl, _, _, rfl, rfl, bb.mulOk bd, ?_⟩
    exact ⟨_, _, rfl, Int.mul_ne_zero hb hd, (bb.mul bd).mono (by decide), k⟩
-- DEF times

def sp_times (K : PySem.W.Frag) : Sp := fun vs H Q _ => ∃ (p q : Addr) (a b c d : Int), vs = [.ref p, .ref q] ∧ H p = some (.tup [.int a, .int b]) ∧ H q = some (.tup [.int c, .int d]) ∧ b ≠ 0 ∧ d ≠ 0 ∧ Bd 1000 a ∧ Bd 1000 b ∧ Bd 1000 c ∧ Bd 1000 d ∧
  ∀ (r : Addr) (H' : Hp), H r = none → Ex H H' → H' r = some (.tup [.int ((a * c).fdiv (comI (a * c) (b * d))), .int ((b * d).fdiv (comI (a * c) (b * d)))]) → Q (.ref r) H'

theorem ok_times (T : Txt K mg) : FnOk P w K mg base CX0 3 T.f_times T.fd_times ["one", "other"] (sp_times K) := by
  refine Fun.ok T.F_times sc_times (fun vs H Q E h => ?_) (fun cdv A outer s H vs Q E hr h => ?_)
  · obtain ⟨_, _, _, _, _, _, rfl, _⟩ := h; rfl
  · refine ⟨_, (pss_one (ps_ret (pe_call (ok_fraction T) hr (by rfl) T.g_fraction T.k_fraction T.b_fraction .nil pass0 (pa_cons (pe_op op_mulW (pe_ix ix_tup (pv 0) pe_int (fun _ _ => rfl)) (pe_ix ix_tup (pv 1) pe_int (fun _ _ => rfl))) (pa_cons (pe_op op_mulW (pe_ix ix_tup (pv 0) pe_int (fun _ _ => rfl)) (pe_ix ix_tup (pv 1) pe_int (fun _ _ => rfl))) pa_nil))))), ?_⟩
    obtain ⟨p, q, a, b, c, d, rfl, hp, hq, hb, hd, ba, bb, bc, bd, k⟩ := h
    refine ⟨_, rfl, p, _, _, _, rfl, rfl, SqT.of hp, rfl, _, rfl, q, _, _, _, rfl, rfl, SqT.of hq, rfl, _, _, rfl, rfl, ba.mulOk bc, ?_⟩
    refine ⟨_, rfl, p, _, _, _, rfl, rfl, SqT.of hp, rfl, _, rfl, q, _, _, _, rfl, rfl, SqT.of hq, rfl, _, _, rfl, rfl, bb.mulOk bd, ?_⟩
    exact ⟨_, _, rfl, Int.mul_ne_zero hb hd, (bb.mul bd).mono (by decide), k⟩
-- DEF divided

def sp_divided (K : PySem.W.Frag) : Sp := fun vs H Q _ => ∃ (p q : Addr) (a b c d : Int), vs = [.ref p, .ref q] ∧ H p = some (.tup [.int a, .int b]) ∧ H q = some (.tup [.int c, .int d]) ∧ b ≠ 0 ∧ c ≠ 0 ∧ Bd 1000 a ∧ Bd 1000 b ∧ Bd 1000 c ∧ Bd 1000 d ∧
  ∀ (r : Addr) (H' : Hp), H r = none → Ex H H' → H' r = some (.tup [.int ((a * d).fdiv (comI (a * d) (b * c))), .int ((b * c).fdiv (comI (a * d) (b * c)))]) → Q (.ref r) H'

theorem ok_divided (T : Txt K mg) : FnOk P w K mg base CX0 3 T.f_divided T.fd_divided ["one", "other"] (sp_divided K) := by
  refine Fun.ok T.F_divided sc_divided (fun vs H Q E h => ?_) (fun cdv A outer s H vs Q E hr h => ?_)
  · obtain ⟨_, _, _, _, _, _, rfl, _⟩ := h; rfl
  · refine ⟨_, (pss_one (ps_ret (pe_call (ok_fraction T) hr (by rfl) T.g_fraction T.k_fraction T.b_fraction .nil pass0 (pa_cons (pe_op op_mulW (pe_ix ix_tup (pv 0) pe_int (fun _ _ => rfl)) (pe_ix ix_tup (pv 1) pe_int (fun _ _ => rfl))) (pa_cons (pe_op op_mulW (pe_ix ix_tup (pv 0) pe_int (fun _ _ => rfl)) (pe_ix ix_tup (pv 1) pe_int (fun _ _ => rfl))) pa_nil))))), ?_⟩
    obtain ⟨p, q, a, b, c, d, rfl, hp, hq, hb, hd, ba, bb, bc, bd, k⟩ := h
    refine ⟨_, rfl, p, _, _, _, rfl, rfl, SqT.of hp, rfl, _, rfl, q, _, _, _, rfl, rfl, SqT.of hq, rfl, _, _, rfl, rfl, ba.mulOk bd, ?_⟩
    refine ⟨_, rfl, p, _, _, _, rfl, rfl, SqT.of hp, rfl, _, rfl, q, _, _, _, rfl, rfl, SqT.of hq, rfl, _, _, rfl, rfl, bb.mulOk bc, ?_⟩
    exact ⟨_, _, rfl, Int.mul_ne_zero hb hd, (bb.mul bc).mono (by decide), k⟩
-- DEF under

def sp_under (K : PySem.W.Frag) : Sp := fun vs H Q _ => ∃ (p q : Addr) (a b c d : Int), vs = [.ref p, .ref q] ∧ H p = some (.tup [.int a, .int b]) ∧ H q = some (.tup [.int c, .int d]) ∧ Bd 1000 a ∧ Bd 1000 b ∧ Bd 1000 c ∧ Bd 1000 d ∧
  Q (.bl (decide (a * d < c * b))) H

theorem ok_under (T : Txt K mg) : FnOk P w K mg base CX0 1 T.f_under T.fd_under ["one", "other"] (sp_under K) := by
  refine Fun.ok T.F_under sc_under (fun vs H Q E h => ?_) (fun cdv A outer s H vs Q E hr h => ?_)
  · obtain ⟨_, _, _, _, _, _, rfl, _⟩ := h; rfl
  · refine ⟨_, (pss_one (ps_ret (pe_cmpR op_lt (pe_op op_mulW (pe_ix ix_tup (pv 0) pe_int (fun _ _ => rfl)) (pe_ix ix_tup (pv 1) pe_int (fun _ _ => rfl))) (pe_op op_mulW (pe_ix ix_tup (pv 1) pe_int (fun _ _ => rfl)) (pe_ix ix_tup (pv 0) pe_int (fun _ _ => rfl))) (nomark _)))), ?_⟩
    obtain ⟨p, q, a, b, c, d, rfl, hp, hq, ba, bb, bc, bd, k⟩ := h
    refine ⟨_, rfl, p, _, _, _, rfl, rfl, SqT.of hp, rfl, _, rfl, q, _, _, _, rfl, rfl, SqT.of hq, rfl, _, _, rfl, rfl, ba.mulOk bd, ?_⟩
    refine ⟨_, rfl, q, _, _, _, rfl, rfl, SqT.of hq, rfl, _, rfl, p, _, _, _, rfl, rfl, SqT.of hp, rfl, _, _, rfl, rfl, bc.mulOk bb, _, _, rfl, rfl, k⟩
-- DEF floor_of

def sp_floor_of (K : PySem.W.Frag) : Sp := fun vs H Q _ => ∃ (p : Addr) (a b : Int), vs = [.ref p] ∧ H p = some (.tup [.int a, .int b]) ∧ 0 < b ∧ Bd 1000 b ∧ Q (.int (a / b)) H

theorem ok_floor_of (T : Txt K mg) : FnOk P w K mg base CX0 1 T.f_floor_of T.fd_floor_of ["value"] (sp_floor_of K) := by
  refine Fun.ok T.F_floor_of sc_floor_of (fun vs H Q E h => ?_) (fun cdv A outer s H vs Q E hr h => ?_)
  · obtain ⟨_, _, _, rfl, _⟩ := h; rfl
  · refine ⟨_, (pss_one (ps_ret (pe_op op_fdivW (pe_ix ix_tup (pv 0) pe_int (fun _ _ => rfl)) (pe_ix ix_tup (pv 0) pe_int (fun _ _ => rfl))))), ?_⟩
    obtain ⟨p, a, b, rfl, hp, hb, bb, k⟩ := h
    refine ⟨_, rfl, p, _, _, _, rfl, rfl, SqT.of hp, rfl, _, rfl, p, _, _, _, rfl, rfl, SqT.of hp, rfl, _, _, rfl, rfl, Bd.divOk hb bb, k⟩
-- DEF ceiling_of

def sp_ceiling_of (K : PySem.W.Frag) : Sp := fun vs H Q _ => ∃ (p : Addr) (a b : Int), vs = [.ref p] ∧ H p = some (.tup [.int a, .int b]) ∧ 0 < b ∧ Bd 1000 b ∧ Q (.int (-((-a) / b))) H

theorem ok_ceiling_of (T : Txt K mg) : FnOk P w K mg base CX0 1 T.f_ceiling_of T.fd_ceiling_of ["value"] (sp_ceiling_of K) := by
  refine Fun.ok T.F_ceiling_of sc_ceiling_of (fun vs H Q E h => ?_) (fun cdv A outer s H vs Q E hr h => ?_)
  · obtain ⟨_, _, _, rfl, _⟩ := h; rfl
  · refine ⟨_, (pss_one (ps_ret (pe_un un_neg (pe_op op_fdivW (pe_un un_neg (pe_ix ix_tup (pv 0) pe_int (fun _ _ => rfl))) (pe_ix ix_tup (pv 0) pe_int (fun _ _ => rfl)))))), ?_⟩
    obtain ⟨p, a, b, rfl, hp, hb, bb, k⟩ := h
    refine ⟨_, rfl, p, _, _, _, rfl, rfl, SqT.of hp, rfl, _, rfl, _, rfl, p, _, _, _, rfl, rfl, SqT.of hp, rfl, _, _, rfl, rfl, Bd.divOk hb bb, _, rfl, k⟩
-- DEF _law_source_of

def sp__law_source_of (K : PySem.W.Frag) : Sp := fun vs H Q _ => ∃ c : Int, vs = [.int c] ∧ ∀ (s : Addr) (H' : Hp), H s = none → Ex H H' → SrcAt H' s 0 → Q (.ref s) H'

theorem ok__law_source_of (T : Txt K mg) : FnOk P w K mg base CX0 1 T.f__law_source_of T.fd__law_source_of ["_law_cell"] (sp__law_source_of K) := by
  refine Fun.ok T.F__law_source_of sc__law_source_of (fun vs H Q E h => ?_) (fun cdv A outer s H vs Q E hr h => ?_)
  · obtain ⟨_, rfl, _⟩ := h; rfl
  · refine ⟨_, (pss_one (ps_ret (pe_lst (pa_cons (pe_op op_mul (pv 0) (pe_callTy (T := "int") call_int1 (by rfl) T.n_int (by decide +kernel) (pa_cons (pe_cmpR op_ge (pv 0) (pe_op op_pow pe_int pe_int) (nomark _)) pa_nil))) (pa_cons (pe_op op_mod (pv 0) pe_int) (pa_cons pe_int pa_nil)))))), ?_⟩
    obtain ⟨c, rfl, k⟩ := h
    refine ⟨_, rfl, _, rfl, _, _, rfl, rfl, ⟨by decide, by decide, by decide⟩, _, _, rfl, rfl, .inr ⟨_, rfl, _, _, rfl, rfl, .inr ?_, ?_⟩⟩
    · split <;> exact ⟨by decide, by decide⟩
    refine ⟨_, rfl, _, _, rfl, rfl, (by show (0 : Int) < 2147483647; decide), (by show 3 ≤ sizeLine; decide), fun s hs => ?_⟩
    exact k s _ hs (Ex.new hs) ⟨_, _, _, upd_same, Int.emod_nonneg _ (by decide), Int.emod_lt_of_pos _ (by decide), Int.le_refl _, Int.le_refl _⟩
-- DEF _law_next

def sp__law_next (K : PySem.W.Frag) : Sp := fun vs H Q _ => ∃ (s : Addr) (m n : Int), vs = [.ref s, .int m] ∧ SrcAt H s n ∧ n ≤ 1000000000 ∧ 0 < m ∧ Bd 8000 m ∧
  ∀ (f : Int) (H' : Hp), 0 ≤ f → f < m → ExB s H H' → SrcAt H' s (n + 1) → Q (.int f) H'

theorem ok__law_next (T : Txt K mg) : FnOk P w K mg base CX0 1 T.f__law_next T.fd__law_next ["_law_source", "_law_many"] (sp__law_next K) := by
  refine Fun.ok T.F__law_next sc__law_next (fun vs H Q E h => ?_) (fun cdv A outer s H vs Q E hr h => ?_)
  · obtain ⟨_, _, _, rfl, _⟩ := h; rfl
  · refine ⟨_, (pss_cons (ps_if (pt_cmpR op_gt (pe_ix ix_list (pv 0) pe_int (fun _ _ => rfl)) pe_int (nomark _))
        (pss_cons (ps_set (i := 2) sc__law_next.nd rfl (by first | exact Or.inl rfl | exact Or.inr rfl) (pe_op op_mod (pe_ix ix_list (pv 0) pe_int (fun _ _ => rfl)) (pv 1)))
          (pss_cons (ps_asg (pe_op op_fdivW (pe_ix ix_list (pv 0) pe_int (fun _ _ => rfl)) (pv 1)) (pg_sub (pv 0) pe_int set_list))
          (pss_one (ps_ret (pv 2)))))
        pss_nil)
      (pss_cons (ps_asg (pe_op op_add (pe_ix ix_list (pv 0) pe_int (fun _ _ => rfl)) pe_int) (pg_sub (pv 0) pe_int set_list))
      (pss_cons (ps_set (i := 3) sc__law_next.nd rfl (by first | exact Or.inl rfl | exact Or.inr rfl) (pe_ix ix_list (pe_lst (pa_cons pe_int (pa_cons pe_int (pa_cons pe_int (pa_cons pe_int (pa_cons pe_int (pa_cons pe_int (pa_cons pe_int pa_nil)))))))) (pe_op op_mod (pe_ix ix_list (pv 0) pe_int (fun _ _ => rfl)) pe_int) (fun _ _ => rfl)))
      (pss_cons (ps_set (i := 4) sc__law_next.nd rfl (by first | exact Or.inl rfl | exact Or.inr rfl) (pe_op op_mod (pe_op op_pow (pe_op op_add (pe_op op_add (pe_ix ix_list (pv 0) pe_int (fun _ _ => rfl)) (pe_op op_mul pe_int (pe_ix ix_list (pv 0) pe_int (fun _ _ => rfl)))) pe_int) pe_int) (pv 3)))
      (pss_cons (ps_set (i := 4) sc__law_next.nd rfl (by first | exact Or.inl rfl | exact Or.inr rfl) (pe_op op_mod (pe_op op_mul (pe_op op_add (pv 4) (pe_ix ix_list (pv 0) pe_int (fun _ _ => rfl))) (pe_op op_add (pe_op op_fdiv (pv 4) pe_int) pe_int)) (pv 3)))
      (pss_one (ps_ret (pe_op op_mod (pe_op op_fdiv (pv 4) pe_int) (pv 1))))))))), ?_⟩
    obtain ⟨s, m, n, rfl, ⟨p, u, r, hs, hu0, hu1, hr0, hr1⟩, hn, hm, bm, k⟩ := h
    refine ⟨_, rfl, s, _, _, _, rfl, rfl, SqL.of hs, rfl, _, _, rfl, rfl, _, rfl, ?_⟩
    refine ite2 (fun hp => ?_) (fun _ => ?_)
    · refine ⟨_, rfl, s, _, _, _, rfl, rfl, SqL.of hs, rfl, _, rfl, _, _, rfl, rfl, hm, ?_⟩
      refine ⟨_, rfl, s, _, _, _, rfl, rfl, SqL.of hs, rfl, _, rfl, _, _, rfl, rfl, Bd.divOk hm (bm.mono (by decide : 8000 ≤ 9000)), ?_⟩
      refine ⟨_, rfl, s, _, _, 0, rfl, rfl, hs, rfl, ?_⟩
      refine ⟨_, rfl, ?_⟩
      exact k _ _ (Int.emod_nonneg _ (by omega)) (Int.emod_lt_of_pos _ hm) (ExB.upd _ _ _) ⟨_, _, _, upd_same, hu0, hu1, hr0, by omega⟩
    · refine ⟨_, rfl, s, _, _, _, rfl, rfl, SqL.of hs, rfl, _, _, rfl, rfl, ?_⟩
      refine ⟨_, rfl, s, _, _, 2, rfl, rfl, hs, rfl, ?_⟩
      have hs2 : upd H s (.lst [.int p, .int u, .int (r + 1)]) s = some (.lst [.int p, .int u, .int (r + 1)]) := upd_same
      show tSeq _ _ _ _ (upd H s (.lst [.int p, .int u, .int (r + 1)]))
      generalize hH : upd H s (.lst [.int p, .int u, .int (r + 1)]) = H2 at hs2 ⊢
      refine ⟨(by show 7 ≤ sizeLine; decide), fun l hl => ?_⟩
      have nls : s ≠ l := ne_of_none hs2 hl
      have hs3 : upd H2 l (.lst [V.int 2147483647, V.int 2147483629, V.int 2147483587, V.int 2147483579, V.int 2147483563, V.int 2147483549, V.int 2147483543]) s = some (.lst [.int p, .int u, .int (r + 1)]) := by
        rw [upd_ne nls]
        exact hs2
      obtain ⟨pr, hpr, hp0, hp1⟩ := prime_at (r + 1) (by omega)
      refine ⟨_, rfl, s, _, _, _, rfl, rfl, SqL.of hs3, rfl, _, _, rfl, rfl, (by show (0 : Int) < 7; decide), l, _, _, _, rfl, rfl, SqL.of upd_same, hpr, ?_⟩
      have eH : ExB s H2 (upd H2 l (.lst [V.int 2147483647, V.int 2147483629, V.int 2147483587, V.int 2147483579, V.int 2147483563, V.int 2147483549, V.int 2147483543])) := ExB.of (Ex.new hl)
      generalize upd H2 l (.lst [V.int 2147483647, V.int 2147483629, V.int 2147483587, V.int 2147483579, V.int 2147483563, V.int 2147483549, V.int 2147483543]) = H3 at hs3 eH ⊢
      -- figure
      refine ⟨_, rfl, s, _, _, _, rfl, rfl, SqL.of hs3, rfl, _, rfl, s, _, _, _, rfl, rfl, SqL.of hs3, rfl, _, _, rfl, rfl, .inl ⟨by decide, by decide⟩, _, _, rfl, rfl, _, _, rfl, rfl, _, _, rfl, rfl, ⟨by decide, by decide, ?_⟩, ?_⟩
      · show (u + 7919 * (r + 1) + 1).natAbs < 2 ^ 64
        omega
      refine ⟨_, rfl, _, _, rfl, rfl, hp0, ?_⟩
      have f0 : 0 ≤ (u + 7919 * (r + 1) + 1) ^ (5 : Int).toNat % pr := Int.emod_nonneg _ (by omega)
      have f1 : (u + 7919 * (r + 1) + 1) ^ (5 : Int).toNat % pr < pr := Int.emod_lt_of_pos _ hp0
      show tSeq _ _ _ [some (.ref s), some (.int m), _, some (.int pr), some (.int ((u + 7919 * (r + 1) + 1) ^ (5 : Int).toNat % pr))] _
      generalize (u + 7919 * (r + 1) + 1) ^ (5 : Int).toNat % pr = f at f0 f1 ⊢
      refine ⟨_, rfl, _, rfl, s, _, _, _, rfl, rfl, SqL.of hs3, rfl, _, _, rfl, rfl, ?_⟩
      refine ⟨_, rfl, _, _, rfl, rfl, ⟨by decide, by decide⟩, _, _, rfl, rfl, _, _, rfl, rfl, .inl ?_, ?_⟩
      · constructor <;> omega
      refine ⟨_, rfl, _, _, rfl, rfl, hp0, ?_⟩
      refine ⟨_, rfl, _, _, rfl, rfl, ⟨by decide, by decide⟩, _, rfl, _, _, rfl, rfl, hm, ?_⟩
      refine k _ _ (Int.emod_nonneg _ (by omega)) (Int.emod_lt_of_pos _ hm) (ExB.trans ?_ eH) ⟨_, _, _, hs3, hu0, hu1, by omega, by omega⟩
      rw [← hH]
      exact ExB.upd _ _ _
-- DEF _law_cell_at

def sp__law_cell_at (K : PySem.W.Frag) : Sp := fun vs H Q _ => ∃ (a : Addr) (ns : List Int) (k : Int), vs = [.ref a, .int k] ∧ SqL K H a (ns.map V.int) ∧ 0 ≤ k ∧ ∀ c : Int, Q (.int c) H

theorem ok__law_cell_at (T : Txt K mg) : FnOk P w K mg base CX0 1 T.f__law_cell_at T.fd__law_cell_at ["_law_script", "_law_k"] (sp__law_cell_at K) := by
  refine Fun.ok T.F__law_cell_at sc__law_cell_at (fun vs H Q E h => ?_) (fun cdv A outer s H vs Q E hr h => ?_)
  · obtain ⟨_, _, _, rfl, _⟩ := h; rfl
  · refine ⟨_, (pss_cons (ps_if (pt_cmpR op_lt (pv 1) (pe_callB (id := "len") (r := rLenS K) call_len_seq (by rfl) T.n_len PySem.boot_len (pa_cons (pv 0) pa_nil)) (nomark _))
        (pss_one (ps_ret (pe_ix ix_list (pv 0) (pv 1) (fun _ _ => rfl))))
        pss_nil)
      (pss_one (ps_ret pe_int))), ?_⟩
    obtain ⟨a, ns, k, rfl, hS, hk, q⟩ := h
    refine ⟨_, rfl, _, rfl, a, _, rfl, .inl hS, _, _, rfl, rfl, _, rfl, ?_⟩
    refine ite2 (fun hp => ?_) (fun _ => q 0)
    have hlt : k < ((ns.map V.int).length : Int) := of_decide_eq_true hp
    rw [List.length_map] at hlt
    have hn : k.toNat < ns.length := by omega
    have g : (ns.map V.int)[k.toNat]? = some (.int ns[k.toNat]) := by
      rw [List.getElem?_map, List.getElem?_eq_getElem hn]
      rfl
    refine ⟨_, rfl, _, rfl, a, _, k, _, rfl, rfl, hS, at_of (j := k.toNat) (by omega) g, ?_⟩
    exact q _
-- DEF _law_low

def sp__law_low (K : PySem.W.Frag) : Sp := fun vs H Q _ => ∃ (t b : Int), vs = [.int t, .int b] ∧ 0 < b ∧ Bd 9000 b ∧
  ∀ (p : Addr) (H' : Hp), H p = none → Ex H H' → H' p = some (.tup [.int (t / gcdI t b), .int (b / gcdI t b)]) → Q (.ref p) H'

theorem ok__law_low (T : Txt K mg) : FnOk P w K mg base CX0 1 T.f__law_low T.fd__law_low ["_law_top", "_law_bottom"] (sp__law_low K) := by
  refine Fun.ok T.F__law_low sc__law_low (fun vs H Q E h => ?_) (fun cdv A outer s H vs Q E hr h => ?_)
  · obtain ⟨_, _, rfl, _⟩ := h; rfl
  · refine ⟨_, (pss_cons (ps_set (i := 2) sc__law_low.nd rfl (by first | exact Or.inl rfl | exact Or.inr rfl) (pe_callB (id := "abs") call_abs (by rfl) T.n_abs (by decide +kernel) (pa_cons (pv 0) pa_nil)))
      (pss_cons (ps_set (i := 3) sc__law_low.nd rfl (by first | exact Or.inl rfl | exact Or.inr rfl) (pv 1))
      (pss_cons (ps_while PassesOwn.never (pt_cmpR op_gt (pv 3) pe_int (nomark _))
        (pss_one (ps_par (i := 2) (j := 3) (by rfl) sc__law_low.nd rfl rfl (by decide) rfl rfl (pa_cons (pv 3) (pa_cons (pe_op op_mod (pv 2) (pv 3)) pa_nil)) (by rfl))))
      (pss_one (ps_ret (pe_tup (pa_cons (pe_op op_fdivW (pv 0) (pv 2)) (pa_cons (pe_op op_fdivW (pv 1) (pv 2)) pa_nil)))))))), ?_⟩
    obtain ⟨t, b, rfl, hb, bb, k⟩ := h
    -- one = abs(top); other = bottom
    refine ⟨_, rfl, _, rfl, ?_⟩
    refine ⟨_, rfl, ?_⟩
    -- the loop
    refine ⟨fun m σ H1 => ∃ x y : Int, σ = [some (.int t), some (.int b), some (.int x), some (.int y)] ∧ H1 = H ∧ 0 ≤ x ∧ 0 ≤ y ∧ m = y.toNat ∧ Nat.gcd x.toNat y.toNat = Nat.gcd t.natAbs b.natAbs, ⟨b.toNat, _, b, rfl, rfl, ?_, by omega, rfl, ?_⟩, ?_⟩
    · show (0 : Int) ≤ if t < 0 then -t else t
      split <;> omega
    · have e1 : (if t < 0 then -t else t).toNat = t.natAbs := by
        split <;> omega
      have e2 : b.toNat = b.natAbs := by omega
      rw [e1, e2]
    · rintro m σ H1 ⟨x, y, rfl, rfl, hx, hy, rfl, hg⟩
      refine ⟨_, rfl, _, _, rfl, rfl, _, rfl, ?_⟩
      refine ite2 (fun hp => ?_) (fun hp => ?_)
      · have hy0 : 0 < y := of_decide_eq_true hp
        refine ⟨fun σ' H' => ∃ x' y' : Int, σ' = [some (.int t), some (.int b), some (.int x'), some (.int y')] ∧ H' = H1 ∧ 0 ≤ x' ∧ 0 ≤ y' ∧ y'.toNat < y.toNat ∧ Nat.gcd x'.toNat y'.toNat = Nat.gcd t.natAbs b.natAbs, fun σ' H' ⟨x', y', e1, e2, a1, a2, a3, a4⟩ => ⟨y'.toNat, a3, x', y', e1, e2, a1, a2, rfl, a4⟩, ?_⟩
        refine ⟨_, rfl, _, rfl, _, rfl, _, _, rfl, rfl, hy0, _, _, rfl, ?_⟩
        have m0 := Int.emod_nonneg x (show y ≠ 0 by omega)
        have m1 := Int.emod_lt_of_pos x hy0
        refine ⟨y, x % y, rfl, rfl, hy, m0, by omega, ?_⟩
        have e3 : (x % y).toNat = x.toNat % y.toNat := Int.toNat_emod hx hy
        rw [e3, ← hg, Nat.gcd_comm, ← Nat.gcd_rec, Nat.gcd_comm]
      · have hy0 : y = 0 := by
          have : ¬ 0 < y := fun z => hp (decide_eq_true z)
          omega
        subst hy0
        have eg : x = gcdI t b := by
          have h1 : Nat.gcd x.toNat (0 : Int).toNat = x.toNat := Nat.gcd_zero_right _
          rw [h1] at hg
          unfold gcdI
          omega
        have gp := gcdI_pos (t := t) (show b ≠ 0 by omega)
        have gb : Bd 9000 (gcdI t b) := Bd.abs bb (gcdI_le (by omega))
        subst eg
        refine ⟨_, rfl, _, rfl, _, _, rfl, rfl, Bd.divOk gp gb, _, rfl, _, rfl, _, _, rfl, rfl, Bd.divOk gp gb, (by show 2 ≤ sizeLine; decide), fun p hp => ?_⟩
        exact k p _ hp (Ex.new hp) upd_same
-- DEF _law_value

def sp__law_value (K : PySem.W.Frag) : Sp := fun vs H Q _ => ∃ (s : Addr) (n : Int), vs = [.ref s] ∧ SrcAt H s n ∧ n ≤ 100000000 ∧
  ∀ (a b : Int) (p : Addr) (H' : Hp), 0 < b → gcdI a b = 1 → Bd 140 a → Bd 140 b → H p = none → ExB s H H' → SrcAt H' s (n + 4) → H' p = some (.tup [.int a, .int b]) → Q (.ref p) H'

theorem ok__law_value (T : Txt K mg) : FnOk P w K mg base CX0 2 T.f__law_value T.fd__law_value ["_law_source"] (sp__law_value K) := by
  refine Fun.ok T.F__law_value sc__law_value (fun vs H Q E h => ?_) (fun cdv A outer s H vs Q E hr h => ?_)
  · obtain ⟨_, _, rfl, _⟩ := h; rfl
  · refine ⟨_, (pss_cons (ps_set (i := 1) sc__law_value.nd rfl (by first | exact Or.inl rfl | exact Or.inr rfl) (pe_call (ok__law_next T) hr (by rfl) T.g__law_next T.k__law_next T.b__law_next .nil pass0 (pa_cons (pv 0) (pa_cons pe_int pa_nil))))
      (pss_cons (ps_set (i := 2) sc__law_value.nd rfl (by first | exact Or.inl rfl | exact Or.inr rfl) (pe_op op_sub pe_int (pe_op op_mul pe_int (pe_call (ok__law_next T) hr (by rfl) T.g__law_next T.k__law_next T.b__law_next .nil pass0 (pa_cons (pv 0) (pa_cons pe_int pa_nil))))))
      (pss_cons (ps_set (i := 3) sc__law_value.nd rfl (by first | exact Or.inl rfl | exact Or.inr rfl) (pe_ix ix_list (pe_lst (pa_cons pe_int (pa_cons pe_int (pa_cons (pe_op op_pow pe_int pe_int) (pa_cons (pe_op op_pow pe_int pe_int) pa_nil))))) (pv 1) (fun _ _ => rfl)))
      (pss_one (ps_ret (pe_call (ok__law_low T) hr (by rfl) T.g__law_low T.k__law_low T.b__law_low .nil pass0 (pa_cons (pe_op op_mulW (pv 2) (pe_call (ok__law_next T) hr (by rfl) T.g__law_next T.k__law_next T.b__law_next .nil pass0 (pa_cons (pv 0) (pa_cons (pv 3) pa_nil)))) (pa_cons (pe_op op_add pe_int (pe_call (ok__law_next T) hr (by rfl) T.g__law_next T.k__law_next T.b__law_next .nil pass0 (pa_cons (pv 0) (pa_cons (pv 3) pa_nil)))) pa_nil)))))))), ?_⟩
    obtain ⟨s, n, rfl, hs, hn, k⟩ := h
    refine ⟨_, rfl, s, 4, n, rfl, hs, by omega, by decide, (by unfold Bd; decide +kernel), fun f1 H1 a1 b1 e1 s1 => ?_⟩
    refine ⟨_, rfl, s, 2, n + 1, rfl, s1, by omega, by decide, (by unfold Bd; decide +kernel), fun f2 H2 a2 b2 e2 s2 => ?_⟩
    refine ⟨_, _, rfl, rfl, .inl ⟨by decide, by decide⟩, _, _, rfl, rfl, ?_⟩
    refine ⟨_, _, rfl, rfl, ⟨by decide, by decide, by decide⟩, _, _, rfl, rfl, ⟨by decide, by decide, by decide⟩, (by show 4 ≤ sizeLine; decide), fun l hl => ?_⟩
    obtain ⟨g, hg, g0, g1⟩ := great_at f1 a1 b1
    refine ⟨_, rfl, l, _, _, _, rfl, rfl, SqL.of upd_same, hg, ?_⟩
    have s3 := s2.ex (Ex.new (o := .lst [V.int 7, V.int 1000, V.int (10 ^ (12 : Int).toNat), V.int (10 ^ (39 : Int).toNat)]) hl)
    have e3 : ExB s H (upd H2 l (.lst [V.int 7, V.int 1000, V.int (10 ^ (12 : Int).toNat), V.int (10 ^ (39 : Int).toNat)])) := (e1.trans e2).trans (ExB.of (Ex.new hl))
    generalize upd H2 l (.lst [V.int 7, V.int 1000, V.int (10 ^ (12 : Int).toNat), V.int (10 ^ (39 : Int).toNat)]) = H3 at s3 e3 ⊢
    refine ⟨_, rfl, _, rfl, _, rfl, s, g, n + 1 + 1, rfl, s3, by omega, g0, g1.mono (by decide), fun f4 H4 a4 b4 e4 s4 => ?_⟩
    have bs : Bd 2 (1 - 2 * f2) := by
      have : f2 = 0 ∨ f2 = 1 := by omega
      rcases this with rfl | rfl <;> (unfold Bd; decide)
    have b4' : Bd 130 f4 := g1.abs (by omega)
    refine ⟨_, _, rfl, rfl, bs.mulOk b4', ?_⟩
    refine ⟨_, rfl, _, rfl, s, g, n + 1 + 1 + 1, rfl, s4, by omega, g0, g1.mono (by decide), fun f5 H5 a5 b5 e5 s5 => ?_⟩
    refine ⟨_, _, rfl, rfl, ?_⟩
    have b5' : Bd 131 (1 + f5) := Bd.add (show Bd 130 1 by unfold Bd; decide +kernel) (g1.abs (by omega))
    have hb : 0 < 1 + f5 := by omega
    refine ⟨_, _, rfl, hb, b5'.mono (by decide), fun p H6 hp e6 h6 => ?_⟩
    obtain ⟨l1, l2, l3, l4⟩ := low_terms (t := (1 - 2 * f2) * f4) hb
    have e05 : ExB s H H5 := (e3.trans e4).trans e5
    refine k _ _ p H6 l1 l2 (((bs.mul b4').abs l3).mono (by decide)) ((b5'.abs l4).mono (by decide)) ?_ (e05.trans (ExB.of e6)) ((s5.ex e6).le (by omega)) h6
    cases q : H p with
    | none => rfl
    | some o =>
      by_cases hps : p = s
      · subst hps
        obtain ⟨o', ho'⟩ := s5.some
        rw [ho'] at hp
        cases hp
      · rw [e05 p o hps q] at hp
        cases hp
-- DEF _law_is

def sp__law_is (K : PySem.W.Frag) : Sp := fun vs H Q _ => ∃ (p q : Addr) (x y : Int), vs = [.ref p, .ref q] ∧ H p = some (.tup [.int x, .int y]) ∧ H q = some (.tup [.int x, .int y]) ∧ ∀ H', Ex H H' → Q (.bl true) H'

theorem ok__law_is (T : Txt K mg) : FnOk P w K mg base CX0 1 T.f__law_is T.fd__law_is ["_law_found", "_law_due"] (sp__law_is K) := by
  refine Fun.ok T.F__law_is sc__law_is (fun vs H Q E h => ?_) (fun cdv A outer s H vs Q E hr h => ?_)
  · obtain ⟨_, _, _, _, rfl, _⟩ := h; rfl
  · refine ⟨_, (pss_cons (ps_if (PW.pt (pw_or (pt_not (pt_val (pe_callB (id := "isinstance") (r := rIsi K) call_isi (by rfl) T.n_isinstance (by decide +kernel) (pa_cons (pv 0) (pa_cons (pe_bltn (v := .ty "tuple") (by rfl) T.n_tuple (by decide +kernel) rfl) pa_nil))))) (pw_or1 (pt_cmpR (op_neD hr.units) (pv 0) (pv 1) (nomark _)))))
        (pss_one (ps_ret pe_bl))
        pss_nil)
      (pss_one (ps_ret (pe_callB (id := "all") (r := rAll K) (cr_all rfl) (by rfl) T.n_all (by decide +kernel) (pa_cons (pe_lc (own := [("_law_part", 2)]) (g := gName 2) (tt := tYes) rfl sc__law_is.nd (pi_tup (pv 0)) (blkOk_by (N := ["_law_found", "_law_due", "_law_part"]) (sc := defScope s__law_is) (by decide +kernel)) (fun _ _ _ _ _ => pg_name (i := 2) sc__law_is.nd rfl (Or.inl rfl)) (fun _ _ _ _ _ => pts_nil) (fun _ _ _ _ _ => (pe_and (pe_callB (id := "isinstance") (r := rIsi K) call_isi (by rfl) T.n_isinstance (by decide +kernel) (pa_cons (pv 2) (pa_cons (pe_bltn (v := .ty "int") (by rfl) T.n_int (by decide +kernel) rfl) pa_nil))) (pe_one (pe_not (pe_callB (id := "isinstance") (r := rIsi K) call_isi (by rfl) T.n_isinstance (by decide +kernel) (pa_cons (pv 2) (pa_cons (pe_bltn (v := .ty "bool") (by rfl) T.n_bool (by decide +kernel) rfl) pa_nil)))))))) pa_nil))))), ?_⟩
    obtain ⟨p, q, x, y, rfl, hp, hq, k⟩ := h
    refine ⟨_, rfl, .ref p, _, _, _, _, rfl, ClsV.ty _, .base (.tup hp), kit_ty (ty_tuple (.inr (.inr (.inr (.inr (.inl rfl)))))), _, rfl, ?_⟩
    refine ⟨_, rfl, _, rfl, _, _, .tup (SqT.of hp) (.cons (.int x) (.cons (.int y) .nil)), .tup (SqT.of hq) (.cons (.int x) (.cons (.int y) .nil)), (by rfl), (by rfl), _, rfl, ?_⟩
    have e1 : (!PyData.eqv (.tuple [.int x, .int y]) (.tuple [.int x, .int y])) = false := by
      rw [SeqAt.eqv_refl _ rfl]
      rfl
    rw [e1]
    refine iteF ?_
    refine ⟨_, rfl, p, rfl, ⟨_, SqT.of hp⟩, fun D hD => ?_⟩
    refine lc_tup (K := K) (a := p) (xs := [.int x, .int y]) (fun i H1 => Ex H H1 ∧ H D = none ∧ H1 D = some (.lst ((List.replicate i true).map V.bl))) ⟨Ex.new hD, hD, upd_same⟩ (fun i H1 _ h => SqT.of (h.1 _ _ hp)) (fun i v H1 hi h => ?_) (fun H1 h => ?_)
    · obtain ⟨e, nD, hl⟩ := h
      have hv : ∃ z : Int, v = .int z ∧ i < 2 := by
        match i, hi with
        | 0, hi => exact ⟨x, (Option.some.inj hi).symm, by decide⟩
        | 1, hi => exact ⟨y, (Option.some.inj hi).symm, by decide⟩
      obtain ⟨z, rfl, hi2⟩ := hv
      refine ⟨rfl, ?_⟩
      refine ⟨_, rfl, _, _, _, _, _, rfl, ClsV.ty _, .base (.int _), kit_ty (ty_int (.inl rfl)), _, rfl, ?_⟩
      refine iteT ?_
      refine ⟨_, rfl, _, _, _, _, _, rfl, ClsV.ty _, .base (.int _), kit_ty (ty_bool (.inl rfl)), _, rfl, ?_⟩
      refine ⟨_, hl, (by rw [List.length_map, List.length_replicate]; exact small1000 (by omega)), Ex.mut e nD, nD, ?_⟩
      rw [upd_same, List.replicate_succ', List.map_append]
      rfl
    · obtain ⟨e, nD, hl⟩ := h
      refine ⟨D, _, rfl, SqL.of hl, ?_⟩
      exact k H1 e
-- DEF law

def sp_law (K : PySem.W.Frag) : Sp := fun vs H Q _ => ∃ (a : Addr) (ns : List Int), vs = [.ref a] ∧ SqL K H a (ns.map V.int) ∧ ns.length ≤ 63 ∧ ∀ H', Q (.bl true) H'

theorem ok_law (T : Txt K mg) : FnOk P w K mg base CX0 4 T.f_law T.fd_law ["_law_script"] (sp_law K) := by
  refine Fun.ok T.F_law sc_law (fun vs H Q E h => ?_) (fun cdv A outer s H vs Q E hr h => ?_)
  · obtain ⟨_, _, rfl, _⟩ := h; rfl
  · refine ⟨_, (pss_cons (ps_for PassesOwn.never rfl (pi_range1 (by rfl) T.n_range (pa_cons (pe_op op_add pe_int (pe_op op_fdiv (pe_callB (id := "len") (r := rLenS K) call_len_seq (by rfl) T.n_len PySem.boot_len (pa_cons (pv 0) pa_nil)) pe_int)) pa_nil)) (pg_name (i := 1) sc_law.nd rfl (by first | exact Or.inl rfl | exact Or.inr rfl))
        (pss_cons (ps_set (i := 2) sc_law.nd rfl (by first | exact Or.inl rfl | exact Or.inr rfl) (pe_call (ok__law_source_of T) (hr.mono (by decide)) (by rfl) T.g__law_source_of T.k__law_source_of T.b__law_source_of .nil pass0 (pa_cons (pe_call (ok__law_cell_at T) (hr.mono (by decide)) (by rfl) T.g__law_cell_at T.k__law_cell_at T.b__law_cell_at .nil pass0 (pa_cons (pv 0) (pa_cons (pe_op op_mul pe_int (pv 1)) pa_nil))) pa_nil)))
          (pss_cons (ps_asg (pe_call (ok__law_value T) (hr.mono (by decide)) (by rfl) T.g__law_value T.k__law_value T.b__law_value .nil pass0 (pa_cons (pv 2) pa_nil)) (pg_tup rfl (pgs_cons (pg_name (i := 3) sc_law.nd rfl (by first | exact Or.inl rfl | exact Or.inr rfl)) (pgs_cons (pg_name (i := 4) sc_law.nd rfl (by first | exact Or.inl rfl | exact Or.inr rfl)) pgs_nil))))
          (pss_cons (ps_asg (pe_call (ok__law_value T) (hr.mono (by decide)) (by rfl) T.g__law_value T.k__law_value T.b__law_value .nil pass0 (pa_cons (pe_call (ok__law_source_of T) (hr.mono (by decide)) (by rfl) T.g__law_source_of T.k__law_source_of T.b__law_source_of .nil pass0 (pa_cons (pe_call (ok__law_cell_at T) (hr.mono (by decide)) (by rfl) T.g__law_cell_at T.k__law_cell_at T.b__law_cell_at .nil pass0 (pa_cons (pv 0) (pa_cons (pe_op op_add (pe_op op_mul pe_int (pv 1)) pe_int) pa_nil))) pa_nil)) pa_nil)) (pg_tup rfl (pgs_cons (pg_name (i := 5) sc_law.nd rfl (by first | exact Or.inl rfl | exact Or.inr rfl)) (pgs_cons (pg_name (i := 6) sc_law.nd rfl (by first | exact Or.inl rfl | exact Or.inr rfl)) pgs_nil))))
          (pss_cons (ps_set (i := 7) sc_law.nd rfl (by first | exact Or.inl rfl | exact Or.inr rfl) (pe_tup (pa_cons (pv 3) (pa_cons (pv 4) pa_nil))))
          (pss_cut (ps_set (i := 8) sc_law.nd rfl (by first | exact Or.inl rfl | exact Or.inr rfl) (pe_tup (pa_cons (pv 5) (pa_cons (pv 6) pa_nil))))
          (pss_cons (ps_if (pt_not (pt_val (pe_call (ok__law_is T) (hr.mono (by decide)) (by rfl) T.g__law_is T.k__law_is T.b__law_is .nil pass0 (pa_cons (pe_call (ok_plus T) hr (by rfl) T.g_plus T.k_plus T.b_plus .nil pass0 (pa_cons (pv 7) (pa_cons (pv 8) pa_nil))) (pa_cons (pe_call (ok__law_low T) (hr.mono (by decide)) (by rfl) T.g__law_low T.k__law_low T.b__law_low .nil pass0 (pa_cons (pe_op op_add (pe_op op_mulW (pv 3) (pv 6)) (pe_op op_mulW (pv 5) (pv 4))) (pa_cons (pe_op op_mulW (pv 4) (pv 6)) pa_nil))) pa_nil)))))
            (pss_one (ps_ret pe_bl))
            pss_nil)
          (pss_cons (ps_if (pt_not (pt_val (pe_call (ok__law_is T) (hr.mono (by decide)) (by rfl) T.g__law_is T.k__law_is T.b__law_is .nil pass0 (pa_cons (pe_call (ok_minus T) hr (by rfl) T.g_minus T.k_minus T.b_minus .nil pass0 (pa_cons (pv 7) (pa_cons (pv 8) pa_nil))) (pa_cons (pe_call (ok__law_low T) (hr.mono (by decide)) (by rfl) T.g__law_low T.k__law_low T.b__law_low .nil pass0 (pa_cons (pe_op op_sub (pe_op op_mulW (pv 3) (pv 6)) (pe_op op_mulW (pv 5) (pv 4))) (pa_cons (pe_op op_mulW (pv 4) (pv 6)) pa_nil))) pa_nil)))))
            (pss_one (ps_ret pe_bl))
            pss_nil)
          (pss_cons (ps_if (PW.pt (pw_or (pt_not (pt_val (pe_call (ok__law_is T) (hr.mono (by decide)) (by rfl) T.g__law_is T.k__law_is T.b__law_is .nil pass0 (pa_cons (pe_call (ok_times T) hr (by rfl) T.g_times T.k_times T.b_times .nil pass0 (pa_cons (pv 7) (pa_cons (pv 8) pa_nil))) (pa_cons (pe_call (ok__law_low T) (hr.mono (by decide)) (by rfl) T.g__law_low T.k__law_low T.b__law_low .nil pass0 (pa_cons (pe_op op_mulW (pv 3) (pv 5)) (pa_cons (pe_op op_mulW (pv 4) (pv 6)) pa_nil))) pa_nil))))) (pw_or1 (pt_cmpR op_ne (pe_call (ok_under T) (hr.mono (by decide)) (by rfl) T.g_under T.k_under T.b_under .nil pass0 (pa_cons (pv 7) (pa_cons (pv 8) pa_nil))) (pe_cmpR op_lt (pe_op op_mulW (pv 3) (pv 6)) (pe_op op_mulW (pv 5) (pv 4)) (nomark _)) (nomark _)))))
            (pss_one (ps_ret pe_bl))
            pss_nil)
          (pss_cut (ps_set (i := 9) sc_law.nd rfl (by first | exact Or.inl rfl | exact Or.inr rfl) (pe_call (ok__law_low T) (hr.mono (by decide)) (by rfl) T.g__law_low T.k__law_low T.b__law_low .nil pass0 (pa_cons (pe_op op_mulW (pe_op op_mulW (pv 3) (pv 6)) (pe_ix ix_list (pe_lst (pa_cons pe_int (pa_cons (pe_un un_neg pe_int) pa_nil))) (pe_callTy (T := "int") call_int1 (by rfl) T.n_int (by decide +kernel) (pa_cons (pe_cmpR op_lt (pv 5) pe_int (nomark _)) pa_nil)) (fun _ _ => rfl))) (pa_cons (pe_op op_mulW (pv 4) (pe_callB (call_max2 rfl) (by rfl) T.n_max (by decide +kernel) (pa_cons pe_int (pa_cons (pe_callB (id := "abs") call_abs (by rfl) T.n_abs (by decide +kernel) (pa_cons (pv 5) pa_nil)) pa_nil)))) pa_nil))))
          (pss_cons (ps_if (PW.pt (pw_and (pt_cmpR op_ne (pv 5) pe_int (nomark _)) (pw_and1 (pt_not (pt_val (pe_call (ok__law_is T) (hr.mono (by decide)) (by rfl) T.g__law_is T.k__law_is T.b__law_is .nil pass0 (pa_cons (pe_call (ok_divided T) hr (by rfl) T.g_divided T.k_divided T.b_divided .nil pass0 (pa_cons (pv 7) (pa_cons (pv 8) pa_nil))) (pa_cons (pv 9) pa_nil))))))))
            (pss_one (ps_ret pe_bl))
            pss_nil)
          (pss_cons (ps_if (PW.pt (pw_or (pt_cmpR op_ne (pe_call (ok_floor_of T) (hr.mono (by decide)) (by rfl) T.g_floor_of T.k_floor_of T.b_floor_of .nil pass0 (pa_cons (pv 7) pa_nil)) (pe_op op_fdivW (pv 3) (pv 4)) (nomark _)) (pw_or (pt_cmpR op_ne (pe_call (ok_ceiling_of T) (hr.mono (by decide)) (by rfl) T.g_ceiling_of T.k_ceiling_of T.b_ceiling_of .nil pass0 (pa_cons (pv 7) pa_nil)) (pe_op op_sub pe_int (pe_op op_fdivW (pe_op op_sub pe_int (pv 3)) (pv 4))) (nomark _)) (pw_or1 (pt_cmpR op_ne (pe_call (ok_floor_of T) (hr.mono (by decide)) (by rfl) T.g_floor_of T.k_floor_of T.b_floor_of .nil pass0 (pa_cons (pv 8) pa_nil)) (pe_op op_fdivW (pv 5) (pv 6)) (nomark _))))))
            (pss_one (ps_ret pe_bl))
            pss_nil)
          (pss_cons (ps_set (i := 10) sc_law.nd rfl (by first | exact Or.inl rfl | exact Or.inr rfl) (pe_op op_add pe_int (pe_call (ok__law_next T) (hr.mono (by decide)) (by rfl) T.g__law_next T.k__law_next T.b__law_next .nil pass0 (pa_cons (pv 2) (pa_cons pe_int pa_nil)))))
          (pss_cut (ps_set (i := 11) sc_law.nd rfl (by first | exact Or.inl rfl | exact Or.inr rfl) (pe_ix ix_list (pe_lst (pa_cons pe_int (pa_cons (pe_un un_neg pe_int) pa_nil))) (pe_call (ok__law_next T) (hr.mono (by decide)) (by rfl) T.g__law_next T.k__law_next T.b__law_next .nil pass0 (pa_cons (pv 2) (pa_cons pe_int pa_nil))) (fun _ _ => rfl)))
          (pss_cons (ps_if (PW.pt (pw_or (pt_not (pt_val (pe_call (ok__law_is T) (hr.mono (by decide)) (by rfl) T.g__law_is T.k__law_is T.b__law_is .nil pass0 (pa_cons (pe_call (ok_fraction T) (hr.mono (by decide)) (by rfl) T.g_fraction T.k_fraction T.b_fraction .nil pass0 (pa_cons (pe_op op_mulW (pe_op op_mulW (pv 11) (pv 10)) (pv 3)) (pa_cons (pe_op op_mulW (pe_op op_mulW (pv 11) (pv 10)) (pv 4)) pa_nil))) (pa_cons (pv 7) pa_nil))))) (pw_or1 (pt_not (pt_val (pe_call (ok__law_is T) (hr.mono (by decide)) (by rfl) T.g__law_is T.k__law_is T.b__law_is .nil pass0 (pa_cons (pe_call (ok_fraction T) (hr.mono (by decide)) (by rfl) T.g_fraction T.k_fraction T.b_fraction_1.2 T.b_fraction_1.1 pass0 (pa_cons (pv 3) pa_nil)) (pa_cons (pe_tup (pa_cons (pv 3) (pa_cons pe_int pa_nil))) pa_nil))))))))
            (pss_one (ps_ret pe_bl))
            pss_nil)
          (pss_cut (ps_set (i := 12) sc_law.nd rfl (by first | exact Or.inl rfl | exact Or.inr rfl) (pe_lst (pa_cons (pv 7) (pa_cons (pv 8) (pa_cons (pe_tup (pa_cons (pe_op op_mulW pe_int (pv 3)) (pa_cons (pe_op op_mulW pe_int (pv 4)) pa_nil))) (pa_cons (pe_tup (pa_cons (pv 3) (pa_cons (pe_op op_sub pe_int (pv 4)) pa_nil))) (pa_cons (pe_tup (pa_cons (pv 3) (pa_cons pe_int pa_nil))) (pa_cons (pe_lst (pa_cons (pv 3) (pa_cons (pv 4) pa_nil))) (pa_cons (pe_tup (pa_cons (pv 3) pa_nil)) (pa_cons (pe_tup (pa_cons (pv 3) (pa_cons (pv 4) (pa_cons pe_int pa_nil)))) (pa_cons (pe_tup (pa_cons pe_bl (pa_cons pe_int pa_nil))) (pa_cons (pe_tup (pa_cons (pv 3) (pa_cons pe_bl pa_nil))) (pa_cons pe_non (pa_cons pe_str pa_nil))))))))))))))
          (pss_cons (ps_set (i := 9) sc_law.nd rfl (by first | exact Or.inl rfl | exact Or.inr rfl) (pe_lst (pa_cons pe_bl (pa_cons pe_bl (pa_cons pe_bl (pa_cons pe_bl (pa_cons pe_bl (pa_cons pe_bl (pa_cons pe_bl (pa_cons pe_bl (pa_cons pe_bl (pa_cons pe_bl (pa_cons pe_bl (pa_cons pe_bl pa_nil))))))))))))))
          (pss_cons (ps_if (pt_cmpR (op_neD hr.units) (pe_lc (own := [("_law_thing", 13)]) (g := gName 13) (tt := tYes) rfl sc_law.nd (pi_list (pv 12)) (blkOk_by (N := ["_law_script", "_law_k", "_law_source", "_law_a", "_law_b", "_law_c", "_law_d", "_law_one", "_law_two", "_law_due", "_law_share", "_law_turn", "_law_some", "_law_thing"]) (sc := defScope s_law) (by decide +kernel)) (fun _ _ _ _ _ => pg_name (i := 13) sc_law.nd rfl (Or.inl rfl)) (fun _ _ _ _ _ => pts_nil) (fun _ _ _ _ _ => (pe_call (ok_is_fraction T) (hr.mono (by decide)) (by rfl) T.g_is_fraction T.k_is_fraction T.b_is_fraction .nil pass0 (pa_cons (pv 13) pa_nil)))) (pv 9) (nomark _))
            (pss_one (ps_ret pe_bl))
            pss_nil)
          (pss_cons (ps_set (i := 12) sc_law.nd rfl (by first | exact Or.inl rfl | exact Or.inr rfl) (pe_lst (pa_cons (pv 3) (pa_cons (pe_op op_sub pe_int (pv 4)) (pa_cons pe_bl (pa_cons pe_bl (pa_cons pe_non (pa_cons pe_str (pa_cons (pe_tup (pa_cons pe_int pa_nil)) (pa_cons (pe_lst pa_nil) (pa_cons pe_dnewK pa_nil)))))))))))
          (pss_one (ps_if (pt_cmpR (op_neD hr.units) (pe_lc (own := [("_law_thing", 13)]) (g := gName 13) (tt := tYes) rfl sc_law.nd (pi_list (pv 12)) (blkOk_by (N := ["_law_script", "_law_k", "_law_source", "_law_a", "_law_b", "_law_c", "_law_d", "_law_one", "_law_two", "_law_due", "_law_share", "_law_turn", "_law_some", "_law_thing"]) (sc := defScope s_law) (by decide +kernel)) (fun _ _ _ _ _ => pg_name (i := 13) sc_law.nd rfl (Or.inl rfl)) (fun _ _ _ _ _ => pts_nil) (fun _ _ _ _ _ => (pe_call (ok_is_whole T) (hr.mono (by decide)) (by rfl) T.g_is_whole T.k_is_whole T.b_is_whole .nil pass0 (pa_cons (pv 13) pa_nil)))) (pe_op op_cat (pe_lst (pa_cons pe_bl (pa_cons pe_bl pa_nil))) (pe_op op_rep (pe_lst (pa_cons pe_bl pa_nil)) pe_int)) (nomark _))
            (pss_one (ps_ret pe_bl))
            pss_nil)))))))))))))))))))))
      (pss_one (ps_ret pe_bl))), ?_⟩
    obtain ⟨a0, ns, rfl, hS, hlen, q⟩ := h
    have hz : (ns.map V.int).length = ns.length := List.length_map _
    refine ⟨_, rfl, a0, _, rfl, .inl hS, _, _, rfl, rfl, ⟨by decide, by decide⟩, _, _, rfl, rfl, _, rfl, (by rw [hz]; omega), (by rw [hz]; omega), for_range (lo := 0) (n := _) (fun i σ H' => ∃ y1 y2 y3 y4 y5 y6 y7 y8 y9 y10 y11 y12 y13 : Option V, σ = [some (.ref a0), y1, y2, y3, y4, y5, y6, y7, y8, y9, y10, y11, y12, y13] ∧ Ex H H')
      ⟨_, _, _, _, _, _, _, _, _, _, _, _, _, rfl, Ex.refl H⟩ ?_ (fun σ H' _ => q H')⟩
    rintro i σ H0 hi ⟨y1, y2, y3, y4, y5, y6, y7, y8, y9, y10, y11, y12, y13, rfl, hE⟩
    have hS0 : SqL K H0 a0 (ns.map V.int) := ex_l hE hS
    -- source
    refine ⟨_, rfl, _, rfl, _, _, rfl, rfl, .inl ⟨by decide, by decide⟩, a0, ns, _, rfl, hS0, by omega, fun c0 => ⟨c0, rfl, fun s H1 n1 x1 w1 => ?_⟩⟩
    -- a, b
    refine ⟨_, rfl, s, 0, rfl, w1, by decide, fun a b p H2 hb hg ba bb np e2 s2 hp => ?_⟩
    have E2 : Ex H0 H2 := e2.ex n1 x1
    have n0 : H0 s = none := n1
    refine ⟨p, _, rfl, SqT.of hp, rfl, _, _, rfl, _, _, rfl, rfl, ?_⟩
    -- c, d
    refine ⟨_, rfl, _, rfl, _, _, rfl, rfl, .inl ⟨by decide, by decide⟩, _, _, rfl, rfl, a0, ns, _, rfl, ex_l E2 hS0, by omega, fun c1 => ⟨c1, rfl, fun t H3 n3 x3 w3 => ?_⟩⟩
    refine ⟨t, 0, rfl, w3, by decide, fun c d p' H4 hd hh bc bd np' e4 _ hp' => ?_⟩
    have E4 : Ex H2 H4 := e4.ex n3 x3
    have s4 : SrcAt H4 s (0 + 4) := s2.ex E4
    refine ⟨p', _, rfl, SqT.of hp', rfl, _, _, rfl, _, _, rfl, rfl, ?_⟩
    -- one, two
    refine ⟨_, rfl, _, rfl, (by show 2 ≤ sizeLine; decide), fun p1 n1' => ?_⟩
    refine ⟨fun σ' H5 => ∃ (a b c d : Int) (p1 p2 s : Addr), σ' = [some (.ref a0), some (.int (0 + (i : Int))), some (.ref s), some (.int a), some (.int b), some (.int c), some (.int d), some (.ref p1), some (.ref p2), y9, y10, y11, y12, y13] ∧
        H5 p1 = some (.tup [V.int a, V.int b]) ∧ H5 p2 = some (.tup [V.int c, V.int d]) ∧ Ex H0 H5 ∧ SrcAt H5 s 4 ∧ H0 s = none ∧ 0 < b ∧ 0 < d ∧ gcdI a b = 1 ∧ gcdI c d = 1 ∧ Bd 140 a ∧ Bd 140 b ∧ Bd 140 c ∧ Bd 140 d, ?_, ?_⟩
    · refine ⟨_, rfl, _, rfl, (by show 2 ≤ sizeLine; decide), fun p2 n2' => ?_⟩
      have h1 : upd (upd H4 p1 (.tup [V.int a, V.int b])) p2 (.tup [V.int c, V.int d]) p1 = some (.tup [V.int a, V.int b]) := by
        rw [upd_ne (ne_of_none upd_same n2')]
        exact upd_same
      have E5' : Ex H4 (upd (upd H4 p1 (.tup [V.int a, V.int b])) p2 (.tup [V.int c, V.int d])) := (Ex.new n1').trans (Ex.new n2')
      exact ⟨a, b, c, d, p1, p2, s, rfl, h1, upd_same, (E2.trans E4).trans E5', s4.ex E5', n0, hb, hd, hg, hh, ba, bb, bc, bd⟩
    clear hb hd hg hh ba bb bc bd E4 E2 e2 e4 hp hp' n1' np np' w3 x3 n3 x1 n1 w1 s2 s4 n0
    rintro σ' H5 ⟨a, b, c, d, p1, p2, s, rfl, h1, h2, E5, s5, n0, hb, hd, hg, hh, ba, bb, bc, bd⟩
    have hbd : 0 < b * d := Int.mul_pos hb hd
    have ka : Bd 1000 a := ba.mono (by decide)
    have kb : Bd 1000 b := bb.mono (by decide)
    have kc : Bd 1000 c := bc.mono (by decide)
    have kd : Bd 1000 d := bd.mono (by decide)
    have kbd : Bd 9000 (b * d) := (kb.mul kd).mono (by decide)
    -- plus
    refine ⟨_, rfl, _, rfl, p1, p2, a, b, c, d, rfl, h1, h2, by omega, by omega, ka, kb, kc, kd, fun r H6 nr e6 hr => ?_⟩
    refine ⟨_, rfl, _, rfl, _, _, rfl, rfl, ka.mulOk kd, _, rfl, _, rfl, _, _, rfl, rfl, kc.mulOk kb, _, _, rfl, rfl, _, rfl, _, rfl, _, _, rfl, rfl, kb.mulOk kd, _, _, rfl, hbd, kbd, fun r' H7 nr' e7 hr' => ?_⟩
    rw [(frac_low hbd).1, (frac_low hbd).2] at hr
    refine ⟨r, r', _, _, rfl, e7 _ _ hr, hr', fun H8 e8 => ⟨true, rfl, iteF ?_⟩⟩
    have E8 : Ex H5 H8 := (e6.trans e7).trans e8
    have g1 := E8 _ _ h1
    have g2 := E8 _ _ h2
    have E9 := E5.trans E8
    have s9 := s5.ex E8
    clear h1 h2 hr hr' e6 e7 e8 E8 E5 s5 nr nr'
    -- minus
    refine ⟨_, rfl, _, rfl, p1, p2, a, b, c, d, rfl, g1, g2, by omega, by omega, ka, kb, kc, kd, fun r H6 nr e6 hr => ?_⟩
    refine ⟨_, rfl, _, rfl, _, _, rfl, rfl, ka.mulOk kd, _, rfl, _, rfl, _, _, rfl, rfl, kc.mulOk kb, _, _, rfl, rfl, _, rfl, _, rfl, _, _, rfl, rfl, kb.mulOk kd, _, _, rfl, hbd, kbd, fun r' H7 nr' e7 hr' => ?_⟩
    rw [(frac_low hbd).1, (frac_low hbd).2] at hr
    refine ⟨r, r', _, _, rfl, e7 _ _ hr, hr', fun HA e8 => ⟨true, rfl, iteF ?_⟩⟩
    have EA : Ex H8 HA := (e6.trans e7).trans e8
    have h1 := EA _ _ g1
    have h2 := EA _ _ g2
    have E5 := E9.trans EA
    have s5 := s9.ex EA
    clear g1 g2 hr hr' e6 e7 e8 E9 EA s9 nr nr'
    -- times, under
    refine ⟨_, rfl, _, rfl, p1, p2, a, b, c, d, rfl, h1, h2, by omega, by omega, ka, kb, kc, kd, fun r H6 nr e6 hr => ?_⟩
    refine ⟨_, rfl, _, rfl, _, _, rfl, rfl, ka.mulOk kc, _, rfl, _, rfl, _, _, rfl, rfl, kb.mulOk kd, _, _, rfl, hbd, kbd, fun r' H7 nr' e7 hr' => ?_⟩
    rw [(frac_low hbd).1, (frac_low hbd).2] at hr
    refine ⟨r, r', _, _, rfl, e7 _ _ hr, hr', fun HB e8 => ⟨true, rfl, iteF ?_⟩⟩
    have EB : Ex HA HB := (e6.trans e7).trans e8
    have g1 := EB _ _ h1
    have g2 := EB _ _ h2
    have E9 := E5.trans EB
    have s9 := s5.ex EB
    clear h1 h2 hr hr' e6 e7 e8 EB E5 s5 nr nr'
    refine ⟨_, rfl, _, rfl, p1, p2, a, b, c, d, rfl, g1, g2, ka, kb, kc, kd, ?_⟩
    refine ⟨_, rfl, _, rfl, _, _, rfl, rfl, ka.mulOk kd, _, rfl, _, rfl, _, _, rfl, rfl, kc.mulOk kb, _, _, rfl, rfl, rfl, _, rfl, iteNS rfl ?_⟩
    -- due
    refine ⟨fun σ' HD => ∃ due : Addr, σ' = [some (.ref a0), some (.int (0 + (i : Int))), some (.ref s), some (.int a), some (.int b), some (.int c), some (.int d), some (.ref p1), some (.ref p2), some (.ref due), y10, y11, y12, y13] ∧ Ex HB HD ∧
        (c ≠ 0 → HD due = some (.tup [.int ((a * d).fdiv (comI (a * d) (b * c))), .int ((b * c).fdiv (comI (a * d) (b * c)))])), ?_, ?_⟩
    · refine ⟨_, rfl, _, rfl, _, _, rfl, rfl, ka.mulOk kd, _, rfl, (by show 2 ≤ sizeLine; decide), fun l nl => ?_⟩
      refine ⟨_, rfl, _, _, rfl, rfl, .inr ⟨_, rfl, ?_⟩⟩
      refine ⟨l, _, _, _, rfl, rfl, SqL.of upd_same, sgn_at c, ?_⟩
      have bsg : Bd 2 (if c < 0 then -1 else 1) := by
        split <;> (unfold Bd; decide)
      have EC : Ex HB (upd HB l (.lst [V.int 1, V.int (-1)])) := Ex.new nl
      refine ⟨_, _, rfl, rfl, (ka.mul kd).mulOk bsg, ?_⟩
      refine ⟨_, rfl, _, rfl, _, rfl, _, _, rfl, ?_⟩
      have hM : 0 < (if (if c < 0 then -c else c) > 1 then (if c < 0 then -c else c) else 1) := by
        split <;> omega
      have kM : Bd 1000 (if (if c < 0 then -c else c) > 1 then (if c < 0 then -c else c) else 1) := by
        split <;> split <;> first | exact kc.neg | exact kc | (unfold Bd; decide +kernel)
      refine ⟨_, _, rfl, rfl, kb.mulOk kM, _, _, rfl, Int.mul_pos hb hM, (kb.mul kM).mono (by decide), fun due HD nD eD hDue => ?_⟩
      have ED : Ex HB HD := EC.trans eD
      exact ⟨due, rfl, ED, fun hc => by rw [(due_eq (a * d) hb hc).1, (due_eq (a * d) hb hc).2] at hDue; exact hDue⟩
    rintro σ' HD ⟨due, rfl, ED, hDue⟩
    have h1 := ED _ _ g1
    have h2 := ED _ _ g2
    have E5 := E9.trans ED
    have s5 := s9.ex ED
    clear g1 g2 E9 s9 ED
    refine q_when (b := false) (fun H1 e1 Q1 kq => ?_) (fun z => nomatch z) (fun _ HX eX => ?_)
    · refine ⟨_, rfl, rfl, _, rfl, ?_⟩
      by_cases hc : c = 0
      · have e : decide (V.int c = V.int 0) = true := decide_eq_true (by rw [hc])
        rw [e]
        exact iteF (kq H1 (Ex.refl _))
      · have e : decide (V.int c = V.int 0) = false := decide_eq_false fun z => hc (V.int.inj z)
        rw [e]
        refine iteT ?_
        refine ⟨_, rfl, _, rfl, p1, p2, a, b, c, d, rfl, e1 _ _ h1, e1 _ _ h2, by omega, hc, ka, kb, kc, kd, fun r H6 nr e6 hr => ?_⟩
        refine ⟨_, rfl, r, due, _, _, rfl, hr, ?_, fun H8 e8 => ⟨true, rfl, kq H8 (e6.trans e8)⟩⟩
        exact e6 _ _ (e1 _ _ (hDue hc))
    have g1 := eX _ _ h1
    have g2 := eX _ _ h2
    have E9 := E5.trans eX
    have s9 := s5.ex eX
    clear h1 h2 E5 s5 hDue eX
    -- floors and ceilings
    refine ⟨_, rfl, p1, a, b, rfl, g1, hb, kb, _, rfl, _, rfl, _, _, rfl, rfl, Bd.divOk hb kb, rfl, _, rfl, iteNS rfl ?_⟩
    refine ⟨_, rfl, p1, a, b, rfl, g1, hb, kb, _, rfl, _, _, rfl, rfl, _, rfl, _, _, rfl, rfl, Bd.divOk hb kb, _, _, rfl, rfl, rfl, _, rfl, iteNS (by show V.int (-(-a / b)) = V.int (0 - (0 - a) / b); rw [Int.zero_sub, Int.zero_sub]) ?_⟩
    refine ⟨_, rfl, p2, c, d, rfl, g2, hd, kd, _, rfl, _, rfl, _, _, rfl, rfl, Bd.divOk hd kd, rfl, _, rfl, iteNS rfl ?_⟩
    -- share, turn
    refine ⟨_, rfl, s, 9, _, rfl, s9, by decide, by decide, (by unfold Bd; decide +kernel), fun f1 H1 a1 b1 e1 s1 => ⟨_, _, rfl, rfl, ?_⟩⟩
    have nsp : ∀ {z : Addr} {x y : Int} {H : Hp} {n : Int}, SrcAt H s n → H z = some (.tup [.int x, .int y]) → z ≠ s := fun u v w => by
      obtain ⟨_, _, _, h, _⟩ := u
      rw [w, h] at v
      cases v
    have h1 := e1 _ _ (nsp s9 g1) g1
    have h2 := e1 _ _ (nsp s9 g2) g2
    refine ⟨fun σ' H2 => ∃ tu : Int, σ' = [some (.ref a0), some (.int (0 + (i : Int))), some (.ref s), some (.int a), some (.int b), some (.int c), some (.int d), some (.ref p1), some (.ref p2), some (.ref due), some (.int (1 + f1)), some (.int tu), y12, y13] ∧ Ex H0 H2 ∧
        H2 p1 = some (.tup [.int a, .int b]) ∧ H2 p2 = some (.tup [.int c, .int d]) ∧ tu ≠ 0 ∧ Bd 2 tu, ?_, ?_⟩
    · refine ⟨_, rfl, (by show 2 ≤ sizeLine; decide), fun l nl => ?_⟩
      have eL : Ex H1 (upd H1 l (.lst [V.int 1, V.int (-1)])) := Ex.new nl
      have hl : upd H1 l (.lst [V.int 1, V.int (-1)]) l = some (.lst [V.int 1, V.int (-1)]) := upd_same
      refine ⟨_, rfl, s, 2, _, rfl, s1.ex eL, by decide, by decide, (by unfold Bd; decide +kernel), fun f2 H2 a2 b2 e2 s2 => ?_⟩
      obtain ⟨tu, htu, tu0, btu⟩ := turn_at f2 a2 b2
      have nls : l ≠ s := fun w => by
        subst w
        obtain ⟨o, ho⟩ := s1.some
        rw [ho] at nl
        cases nl
      refine ⟨l, _, _, _, rfl, rfl, SqL.of (e2 _ _ nls hl), htu, ?_⟩
      have g1' := e2 _ _ (nsp (s1.ex eL) (eL _ _ h1)) (eL _ _ h1)
      have g2' := e2 _ _ (nsp (s1.ex eL) (eL _ _ h2)) (eL _ _ h2)
      have EB2 : ExB s H0 H2 := ((ExB.of E9).trans (e1.trans (ExB.of eL))).trans e2
      have EF2 : Ex H0 H2 := EB2.ex n0 (Ex.refl _)
      exact ⟨tu, rfl, EF2, g1', g2', tu0, btu⟩
    rintro σ' H2 ⟨tu, rfl, EF2, g1', g2', tu0, btu⟩
    clear g1 g2 h1 h2 s9 s1 e1 E9 nsp
    have bsh : Bd 4 (1 + f1) := by
      show (1 + f1).natAbs < 16
      omega
    have sh0 : 1 + f1 ≠ 0 := by omega
    have m0 : tu * (1 + f1) ≠ 0 := Int.mul_ne_zero tu0 sh0
    have bm : Bd 1000 (tu * (1 + f1)) := (btu.mul bsh).mono (by decide)
    refine ⟨_, rfl, _, rfl, _, _, rfl, rfl, btu.mulOk bsh, _, rfl, _, _, rfl, rfl, bm.mulOk ka, ?_⟩
    refine ⟨_, rfl, _, rfl, _, _, rfl, rfl, btu.mulOk bsh, _, rfl, _, _, rfl, rfl, bm.mulOk kb, ?_⟩
    refine ⟨_, _, rfl, Int.mul_ne_zero m0 (by omega), (bm.mul kb).mono (by decide), fun r H3 nr e3 hr => ?_⟩
    rw [(frac_share m0 hb hg).1, (frac_share m0 hb hg).2] at hr
    refine ⟨_, rfl, r, p1, _, _, rfl, hr, e3 _ _ g1', fun H4 e4 => ⟨true, rfl, iteF ?_⟩⟩
    refine ⟨_, rfl, _, _, rfl, by decide, (by unfold Bd; decide +kernel), fun r' H5 nr' e5 hr' => ?_⟩
    rw [(frac_one a).1, (frac_one a).2] at hr'
    refine c_tup (ea_cons (ev_var rfl) (ea_cons ev_c ea_nil)) (Nat.le_of_ble_eq_true rfl) fun p3 H6 n3 e6 h3 => ?_
    refine ⟨r', p3, _, _, rfl, e6 _ _ hr', h3, fun H7 e7 => ⟨true, rfl, iteF ?_⟩⟩
    have E7 : Ex H2 H7 := (((e3.trans e4).trans e5).trans e6).trans e7
    have h1 := E7 _ _ g1'
    have h2 := E7 _ _ g2'
    have EF7 := EF2.trans E7
    clear g1' g2' hr hr' e3 e4 e5 e6 e7 nr nr' n3 h3 E7 EF2
    -- what is a fraction
    refine ⟨fun σ' JL => ∃ (l : Addr) (xs : List V), σ' = [some (.ref a0), some (.int (0 + (i : Int))), some (.ref s), some (.int a), some (.int b), some (.int c), some (.int d), some (.ref p1), some (.ref p2), some (.ref due), some (.int (1 + f1)), some (.int tu), some (.ref l), y13] ∧ Ex H0 JL ∧
        JL l = some (.lst xs) ∧ Paired (FracV K JL) xs [true, true, false, false, false, false, false, false, false, false, false, false], ?_, ?_⟩
    · refine ⟨_, rfl, _, rfl, ?_⟩
      have k2 : Bd 2 2 := by
        unfold Bd
        decide
      refine c_tup (ea_cons (ev_op ev_c (ev_var rfl) (rv_I (k2.mulOk ka))) (ea_cons (ev_op ev_c (ev_var rfl) (rv_I (k2.mulOk kb))) ea_nil)) (Nat.le_of_ble_eq_true rfl) fun t3 J3 _ i3 u3 => ?_
      refine c_tup (ea_cons (ev_var rfl) (ea_cons (ev_op ev_c (ev_var rfl) rv_I0) ea_nil)) (Nat.le_of_ble_eq_true rfl) fun t4 J4 _ i4 u4 => ?_
      refine c_tup (ea_cons (ev_var rfl) (ea_cons ev_c ea_nil)) (Nat.le_of_ble_eq_true rfl) fun t5 J5 _ i5 u5 => ?_
      refine c_lst (ea_cons (ev_var rfl) (ea_cons (ev_var rfl) ea_nil)) (Nat.le_of_ble_eq_true rfl) fun t6 J6 _ i6 u6 => ?_
      refine c_tup (ea_cons (ev_var rfl) ea_nil) (Nat.le_of_ble_eq_true rfl) fun t7 J7 _ i7 u7 => ?_
      refine c_tup (ea_cons (ev_var rfl) (ea_cons (ev_var rfl) (ea_cons ev_c ea_nil))) (Nat.le_of_ble_eq_true rfl) fun t8 J8 _ i8 u8 => ?_
      refine c_tup (ea_cons ev_c (ea_cons ev_c ea_nil)) (Nat.le_of_ble_eq_true rfl) fun t9 J9 _ i9 u9 => ?_
      refine c_tup (ea_cons (ev_var rfl) (ea_cons ev_c ea_nil)) (Nat.le_of_ble_eq_true rfl) fun t10 JA _ iA uA => ?_
      refine ⟨(by show 12 ≤ sizeLine; decide), fun l nl => ?_⟩
      have iL : Ex JA (upd JA l (.lst [.ref p1, .ref p2, .ref t3, .ref t4, .ref t5, .ref t6, .ref t7, .ref t8, .ref t9, .ref t10, .non, .str "1"])) := Ex.new nl
      have hl : upd JA l (.lst [.ref p1, .ref p2, .ref t3, .ref t4, .ref t5, .ref t6, .ref t7, .ref t8, .ref t9, .ref t10, .non, .str "1"]) l = some (.lst [.ref p1, .ref p2, .ref t3, .ref t4, .ref t5, .ref t6, .ref t7, .ref t8, .ref t9, .ref t10, .non, .str "1"]) := upd_same
      have FV : Paired (FracV K (upd JA l (.lst [.ref p1, .ref p2, .ref t3, .ref t4, .ref t5, .ref t6, .ref t7, .ref t8, .ref t9, .ref t10, .non, .str "1"]))) [.ref p1, .ref p2, .ref t3, .ref t4, .ref t5, .ref t6, .ref t7, .ref t8, .ref t9, .ref t10, .non, .str "1"] [true, true, false, false, false, false, false, false, false, false, false, false] := by
        have x9 : Ex J9 (upd JA l (.lst [.ref p1, .ref p2, .ref t3, .ref t4, .ref t5, .ref t6, .ref t7, .ref t8, .ref t9, .ref t10, .non, .str "1"])) := iA.trans iL
        have x8 := i9.trans x9
        have x7 := i8.trans x8
        have x6 := i7.trans x7
        have x5 := i6.trans x6
        have x4 := i5.trans x5
        have x3 := i4.trans x4
        have x2 := i3.trans x3
        refine .cons ?_ (.cons ?_ (.cons ?_ (.cons ?_ (.cons ?_ (.cons ?_ (.cons ?_ (.cons ?_ (.cons ?_ (.cons ?_ (.cons ?_ (.cons ?_ .nil)))))))))))
        · have f := FracV.two (K := K) (x2 _ _ h1)
          rw [decide_eq_true (show 1 ≤ b by omega), decide_eq_true hg] at f
          exact f
        · have f := FracV.two (K := K) (x2 _ _ h2)
          rw [decide_eq_true (show 1 ≤ d by omega), decide_eq_true hh] at f
          exact f
        · have f := FracV.two (K := K) (x3 _ _ u3)
          have z : gcdI (2 * a) (2 * b) = 2 := by rw [gcdI_mul, hg]; rfl
          rw [z] at f
          have z2 : decide ((2 : Int) = 1) = false := rfl
          rw [z2, Bool.and_false] at f
          exact f
        · have f := FracV.two (K := K) (x4 _ _ u4)
          rw [decide_eq_false (show ¬ 1 ≤ 0 - b by omega), Bool.false_and] at f
          exact f
        · exact FracV.two (K := K) (x5 _ _ u5)
        · exact .no (.base (.lst (x6 _ _ u6))) (.inr (.inr (.inr (.inr (.inr (.inl rfl)))))) (by decide)
        · exact .len (x7 _ _ u7) (show 1 ≠ 2 by decide)
        · exact .len (x8 _ _ u8) (show 3 ≠ 2 by decide)
        · exact .odd1 (x9 _ _ u9) (.base (.bl _)) (.inr (.inl rfl)) (by decide)
        · exact .odd2 (iL _ _ uA) (.base (.bl _)) (.inr (.inl rfl)) (by decide)
        · exact .no (.base .non) (.inr (.inr (.inl rfl))) (by decide)
        · exact .no (.base (.str _)) (.inr (.inr (.inr (.inl rfl)))) (by decide)
      have EL : Ex H0 (upd JA l (.lst [.ref p1, .ref p2, .ref t3, .ref t4, .ref t5, .ref t6, .ref t7, .ref t8, .ref t9, .ref t10, .non, .str "1"])) := EF7.trans ((((((((i3.trans i4).trans i5).trans i6).trans i7).trans i8).trans i9).trans iA).trans iL)
      exact ⟨l, _, rfl, EL, hl, FV⟩
    rintro σ' JL ⟨l, xs, rfl, EL, hl, FV⟩
    clear h1 h2 EF7
    refine q_asgL (el_lst (ea_cons ev_c (ea_cons ev_c (ea_cons ev_c (ea_cons ev_c (ea_cons ev_c (ea_cons ev_c (ea_cons ev_c (ea_cons ev_c (ea_cons ev_c (ea_cons ev_c (ea_cons ev_c (ea_cons ev_c ea_nil)))))))))))) (Nat.le_of_ble_eq_true rfl)) fun l2 JM _ iM hm => ?_
    refine q_when (b := false) (et_test (ev_opL1 (el_ask (a := l) rfl (iM _ _ hl) (by have := Paired.length FV; simp at this; omega) FV (fun x r H' e f Q1 kq => ⟨_, rfl, x, r, rfl, (f.ex iM).ex e, kq⟩) (fun x => rfl)) (fun H1 e => ev_var rfl) (fun p H1 hp e => rv_neB (SqL.of hp) (SqL.of (e _ _ hm)) (by rfl)))) (fun z => nomatch z) (fun _ H' e => ?_)
    have EL' := (EL.trans iM).trans e
    clear EL FV hl hm e iM
    -- what is a whole number
    refine ⟨_, rfl, _, rfl, _, _, rfl, rfl, ?_⟩
    refine tcons_c (tcons_c (tcons_c (tcons_c ?_)))
    refine c_tup (ea_cons ev_c ea_nil) (Nat.le_of_ble_eq_true rfl) fun t3 J3 _ i3 u3 => ?_
    refine c_lst ea_nil (Nat.le_of_ble_eq_true rfl) fun t4 J4 _ i4 u4 => ?_
    refine fun t5 n5 => ?_
    have i5 : Ex J4 (upd J4 t5 (.dK [])) := Ex.new n5
    have u5 : upd J4 t5 (.dK []) t5 = some (.dK []) := upd_same
    show tNil _ (upd J4 t5 (.dK [])) _
    generalize upd J4 t5 (.dK []) = J5 at i5 u5 ⊢
    refine ⟨(by show 9 ≤ sizeLine; decide), fun l3 nl3 => ?_⟩
    have i6 : Ex J5 (upd J5 l3 (.lst [.int a, .int (0 - b), .bl true, .bl false, .non, .str "3", .ref t3, .ref t4, .ref t5])) := Ex.new nl3
    have u6 : upd J5 l3 (.lst [.int a, .int (0 - b), .bl true, .bl false, .non, .str "3", .ref t3, .ref t4, .ref t5]) l3 = some (.lst [.int a, .int (0 - b), .bl true, .bl false, .non, .str "3", .ref t3, .ref t4, .ref t5]) := upd_same
    generalize upd J5 l3 (.lst [.int a, .int (0 - b), .bl true, .bl false, .non, .str "3", .ref t3, .ref t4, .ref t5]) = J6 at i6 u6 ⊢
    have FW : Paired (WhoV K J6) [.int a, .int (0 - b), .bl true, .bl false, .non, .str "3", .ref t3, .ref t4, .ref t5] [true, true, false, false, false, false, false, false, false] :=
      .cons ⟨_, .base (.int _), .inl rfl, rfl⟩ (.cons ⟨_, .base (.int _), .inl rfl, rfl⟩ (.cons ⟨_, .base (.bl _), .inr (.inl rfl), rfl⟩ (.cons ⟨_, .base (.bl _), .inr (.inl rfl), rfl⟩ (.cons ⟨_, .base .non, .inr (.inr (.inl rfl)), rfl⟩
        (.cons ⟨_, .base (.str _), .inr (.inr (.inr (.inl rfl))), rfl⟩ (.cons ⟨_, .base (.tup (((i4.trans i5).trans i6) _ _ u3)), .inr (.inr (.inr (.inr (.inl rfl)))), rfl⟩ (.cons ⟨_, .base (.lst ((i5.trans i6) _ _ u4)), .inr (.inr (.inr (.inr (.inr (.inl rfl))))), rfl⟩
        (.cons ⟨_, .base (.dK (i6 _ _ u5)), .inr (.inr (.inr (.inr (.inr (.inr rfl))))), rfl⟩ .nil))))))))
    have E6 : Ex H0 J6 := EL'.trans (((i3.trans i4).trans i5).trans i6)
    clear EL' i3 i4 i5 i6 u3 u4 u5 n5
    refine s_when (b := false) (et_test (ev_opLL (el_ask (a := l3) rfl u6 (Nat.le_of_ble_eq_true rfl) FW (fun x r H' e ⟨t, f1, f2, f3⟩ Q1 kq => ⟨_, rfl, x, t, rfl, tyx_ex e f2 f1, f2, by rw [← f3]; exact kq⟩) (fun x => rfl))
      (el_cat (xs := [V.bl true, V.bl true]) (ys := (List.replicate (7 : Int).toNat [V.bl false]).flatten) (el_lst (ea_cons ev_c (ea_cons ev_c ea_nil)) (Nat.le_of_ble_eq_true rfl)) (el_rep (xs := [V.bl false]) (k := 7) (el_lst (ea_cons ev_c ea_nil) (Nat.le_of_ble_eq_true rfl)) ev_c (by decide) (by decide)) (by decide)) (fun p q H1 hp hq e => rv_neB (SqL.of hp) (SqL.of hq) (by rfl)))) (fun z => nomatch z) (fun _ H' e => ?_)
    exact ⟨_, _, _, _, _, _, _, _, _, _, _, _, _, rfl, hE.trans (E6.trans e)⟩
end
/-! ### what the top has written; the end -/
theorem all_mk {P : Program} {w : World} {K : PySem.W.Frag} {h : Heap} {mg : Str → Option Value} {fa : Addr} (X : K.In h) (G : h.Ns mainGlobals mg) (hfa : mg "law" = some (.ref fa))
    {f1 : Addr} {od1 an1 : Option Addr} {sl1 : Array (Option Value)} {oc1 kV1 dc1 pm1 cd1 ct1 : Value}
    (a1 : PySem.W.nsIn K mainGlobals "is_whole" = some (some (.ref f1))) (l1 : K.lookup f1 = some ⟨oc1, od1, .func (PySem.W.fnOf "is_whole" "is_whole" (defArgs s_is_whole) (defBody s_is_whole) (defScope s_is_whole) (.none) kV1 dc1 pm1 an1 cd1 ct1), sl1⟩) (c1 : PySem.W.codeIn K cd1 "is_whole" = true) (k1 : PySem.W.keepIn K (.ref f1) = true)
    {f2 : Addr} {od2 an2 : Option Addr} {sl2 : Array (Option Value)} {oc2 kV2 dc2 pm2 cd2 ct2 : Value}
    (a2 : PySem.W.nsIn K mainGlobals "is_fraction" = some (some (.ref f2))) (l2 : K.lookup f2 = some ⟨oc2, od2, .func (PySem.W.fnOf "is_fraction" "is_fraction" (defArgs s_is_fraction) (defBody s_is_fraction) (defScope s_is_fraction) (.none) kV2 dc2 pm2 an2 cd2 ct2), sl2⟩) (c2 : PySem.W.codeIn K cd2 "is_fraction" = true) (k2 : PySem.W.keepIn K (.ref f2) = true)
    {f3 T3 : Addr} {od3 an3 : Option Addr} {sl3 : Array (Option Value)} {oc3 kV3 dc3 pm3 cd3 ct3 : Value} {oT3 : Obj} {its3 : List Value} {nT3 : Nat}
    (a3 : PySem.W.nsIn K mainGlobals "fraction" = some (some (.ref f3))) (l3 : K.lookup f3 = some ⟨oc3, od3, .func (PySem.W.fnOf "fraction" "fraction" (defArgs s_fraction) (defBody s_fraction) (defScope s_fraction) (.ref T3) kV3 dc3 pm3 an3 cd3 ct3), sl3⟩) (c3 : PySem.W.codeIn K cd3 "fraction" = true) (k3 : PySem.W.keepIn K (.ref f3) = true)
    (t3 : K.lookup T3 = some oT3) (u3 : oT3.data = .seq its3.toArray nT3) (v3 : its3.length = 1 ∧ Vals [.int 1] its3)
    {f4 : Addr} {od4 an4 : Option Addr} {sl4 : Array (Option Value)} {oc4 kV4 dc4 pm4 cd4 ct4 : Value}
    (a4 : PySem.W.nsIn K mainGlobals "plus" = some (some (.ref f4))) (l4 : K.lookup f4 = some ⟨oc4, od4, .func (PySem.W.fnOf "plus" "plus" (defArgs s_plus) (defBody s_plus) (defScope s_plus) (.none) kV4 dc4 pm4 an4 cd4 ct4), sl4⟩) (c4 : PySem.W.codeIn K cd4 "plus" = true) (k4 : PySem.W.keepIn K (.ref f4) = true)
    {f5 : Addr} {od5 an5 : Option Addr} {sl5 : Array (Option Value)} {oc5 kV5 dc5 pm5 cd5 ct5 : Value}
    (a5 : PySem.W.nsIn K mainGlobals "minus" = some (some (.ref f5))) (l5 : K.lookup f5 = some ⟨oc5, od5, .func (PySem.W.fnOf "minus" "minus" (defArgs s_minus) (defBody s_minus) (defScope s_minus) (.none) kV5 dc5 pm5 an5 cd5 ct5), sl5⟩) (c5 : PySem.W.codeIn K cd5 "minus" = true) (k5 : PySem.W.keepIn K (.ref f5) = true)
    {f6 : Addr} {od6 an6 : Option Addr} {sl6 : Array (Option Value)} {oc6 kV6 dc6 pm6 cd6 ct6 : Value}
    (a6 : PySem.W.nsIn K mainGlobals "times" = some (some (.ref f6))) (l6 : K.lookup f6 = some ⟨oc6, od6, .func (PySem.W.fnOf "times" "times" (defArgs s_times) (defBody s_times) (defScope s_times) (.none) kV6 dc6 pm6 an6 cd6 ct6), sl6⟩) (c6 : PySem.W.codeIn K cd6 "times" = true) (k6 : PySem.W.keepIn K (.ref f6) = true)
    {f7 : Addr} {od7 an7 : Option Addr} {sl7 : Array (Option Value)} {oc7 kV7 dc7 pm7 cd7 ct7 : Value}
    (a7 : PySem.W.nsIn K mainGlobals "divided" = some (some (.ref f7))) (l7 : K.lookup f7 = some ⟨oc7, od7, .func (PySem.W.fnOf "divided" "divided" (defArgs s_divided) (defBody s_divided) (defScope s_divided) (.none) kV7 dc7 pm7 an7 cd7 ct7), sl7⟩) (c7 : PySem.W.codeIn K cd7 "divided" = true) (k7 : PySem.W.keepIn K (.ref f7) = true)
    {f8 : Addr} {od8 an8 : Option Addr} {sl8 : Array (Option Value)} {oc8 kV8 dc8 pm8 cd8 ct8 : Value}
    (a8 : PySem.W.nsIn K mainGlobals "under" = some (some (.ref f8))) (l8 : K.lookup f8 = some ⟨oc8, od8, .func (PySem.W.fnOf "under" "under" (defArgs s_under) (defBody s_under) (defScope s_under) (.none) kV8 dc8 pm8 an8 cd8 ct8), sl8⟩) (c8 : PySem.W.codeIn K cd8 "under" = true) (k8 : PySem.W.keepIn K (.ref f8) = true)
    {f9 : Addr} {od9 an9 : Option Addr} {sl9 : Array (Option Value)} {oc9 kV9 dc9 pm9 cd9 ct9 : Value}
    (a9 : PySem.W.nsIn K mainGlobals "floor_of" = some (some (.ref f9))) (l9 : K.lookup f9 = some ⟨oc9, od9, .func (PySem.W.fnOf "floor_of" "floor_of" (defArgs s_floor_of) (defBody s_floor_of) (defScope s_floor_of) (.none) kV9 dc9 pm9 an9 cd9 ct9), sl9⟩) (c9 : PySem.W.codeIn K cd9 "floor_of" = true) (k9 : PySem.W.keepIn K (.ref f9) = true)
    {f10 : Addr} {od10 an10 : Option Addr} {sl10 : Array (Option Value)} {oc10 kV10 dc10 pm10 cd10 ct10 : Value}
    (a10 : PySem.W.nsIn K mainGlobals "ceiling_of" = some (some (.ref f10))) (l10 : K.lookup f10 = some ⟨oc10, od10, .func (PySem.W.fnOf "ceiling_of" "ceiling_of" (defArgs s_ceiling_of) (defBody s_ceiling_of) (defScope s_ceiling_of) (.none) kV10 dc10 pm10 an10 cd10 ct10), sl10⟩) (c10 : PySem.W.codeIn K cd10 "ceiling_of" = true) (k10 : PySem.W.keepIn K (.ref f10) = true)
    {f11 : Addr} {od11 an11 : Option Addr} {sl11 : Array (Option Value)} {oc11 kV11 dc11 pm11 cd11 ct11 : Value}
    (a11 : PySem.W.nsIn K mainGlobals "_law_source_of" = some (some (.ref f11))) (l11 : K.lookup f11 = some ⟨oc11, od11, .func (PySem.W.fnOf "_law_source_of" "_law_source_of" (defArgs s__law_source_of) (defBody s__law_source_of) (defScope s__law_source_of) (.none) kV11 dc11 pm11 an11 cd11 ct11), sl11⟩) (c11 : PySem.W.codeIn K cd11 "_law_source_of" = true) (k11 : PySem.W.keepIn K (.ref f11) = true)
    {f12 : Addr} {od12 an12 : Option Addr} {sl12 : Array (Option Value)} {oc12 kV12 dc12 pm12 cd12 ct12 : Value}
    (a12 : PySem.W.nsIn K mainGlobals "_law_next" = some (some (.ref f12))) (l12 : K.lookup f12 = some ⟨oc12, od12, .func (PySem.W.fnOf "_law_next" "_law_next" (defArgs s__law_next) (defBody s__law_next) (defScope s__law_next) (.none) kV12 dc12 pm12 an12 cd12 ct12), sl12⟩) (c12 : PySem.W.codeIn K cd12 "_law_next" = true) (k12 : PySem.W.keepIn K (.ref f12) = true)
    {f13 : Addr} {od13 an13 : Option Addr} {sl13 : Array (Option Value)} {oc13 kV13 dc13 pm13 cd13 ct13 : Value}
    (a13 : PySem.W.nsIn K mainGlobals "_law_cell_at" = some (some (.ref f13))) (l13 : K.lookup f13 = some ⟨oc13, od13, .func (PySem.W.fnOf "_law_cell_at" "_law_cell_at" (defArgs s__law_cell_at) (defBody s__law_cell_at) (defScope s__law_cell_at) (.none) kV13 dc13 pm13 an13 cd13 ct13), sl13⟩) (c13 : PySem.W.codeIn K cd13 "_law_cell_at" = true) (k13 : PySem.W.keepIn K (.ref f13) = true)
    {f14 : Addr} {od14 an14 : Option Addr} {sl14 : Array (Option Value)} {oc14 kV14 dc14 pm14 cd14 ct14 : Value}
    (a14 : PySem.W.nsIn K mainGlobals "_law_low" = some (some (.ref f14))) (l14 : K.lookup f14 = some ⟨oc14, od14, .func (PySem.W.fnOf "_law_low" "_law_low" (defArgs s__law_low) (defBody s__law_low) (defScope s__law_low) (.none) kV14 dc14 pm14 an14 cd14 ct14), sl14⟩) (c14 : PySem.W.codeIn K cd14 "_law_low" = true) (k14 : PySem.W.keepIn K (.ref f14) = true)
    {f15 : Addr} {od15 an15 : Option Addr} {sl15 : Array (Option Value)} {oc15 kV15 dc15 pm15 cd15 ct15 : Value}
    (a15 : PySem.W.nsIn K mainGlobals "_law_value" = some (some (.ref f15))) (l15 : K.lookup f15 = some ⟨oc15, od15, .func (PySem.W.fnOf "_law_value" "_law_value" (defArgs s__law_value) (defBody s__law_value) (defScope s__law_value) (.none) kV15 dc15 pm15 an15 cd15 ct15), sl15⟩) (c15 : PySem.W.codeIn K cd15 "_law_value" = true) (k15 : PySem.W.keepIn K (.ref f15) = true)
    {f16 : Addr} {od16 an16 : Option Addr} {sl16 : Array (Option Value)} {oc16 kV16 dc16 pm16 cd16 ct16 : Value}
    (a16 : PySem.W.nsIn K mainGlobals "_law_is" = some (some (.ref f16))) (l16 : K.lookup f16 = some ⟨oc16, od16, .func (PySem.W.fnOf "_law_is" "_law_is" (defArgs s__law_is) (defBody s__law_is) (defScope s__law_is) (.none) kV16 dc16 pm16 an16 cd16 ct16), sl16⟩) (c16 : PySem.W.codeIn K cd16 "_law_is" = true) (k16 : PySem.W.keepIn K (.ref f16) = true)
    {f17 : Addr} {od17 an17 : Option Addr} {sl17 : Array (Option Value)} {oc17 kV17 dc17 pm17 cd17 ct17 : Value}
    (a17 : PySem.W.nsIn K mainGlobals "law" = some (some (.ref f17))) (l17 : K.lookup f17 = some ⟨oc17, od17, .func (PySem.W.fnOf "law" "law" (defArgs s_law) (defBody s_law) (defScope s_law) (.none) kV17 dc17 pm17 an17 cd17 ct17), sl17⟩) (c17 : PySem.W.codeIn K cd17 "law" = true) (k17 : PySem.W.keepIn K (.ref f17) = true)
    (z_abs : PySem.W.nsIn K mainGlobals "abs" = some none)
    (z_all : PySem.W.nsIn K mainGlobals "all" = some none)
    (z_bool : PySem.W.nsIn K mainGlobals "bool" = some none)
    (z_int : PySem.W.nsIn K mainGlobals "int" = some none)
    (z_isinstance : PySem.W.nsIn K mainGlobals "isinstance" = some none)
    (z_len : PySem.W.nsIn K mainGlobals "len" = some none)
    (z_max : PySem.W.nsIn K mainGlobals "max" = some none)
    (z_range : PySem.W.nsIn K mainGlobals "range" = some none)
    (z_tuple : PySem.W.nsIn K mainGlobals "tuple" = some none)
    (y_gcd : PySem.W.nsIn K mainGlobals "gcd" = some (some (.builtin "math.gcd")))
    : ∃ fd : FuncData, (∀ (s : Shared) (v : Value), BindsTo s fd ⟨[v], []⟩ [("_law_script", v)]) ∧ ∀ base : Heap, K.In base → base.Ns mainGlobals mg → FnOk P w K mg base CX0 4 fa fd ["_law_script"] (sp_law K) := by
  have e := hfa.symm.trans (PySem.W.mg_of X G a17)
  cases e
  have F1 := fun_mk (st := s_is_whole) l1 c1 k1
  have b1 := F1.binds (ps := ["thing"]) fun _ _ _ _ _ _ us hl => match us, hl with | [_], _ => rfl
  have F2 := fun_mk (st := s_is_fraction) l2 c2 k2
  have b2 := F2.binds (ps := ["thing"]) fun _ _ _ _ _ _ us hl => match us, hl with | [_], _ => rfl
  have F3 : FunD K "fraction" "fraction" (defArgs s_fraction) (defBody s_fraction) (defScope s_fraction) [.int 1] [] f3 _ := ⟨⟨oc3, od3, .ref T3, kV3, dc3, pm3, an3, cd3, ct3, sl3, rfl, l3, c3, .inr ⟨by simp, T3, oT3, its3, nT3, rfl, t3, u3, v3.2⟩, .inl rfl⟩, k3⟩
  obtain ⟨ds3_1, bd3_1⟩ := F3.binds1 (ps := ["top", "bottom"]) 1 0 (by simp) rfl (fun _ _ _ _ _ _ _ us its hl hi => match us, hl, its, hi with | [_], _, [_], _ => ⟨_, rfl, by with_unfolding_all rfl⟩)
  obtain ⟨ds3_2, bd3_2⟩ := F3.binds1 (ps := ["top", "bottom"]) 2 1 (by simp) rfl (fun _ _ _ _ _ _ _ us its hl hi => match us, hl, its, hi with | [_, _], _, [_], _ => ⟨_, rfl, by with_unfolding_all rfl⟩)
  have e3 : ds3_2 = [] := by cases bd3_2.1; rfl
  have b3 := bd3_2.2
  rw [e3] at b3
  have F4 := fun_mk (st := s_plus) l4 c4 k4
  have b4 := F4.binds (ps := ["one", "other"]) fun _ _ _ _ _ _ us hl => match us, hl with | [_, _], _ => rfl
  have F5 := fun_mk (st := s_minus) l5 c5 k5
  have b5 := F5.binds (ps := ["one", "other"]) fun _ _ _ _ _ _ us hl => match us, hl with | [_, _], _ => rfl
  have F6 := fun_mk (st := s_times) l6 c6 k6
  have b6 := F6.binds (ps := ["one", "other"]) fun _ _ _ _ _ _ us hl => match us, hl with | [_, _], _ => rfl
  have F7 := fun_mk (st := s_divided) l7 c7 k7
  have b7 := F7.binds (ps := ["one", "other"]) fun _ _ _ _ _ _ us hl => match us, hl with | [_, _], _ => rfl
  have F8 := fun_mk (st := s_under) l8 c8 k8
  have b8 := F8.binds (ps := ["one", "other"]) fun _ _ _ _ _ _ us hl => match us, hl with | [_, _], _ => rfl
  have F9 := fun_mk (st := s_floor_of) l9 c9 k9
  have b9 := F9.binds (ps := ["value"]) fun _ _ _ _ _ _ us hl => match us, hl with | [_], _ => rfl
  have F10 := fun_mk (st := s_ceiling_of) l10 c10 k10
  have b10 := F10.binds (ps := ["value"]) fun _ _ _ _ _ _ us hl => match us, hl with | [_], _ => rfl
  have F11 := fun_mk (st := s__law_source_of) l11 c11 k11
  have b11 := F11.binds (ps := ["_law_cell"]) fun _ _ _ _ _ _ us hl => match us, hl with | [_], _ => rfl
  have F12 := fun_mk (st := s__law_next) l12 c12 k12
  have b12 := F12.binds (ps := ["_law_source", "_law_many"]) fun _ _ _ _ _ _ us hl => match us, hl with | [_, _], _ => rfl
  have F13 := fun_mk (st := s__law_cell_at) l13 c13 k13
  have b13 := F13.binds (ps := ["_law_script", "_law_k"]) fun _ _ _ _ _ _ us hl => match us, hl with | [_, _], _ => rfl
  have F14 := fun_mk (st := s__law_low) l14 c14 k14
  have b14 := F14.binds (ps := ["_law_top", "_law_bottom"]) fun _ _ _ _ _ _ us hl => match us, hl with | [_, _], _ => rfl
  have F15 := fun_mk (st := s__law_value) l15 c15 k15
  have b15 := F15.binds (ps := ["_law_source"]) fun _ _ _ _ _ _ us hl => match us, hl with | [_], _ => rfl
  have F16 := fun_mk (st := s__law_is) l16 c16 k16
  have b16 := F16.binds (ps := ["_law_found", "_law_due"]) fun _ _ _ _ _ _ us hl => match us, hl with | [_, _], _ => rfl
  have F17 := fun_mk (st := s_law) l17 c17 k17
  have b17 := F17.binds (ps := ["_law_script"]) fun _ _ _ _ _ _ us hl => match us, hl with | [_], _ => rfl
  let T : Txt K mg := {
    f_is_whole := f1, fd_is_whole := _, F_is_whole := F1, g_is_whole := PySem.W.mg_of X G a1, k_is_whole := k1, b_is_whole := b1,
    f_is_fraction := f2, fd_is_fraction := _, F_is_fraction := F2, g_is_fraction := PySem.W.mg_of X G a2, k_is_fraction := k2, b_is_fraction := b2,
    f_fraction := f3, fd_fraction := _, F_fraction := F3, g_fraction := PySem.W.mg_of X G a3, k_fraction := k3, b_fraction := b3, d_fraction_1 := ds3_1, b_fraction_1 := bd3_1,
    f_plus := f4, fd_plus := _, F_plus := F4, g_plus := PySem.W.mg_of X G a4, k_plus := k4, b_plus := b4,
    f_minus := f5, fd_minus := _, F_minus := F5, g_minus := PySem.W.mg_of X G a5, k_minus := k5, b_minus := b5,
    f_times := f6, fd_times := _, F_times := F6, g_times := PySem.W.mg_of X G a6, k_times := k6, b_times := b6,
    f_divided := f7, fd_divided := _, F_divided := F7, g_divided := PySem.W.mg_of X G a7, k_divided := k7, b_divided := b7,
    f_under := f8, fd_under := _, F_under := F8, g_under := PySem.W.mg_of X G a8, k_under := k8, b_under := b8,
    f_floor_of := f9, fd_floor_of := _, F_floor_of := F9, g_floor_of := PySem.W.mg_of X G a9, k_floor_of := k9, b_floor_of := b9,
    f_ceiling_of := f10, fd_ceiling_of := _, F_ceiling_of := F10, g_ceiling_of := PySem.W.mg_of X G a10, k_ceiling_of := k10, b_ceiling_of := b10,
    f__law_source_of := f11, fd__law_source_of := _, F__law_source_of := F11, g__law_source_of := PySem.W.mg_of X G a11, k__law_source_of := k11, b__law_source_of := b11,
    f__law_next := f12, fd__law_next := _, F__law_next := F12, g__law_next := PySem.W.mg_of X G a12, k__law_next := k12, b__law_next := b12,
    f__law_cell_at := f13, fd__law_cell_at := _, F__law_cell_at := F13, g__law_cell_at := PySem.W.mg_of X G a13, k__law_cell_at := k13, b__law_cell_at := b13,
    f__law_low := f14, fd__law_low := _, F__law_low := F14, g__law_low := PySem.W.mg_of X G a14, k__law_low := k14, b__law_low := b14,
    f__law_value := f15, fd__law_value := _, F__law_value := F15, g__law_value := PySem.W.mg_of X G a15, k__law_value := k15, b__law_value := b15,
    f__law_is := f16, fd__law_is := _, F__law_is := F16, g__law_is := PySem.W.mg_of X G a16, k__law_is := k16, b__law_is := b16,
    f_law := fa, fd_law := _, F_law := F17, g_law := PySem.W.mg_of X G a17, k_law := k17, b_law := b17,
    n_abs := PySem.W.mg_none_of X G z_abs,
    n_all := PySem.W.mg_none_of X G z_all,
    n_bool := PySem.W.mg_none_of X G z_bool,
    n_int := PySem.W.mg_none_of X G z_int,
    n_isinstance := PySem.W.mg_none_of X G z_isinstance,
    n_len := PySem.W.mg_none_of X G z_len,
    n_max := PySem.W.mg_none_of X G z_max,
    n_range := PySem.W.mg_none_of X G z_range,
    n_tuple := PySem.W.mg_none_of X G z_tuple,
    g_gcd := PySem.W.mg_of X G y_gcd }
  exact ⟨_, fun s v => .of_eq rfl, fun base _ _ => ok_law (base := base) T⟩
end SbA
open PySem PySem.W PyProof.Rows
set_option maxRecDepth 100000 in
set_option maxHeartbeats 0 in
theorem PySem.Challenge.cw_signbook_k01_fractions_holds : PySem.Challenge.rw_signbook_k01_fractions.Holds := by
  w_on; o_law; k_head; (case hw => w_witness2)
  k_fill
  refine L2.walk_of (l := PySem.Challenge.rw_signbook_k01_fractions) (n := 63) (k := 4) (x := "_law_script") (CX := fun _ => L2.CX0) (sp := fun w => SbA.sp_law _) rfl (by decide) rfl ⟨rfl, by decide, by decide⟩ (fun w h Y => PySem.W.kIn_of Y) ?F (fun _ _ a ns hl _ hS => ⟨a, ns, rfl, hS, hl, fun _ => rfl⟩) (fun _ _ _ _ _ h => h)
  case F =>
    intro w mg fa h KX G hmg
    refine' SbA.all_mk KX G hmg ?a1 ?l1 ?c1 ?k1 ?a2 ?l2 ?c2 ?k2 ?a3 ?l3 ?c3 ?k3 ?t3 ?u3 ?v3 ?a4 ?l4 ?c4 ?k4 ?a5 ?l5 ?c5 ?k5 ?a6 ?l6 ?c6 ?k6 ?a7 ?l7 ?c7 ?k7 ?a8 ?l8 ?c8 ?k8 ?a9 ?l9 ?c9 ?k9 ?a10 ?l10 ?c10 ?k10 ?a11 ?l11 ?c11 ?k11 ?a12 ?l12 ?c12 ?k12 ?a13 ?l13 ?c13 ?k13 ?a14 ?l14 ?c14 ?k14 ?a15 ?l15 ?c15 ?k15 ?a16 ?l16 ?c16 ?k16 ?a17 ?l17 ?c17 ?k17 ?z_abs ?z_all ?z_bool ?z_int ?z_isinstance ?z_len ?z_max ?z_range ?z_tuple ?y_gcd
    (case a1 => k_is)
    (case l1 => k_is)
    (case c1 => k_is)
    (case k1 => k_is)
    (case a2 => k_is)
    (case l2 => k_is)
    (case c2 => k_is)
    (case k2 => k_is)
    (case a3 => k_is)
    (case l3 => k_is)
    (case c3 => k_is)
    (case k3 => k_is)
    (case t3 => k_is)
    (case u3 => rfl)
    (case v3 => exact ⟨rfl, by repeat (first | exact .nil | refine .cons ⟨_, rfl⟩ ?_ | refine .cons rfl ?_)⟩)
    (case a4 => k_is)
    (case l4 => k_is)
    (case c4 => k_is)
    (case k4 => k_is)
    (case a5 => k_is)
    (case l5 => k_is)
    (case c5 => k_is)
    (case k5 => k_is)
    (case a6 => k_is)
    (case l6 => k_is)
    (case c6 => k_is)
    (case k6 => k_is)
    (case a7 => k_is)
    (case l7 => k_is)
    (case c7 => k_is)
    (case k7 => k_is)
    (case a8 => k_is)
    (case l8 => k_is)
    (case c8 => k_is)
    (case k8 => k_is)
    (case a9 => k_is)
    (case l9 => k_is)
    (case c9 => k_is)
    (case k9 => k_is)
    (case a10 => k_is)
    (case l10 => k_is)
    (case c10 => k_is)
    (case k10 => k_is)
    (case a11 => k_is)
    (case l11 => k_is)
    (case c11 => k_is)
    (case k11 => k_is)
    (case a12 => k_is)
    (case l12 => k_is)
    (case c12 => k_is)
    (case k12 => k_is)
    (case a13 => k_is)
    (case l13 => k_is)
    (case c13 => k_is)
    (case k13 => k_is)
    (case a14 => k_is)
    (case l14 => k_is)
    (case c14 => k_is)
    (case k14 => k_is)
    (case a15 => k_is)
    (case l15 => k_is)
    (case c15 => k_is)
    (case k15 => k_is)
    (case a16 => k_is)
    (case l16 => k_is)
    (case c16 => k_is)
    (case k16 => k_is)
    (case a17 => k_is)
    (case l17 => k_is)
    (case c17 => k_is)
    (case k17 => k_is)
    (case z_abs => k_is)
    (case z_all => k_is)
    (case z_bool => k_is)
    (case z_int => k_is)
    (case z_isinstance => k_is)
    (case z_len => k_is)
    (case z_max => k_is)
    (case z_range => k_is)
    (case z_tuple => k_is)
    (case y_gcd => k_is)
