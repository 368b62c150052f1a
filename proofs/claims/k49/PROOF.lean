import PyProof.Rows.All
import Wide.All
import OpenK.AllK
import Wide.FinOn
import PyProof.EqAt
import PyProof.EqKinds
import PyProof.TupleCall
import HandS.ForMost
import HandS.Evl
import HandS.Wide
import HandS.Gcd
import HandS.IsInst
import HandS.Defaults
import HandS.Zip
import HandS.Conv
import HandS.Style
import HandS.TryOnly
import PyProof.ReprRoads
import HandS.Lambda
import HandS.Ends
import HandS.Words
import HandS.Flow
import PySem.Challenge.RW_signbook_k49_tables_of_nets
set_option Elab.async false
set_option linter.all false
set_option maxRecDepth 100000
set_option maxHeartbeats 2000000
/-! places that hang together by ends: by cuts, by groups joined, by going round -/
namespace Gr
abbrev Edges := List (Int × Int)
/-- no cut that leaves all ends whole parts the two -/
def Same (es : Edges) (a b : Int) : Prop := ∀ S : Int → Bool, (∀ e ∈ es, S e.1 = S e.2) → S a = S b
theorem Same.refl {es : Edges} (a : Int) : Same es a a := fun _ _ => rfl
theorem Same.symm {es : Edges} {a b : Int} (h : Same es a b) : Same es b a := fun S hS => (h S hS).symm
theorem Same.trans {es : Edges} {a b c : Int} (h : Same es a b) (g : Same es b c) : Same es a c := fun S hS => (h S hS).trans (g S hS)
theorem Same.edge {es : Edges} {e : Int × Int} (h : e ∈ es) : Same es e.1 e.2 := fun S hS => hS e h
theorem Same.mono {es fs : Edges} {a b : Int} (h : Same es a b) (g : ∀ e ∈ es, e ∈ fs) : Same fs a b := fun S hS => h S fun e he => hS e (g e he)
/-- the group of each place, once the groups of two are one -/
def join (g : Int → Int) (a b : Int) : Int → Int := fun p => if g p = g b then g a else g p
def joins (es : Edges) (g : Int → Int) : Int → Int := es.foldl (fun g e => join g e.1 e.2) g
theorem joins_snoc (es : Edges) (e : Int × Int) (g : Int → Int) : joins (es ++ [e]) g = join (joins es g) e.1 e.2 := by
  unfold joins
  rw [List.foldl_append]
  rfl
theorem joins_mem {es : Edges} (P : Int → Prop) {g : Int → Int} (h : ∀ p, P p → P (g p)) (he : ∀ e ∈ es, P e.1) : ∀ p, P p → P (joins es g p) := by
  induction es generalizing g with
  | nil => exact h
  | cons e es ih =>
    refine ih (g := join g e.1 e.2) (fun p hp => ?_) fun f hf => he f (.tail _ hf)
    unfold join
    split
    · exact h _ (he e (.head _))
    · exact h p hp
/-- one group just where no cut parts them: to be gone through from the last end on -/
theorem joins_same : ∀ (n : Nat) (es : Edges), es.length = n → ∀ p q, (joins es id p = joins es id q ↔ Same es p q)
  | 0, es, hl, p, q => by
    rw [List.length_eq_zero_iff.mp hl]
    refine ⟨fun h => ?_, fun h => ?_⟩
    · have h : p = q := h
      rw [h]
      exact .refl q
    · have := h (fun x => decide (x = p)) (fun e he => by simp at he)
      show p = q
      have : decide (p = p) = decide (q = p) := this
      rw [decide_eq_true rfl] at this
      exact (of_decide_eq_true this.symm).symm
  | n + 1, es, hl, p, q => by
    obtain ⟨fs, e, rfl⟩ : ∃ fs e, es = fs ++ [e] := by
      have hn : es ≠ [] := fun z => by rw [z] at hl; simp at hl
      exact ⟨es.dropLast, es.getLast hn, (List.dropLast_concat_getLast hn).symm⟩
    have ih := joins_same n fs (by rw [List.length_append] at hl; simp at hl; omega)
    have up : ∀ {a b}, Same fs a b → Same (fs ++ [e]) a b := fun h => h.mono fun e he => List.mem_append_left _ he
    have ed : Same (fs ++ [e]) e.1 e.2 := .edge (List.mem_append_right _ (List.mem_singleton_self _))
    rw [joins_snoc]
    have key : ∀ p q, joins fs id p = joins fs id q → join (joins fs id) e.1 e.2 p = join (joins fs id) e.1 e.2 q := fun p q h => by
      unfold join
      rw [h]
    refine ⟨fun h => ?_, fun h => ?_⟩
    · have side : ∀ p, Same (fs ++ [e]) p (if joins fs id p = joins fs id e.2 then e.1 else p) := fun p => by
        split
        · exact (up ((ih p e.2).mp ‹_›)).trans ed.symm
        · exact .refl p
      have lab : ∀ p, join (joins fs id) e.1 e.2 p = joins fs id (if joins fs id p = joins fs id e.2 then e.1 else p) := fun p => by
        unfold join
        split <;> rfl
      rw [lab, lab] at h
      exact ((side p).trans (up ((ih _ _).mp h))).trans (side q).symm
    · have := h (fun x => decide (join (joins fs id) e.1 e.2 x = join (joins fs id) e.1 e.2 p)) (fun f hf => by
        have : join (joins fs id) e.1 e.2 f.1 = join (joins fs id) e.1 e.2 f.2 := by
          rcases List.mem_append.mp hf with h | h
          · exact key _ _ ((ih _ _).mpr (.edge h))
          · rw [List.mem_singleton.mp h]
            unfold join
            rw [if_pos rfl]
            split <;> rfl
        simp only [this])
      simp only [decide_true] at this
      exact (of_decide_eq_true this.symm).symm
/-- at least so many groups are left: places told apart by their groups -/
theorem apart {m : Nat} : ∀ (n : Nat) (es : Edges), es.length = n → ∀ R0 : List Int, R0.Nodup → ∃ R : List Int, R.Nodup ∧ (∀ x ∈ R, x ∈ R0) ∧ R0.length ≤ R.length + n ∧ ∀ x ∈ R, ∀ y ∈ R, joins es id x = joins es id y → x = y
  | 0, es, hl, R0, h0 => by
    rw [List.length_eq_zero_iff.mp hl]
    exact ⟨R0, h0, fun _ h => h, Nat.le_refl _, fun x _ y _ h => h⟩
  | n + 1, es, hl, R0, h0 => by
    obtain ⟨fs, e, rfl⟩ : ∃ fs e, es = fs ++ [e] := by
      have hn : es ≠ [] := fun z => by rw [z] at hl; simp at hl
      exact ⟨es.dropLast, es.getLast hn, (List.dropLast_concat_getLast hn).symm⟩
    obtain ⟨R, h1, h2, h3, h4⟩ := apart (m := m) n fs (by rw [List.length_append] at hl; simp at hl; omega) R0 h0
    have hd : ∀ x ∈ R, joins fs id x = joins fs id e.2 → R.length ≤ (R.filter fun y => joins fs id y != joins fs id e.2).length + 1 := fun x hx hg => by
      have : ∀ (L : List Int), L.Nodup → (∀ y ∈ L, joins fs id y = joins fs id e.2 → y = x) → L.length ≤ (L.filter fun y => joins fs id y != joins fs id e.2).length + 1 := by
        intro L
        induction L with
        | nil => intro _ _; exact Nat.zero_le _
        | cons y L ih =>
          intro nd hy
          have nd2 := List.nodup_cons.mp nd
          by_cases c : joins fs id y = joins fs id e.2
          · have yx := hy y (.head _) c
            have e1 : L.filter (fun y => joins fs id y != joins fs id e.2) = L := List.filter_eq_self.mpr fun z hz => bne_iff_ne.mpr fun q => nd2.1 (by rw [yx, ← hy z (.tail _ hz) q]; exact hz)
            rw [List.filter_cons_of_neg (by simpa using c), e1]
            exact Nat.le_refl _
          · rw [List.filter_cons_of_pos (by simpa using c), List.length_cons, List.length_cons]
            have := ih nd2.2 fun z hz => hy z (.tail _ hz)
            omega
      exact this R h1 fun y hy q => h4 y hy x hx (q.trans hg.symm)
    refine ⟨R.filter fun y => joins fs id y != joins fs id e.2, h1.filter _, fun x hx => h2 x (List.mem_filter.mp hx).1, ?_, fun x hx y hy h => ?_⟩
    · by_cases c : ∃ x ∈ R, joins fs id x = joins fs id e.2
      · obtain ⟨x, hx, hg⟩ := c
        have := hd x hx hg
        omega
      · have e1 : R.filter (fun y => joins fs id y != joins fs id e.2) = R := List.filter_eq_self.mpr fun z hz => bne_iff_ne.mpr fun q => c ⟨z, hz, q⟩
        rw [e1]
        omega
    · obtain ⟨x1, x2⟩ := List.mem_filter.mp hx
      obtain ⟨y1, y2⟩ := List.mem_filter.mp hy
      rw [joins_snoc] at h
      unfold join at h
      rw [if_neg (bne_iff_ne.mp x2), if_neg (bne_iff_ne.mp y2)] at h
      exact h4 x x1 y y1 h
/-- where all places of a list hang together there are at least as many ends, less one -/
theorem ends_many {es : Edges} {R0 : List Int} (nd : R0.Nodup) (h : ∀ a ∈ R0, ∀ b ∈ R0, Same es a b) : R0.length ≤ es.length + 1 := by
  obtain ⟨R, h1, h2, h3, h4⟩ := apart (m := 0) es.length es rfl R0 nd
  have : R.length ≤ 1 := by
    match R, h1, h2, h4 with
    | [], _, _, _ => exact Nat.zero_le _
    | [_], _, _, _ => exact Nat.le_refl _
    | x :: y :: l, h1, h2, h4 =>
      have := h4 x (.head _) y (.tail _ (.head _)) ((joins_same es.length es rfl x y).mpr (h x (h2 x (.head _)) y (h2 y (.tail _ (.head _)))))
      rw [this] at h1
      exact absurd (List.mem_cons_self) (List.nodup_cons.mp h1).1
  omega
/-- in a tree no end closes a round with those ahead of it -/
theorem no_round {es : Edges} {R0 : List Int} {i : Nat} {e : Int × Int} (nd : R0.Nodup) (h : ∀ a ∈ R0, ∀ b ∈ R0, Same es a b) (hl : es.length + 1 = R0.length) (hi : es[i]? = some e) : ¬ Same (es.take i) e.1 e.2 := fun z => by
  have hlt := (List.getElem?_eq_some_iff.mp hi).1
  have all : ∀ a b, Same es a b → Same (es.take i ++ es.drop (i + 1)) a b := fun a b g S hS => g S fun f hf => by
    have hf2 : f ∈ es.take i ++ e :: es.drop (i + 1) := by
      have : es.take i ++ e :: es.drop (i + 1) = es := by
        rw [← (List.getElem?_eq_some_iff.mp hi).2, ← List.drop_eq_getElem_cons hlt, List.take_append_drop]
      rw [this]
      exact hf
    rcases List.mem_append.mp hf2 with q | q
    · exact hS f (List.mem_append_left _ q)
    · rcases List.mem_cons.mp q with rfl | q
      · exact z S fun f hf => hS f (List.mem_append_left _ hf)
      · exact hS f (List.mem_append_right _ q)
  have := ends_many (es := es.take i ++ es.drop (i + 1)) nd fun a ha b hb => all a b (h a ha b hb)
  rw [List.length_append, List.length_take, List.length_drop] at this
  omega
/-! ### going round -/
/-- what a look at an end adds to what is found -/
def look (e : Int × Int) (F : List Int) : List Int :=
  let G := if F.contains e.1 && !F.contains e.2 then F ++ [e.2] else F
  if G.contains e.2 && !G.contains e.1 then G ++ [e.1] else G
def turn (es : Edges) (F : List Int) : List Int := es.foldl (fun F e => look e F) F
def turns (es : Edges) (F : List Int) : Nat → List Int
  | 0 => F
  | n + 1 => turn es (turns es F n)
theorem look_sub {e : Int × Int} {F : List Int} {x : Int} (h : x ∈ F) : x ∈ look e F := by
  unfold look
  by_cases c1 : e.1 ∈ F <;> by_cases c2 : e.2 ∈ F <;> simp [c1, c2, h]
theorem look_both {e : Int × Int} {F : List Int} (h : e.1 ∈ F ∨ e.2 ∈ F) : e.1 ∈ look e F ∧ e.2 ∈ look e F := by
  unfold look
  by_cases c1 : e.1 ∈ F <;> by_cases c2 : e.2 ∈ F
  · simp [c1, c2]
  · simp [c1, c2]
  · simp [c1, c2]
  · exact absurd h (by simp [c1, c2])
theorem look_mem {e : Int × Int} {F : List Int} {x : Int} (h : x ∈ look e F) : x ∈ F ∨ (x = e.2 ∧ e.1 ∈ F) ∨ (x = e.1 ∧ e.2 ∈ F) := by
  unfold look at h
  by_cases c1 : e.1 ∈ F <;> by_cases c2 : e.2 ∈ F
  · simp [c1, c2] at h
    exact .inl h
  · simp [c1, c2] at h
    rcases h with h | h
    · exact .inl h
    · exact .inr (.inl ⟨h, c1⟩)
  · simp [c1, c2] at h
    rcases h with h | h
    · exact .inl h
    · exact .inr (.inr ⟨h, c2⟩)
  · simp [c1, c2] at h
    exact .inl h
theorem turn_sub {x : Int} : ∀ {es : Edges} {F : List Int}, x ∈ F → x ∈ turn es F
  | [], _, h => h
  | e :: es, F, h => turn_sub (es := es) (F := look e F) (look_sub h)
theorem turn_both {e : Int × Int} : ∀ {es : Edges} {F : List Int}, e ∈ es → (e.1 ∈ F ∨ e.2 ∈ F) → e.1 ∈ turn es F ∧ e.2 ∈ turn es F
  | f :: es, F, h, g => by
    rcases List.mem_cons.mp h with rfl | h
    · have := look_both g
      exact ⟨turn_sub (es := es) this.1, turn_sub (es := es) this.2⟩
    · exact turn_both (es := es) (F := look f F) h (g.imp look_sub look_sub)
theorem turn_same {p : Int} {fs : Edges} : ∀ {es : Edges} {F : List Int}, (∀ e ∈ es, e ∈ fs) → (∀ x ∈ F, Same fs p x) → ∀ x ∈ turn es F, Same fs p x
  | [], _, _, h => h
  | e :: es, F, hs, h => turn_same (es := es) (F := look e F) (fun f hf => hs f (.tail _ hf)) fun x hx => by
    rcases look_mem hx with q | ⟨rfl, q⟩ | ⟨rfl, q⟩
    · exact h x q
    · exact (h _ q).trans (.edge (hs e (.head _)))
    · exact (h _ q).trans (Same.edge (hs e (.head _))).symm
theorem turns_same {p : Int} {es : Edges} : ∀ n, ∀ x ∈ turns es [p] n, Same es p x
  | 0, x, hx => by
    rw [List.mem_singleton.mp hx]
    exact .refl p
  | n + 1, x, hx => turn_same (es := es) (F := turns es [p] n) (fun _ h => h) (turns_same n) x hx
def Closed (es : Edges) (F : List Int) : Prop := ∀ e ∈ es, (e.1 ∈ F ↔ e.2 ∈ F)
theorem look_closed {e : Int × Int} {F : List Int} (h : e.1 ∈ F ↔ e.2 ∈ F) : look e F = F := by
  unfold look
  by_cases c : e.1 ∈ F
  · have := h.mp c
    simp [c, this]
  · have : ¬ e.2 ∈ F := fun z => c (h.mpr z)
    simp [c, this]
theorem turn_closed : ∀ {es : Edges} {F : List Int}, Closed es F → turn es F = F
  | [], _, _ => rfl
  | e :: es, F, h => by
    show turn es (look e F) = F
    rw [look_closed (h e (.head _))]
    exact turn_closed fun f hf => h f (.tail _ hf)
def un (F : List Int) (e : Int × Int) : Bool := !(F.contains e.1 && F.contains e.2)
def unused (es : Edges) (F : List Int) : Nat := (es.filter (un F)).length
theorem neg_ok {F : List Int} {f : Int × Int} (c : ¬ (f.1 ∈ F ∧ f.2 ∈ F)) : un F f = true := by
  unfold un
  cases h : (F.contains f.1 && F.contains f.2) with
  | false => rfl
  | true => exact absurd (by simpa using h) c
theorem neg_no {F : List Int} {f : Int × Int} (c : f.1 ∈ F ∧ f.2 ∈ F) : ¬ un F f = true := by simp [un, c.1, c.2]
theorem unused_le {fs : Edges} {F G : List Int} (h : ∀ x ∈ F, x ∈ G) : unused fs G ≤ unused fs F := by
  unfold unused
  refine List.Sublist.length_le ?_
  induction fs with
  | nil => exact .slnil
  | cons f fs ih =>
    by_cases c : f.1 ∈ F ∧ f.2 ∈ F
    · rw [List.filter_cons_of_neg (neg_no ⟨h _ c.1, h _ c.2⟩), List.filter_cons_of_neg (neg_no c)]
      exact ih
    · by_cases d : f.1 ∈ G ∧ f.2 ∈ G
      · rw [List.filter_cons_of_neg (neg_no d)]
        exact .trans ih (by rw [List.filter_cons_of_pos (neg_ok c)]; exact List.sublist_cons_self _ _)
      · rw [List.filter_cons_of_pos (neg_ok d), List.filter_cons_of_pos (neg_ok c)]
        exact ih.cons₂ _
theorem unused_lt {F G : List Int} {e : Int × Int} (h : ∀ x ∈ F, x ∈ G) (h1 : ¬ (e.1 ∈ F ∧ e.2 ∈ F)) (h2 : e.1 ∈ G ∧ e.2 ∈ G) : ∀ {fs : Edges}, e ∈ fs → unused fs G < unused fs F
  | f :: fs, he => by
    rcases List.mem_cons.mp he with rfl | he
    · have := unused_le (fs := fs) h
      unfold unused at this ⊢
      rw [List.filter_cons_of_neg (neg_no h2), List.filter_cons_of_pos (neg_ok h1), List.length_cons]
      omega
    · have ih := unused_lt h h1 h2 he
      unfold unused at ih ⊢
      by_cases c : f.1 ∈ F ∧ f.2 ∈ F
      · have a := h _ c.1
        have b := h _ c.2
        rw [List.filter_cons_of_neg (neg_no ⟨a, b⟩), List.filter_cons_of_neg (neg_no c)]
        exact ih
      · by_cases d : f.1 ∈ G ∧ f.2 ∈ G
        · rw [List.filter_cons_of_neg (neg_no d), List.filter_cons_of_pos (neg_ok c), List.length_cons]
          omega
        · rw [List.filter_cons_of_pos (neg_ok d), List.filter_cons_of_pos (neg_ok c), List.length_cons, List.length_cons]
          omega
theorem turns_closed {es : Edges} {F : List Int} : ∀ n, Closed es (turns es F n) ∨ unused es (turns es F n) + n ≤ es.length
  | 0 => .inr (by
    show (es.filter _).length + 0 ≤ es.length
    exact List.length_filter_le _ _)
  | n + 1 => by
    rcases turns_closed (es := es) (F := F) n with h | h
    · left
      show Closed es (turn es (turns es F n))
      rw [turn_closed h]
      exact h
    · by_cases c : Closed es (turns es F n)
      · left
        show Closed es (turn es (turns es F n))
        rw [turn_closed c]
        exact c
      · right
        have ⟨e, he⟩ := Classical.not_forall.mp c
        obtain ⟨he, hne⟩ := Classical.not_imp.mp he
        have h1 : ¬ (e.1 ∈ turns es F n ∧ e.2 ∈ turns es F n) := fun z => hne ⟨fun _ => z.2, fun _ => z.1⟩
        have h0 : e.1 ∈ turns es F n ∨ e.2 ∈ turns es F n := by
          apply Classical.byContradiction
          intro z
          exact hne ⟨fun q => absurd (.inl q) z, fun q => absurd (.inr q) z⟩
        have := unused_lt (G := turn es (turns es F n)) (fun x hx => turn_sub hx) h1 (turn_both he h0) he
        show unused es (turn es (turns es F n)) + (n + 1) ≤ es.length
        omega
/-- what the law finds by going round as often as there are ends -/
theorem turns_all {es : Edges} {p x : Int} : x ∈ turns es [p] es.length ↔ Same es p x := by
  refine ⟨turns_same _ x, fun h => ?_⟩
  have hp : ∀ n, p ∈ turns es [p] n := fun n => by
    induction n with
    | zero => exact List.mem_singleton_self _
    | succ n ih => exact turn_sub ih
  have hc : Closed es (turns es [p] es.length) := by
    rcases turns_closed (es := es) (F := [p]) es.length with h | h
    · exact h
    · intro e he
      have z : unused es (turns es [p] es.length) = 0 := by omega
      unfold unused at z
      have := List.filter_eq_nil_iff.mp (List.length_eq_zero_iff.mp z) e he
      simp [un] at this
      exact ⟨fun _ => this.2, fun _ => this.1⟩
  have := h (fun y => decide (y ∈ turns es [p] es.length)) fun e he => by
    have := hc e he
    simp only [this]
  simp only [hp, decide_true] at this
  exact of_decide_eq_true this.symm
end Gr
namespace Gr
def add (F : List Int) (a b : Int) : List Int := if F.contains a && !F.contains b then F ++ [b] else F
theorem look_add (e : Int × Int) (F : List Int) : look e F = add (add F e.1 e.2) e.2 e.1 := rfl
theorem add_len {F : List Int} {a b : Int} : (add F a b).length ≤ F.length + 1 := by
  unfold add
  split
  · rw [List.length_append, List.length_singleton]
    omega
  · omega
theorem turn_len : ∀ {es : Edges} {F : List Int}, (turn es F).length ≤ F.length + 2 * es.length
  | [], _ => Nat.le_refl _
  | e :: es, F => by
    have h1 := turn_len (es := es) (F := look e F)
    have h2 : (look e F).length ≤ F.length + 2 := by
      rw [look_add]
      exact Nat.le_trans add_len (Nat.add_le_add_right add_len 1)
    show (turn es (look e F)).length ≤ _
    rw [List.length_cons]
    omega
theorem turns_len {es : Edges} {F : List Int} : ∀ n, (turns es F n).length ≤ F.length + n * (2 * es.length)
  | 0 => by rw [Nat.zero_mul]; exact Nat.le_refl _
  | n + 1 => by
    have h1 := turns_len (es := es) (F := F) n
    have h2 := turn_len (es := es) (F := turns es F n)
    show (turn es (turns es F n)).length ≤ _
    rw [Nat.add_mul, Nat.one_mul]
    omega
end Gr
namespace SbE49
open PySem PySem.Spec PyProof.Rows L2 Evl HT 
/-! ### the text -/
def topS (i : Nat) : Stmt := PySem.Challenge.pw_signbook_k49_tables_of_nets.main.body.getD i (.Pass ⟨0, 0, 0, 0⟩)
def clsB : Stmt → List Stmt
  | .ClassDef (body := b) .. => b
  | _ => []
abbrev s_is_whole : Stmt := topS 5
theorem sc_is_whole : FnScope ["thing"] ["thing"] (defScope s_is_whole) := ⟨rfl, rfl, rfl, by decide +kernel, rfl, by decide +kernel, by decide +kernel⟩
abbrev s_is_place : Stmt := topS 8
theorem sc_is_place : FnScope ["thing", "many"] ["thing", "many"] (defScope s_is_place) := ⟨rfl, rfl, rfl, by decide +kernel, rfl, by decide +kernel, by decide +kernel⟩
abbrev s_net_table : Stmt := topS 10
theorem sc_net_table : FnScope ["ends", "arcs", "told", "at", "sides", "start", "stop"] ["ends", "arcs"] (defScope s_net_table) := ⟨rfl, rfl, rfl, by decide +kernel, rfl, by decide +kernel, by decide +kernel⟩
abbrev s_check_ends : Stmt := topS 11
theorem sc_check_ends : FnScope ["thing", "groups", "at", "end"] ["thing"] (defScope s_check_ends) := ⟨rfl, rfl, rfl, by decide +kernel, rfl, by decide +kernel, by decide +kernel⟩
abbrev s_check_arcs : Stmt := topS 12
theorem sc_check_arcs : FnScope ["thing", "many", "at", "arc"] ["thing", "many"] (defScope s_check_arcs) := ⟨rfl, rfl, rfl, by decide +kernel, rfl, by decide +kernel, by decide +kernel⟩
abbrev s_is_arc : Stmt := topS 13
theorem sc_is_arc : FnScope ["thing", "many", "place"] ["thing", "many"] (defScope s_is_arc) := ⟨rfl, rfl, rfl, by decide +kernel, rfl, by decide +kernel, by decide +kernel⟩
abbrev s_joined : Stmt := topS 14
theorem sc_joined : FnScope ["groups", "one", "other", "group"] ["groups", "one", "other"] (defScope s_joined) := ⟨rfl, rfl, rfl, by decide +kernel, rfl, by decide +kernel, by decide +kernel⟩
abbrev s_first_side : Stmt := topS 15
theorem sc_first_side : FnScope ["ends", "at", "groups", "start", "stop", "_", "group"] ["ends", "at"] (defScope s_first_side) := ⟨rfl, rfl, rfl, by decide +kernel, rfl, by decide +kernel, by decide +kernel⟩
abbrev s__law_source_of : Stmt := topS 17
theorem sc__law_source_of : FnScope ["_law_cell"] ["_law_cell"] (defScope s__law_source_of) := ⟨rfl, rfl, rfl, by decide +kernel, rfl, by decide +kernel, by decide +kernel⟩
abbrev s__law_next : Stmt := topS 18
theorem sc__law_next : FnScope ["_law_source", "_law_many", "_law_found", "_law_prime", "_law_figure"] ["_law_source", "_law_many"] (defScope s__law_next) := ⟨rfl, rfl, rfl, by decide +kernel, rfl, by decide +kernel, by decide +kernel⟩
abbrev s__law_cell_at : Stmt := topS 19
theorem sc__law_cell_at : FnScope ["_law_script", "_law_k"] ["_law_script", "_law_k"] (defScope s__law_cell_at) := ⟨rfl, rfl, rfl, by decide +kernel, rfl, by decide +kernel, by decide +kernel⟩
abbrev s__law_mixed : Stmt := topS 20
theorem sc__law_mixed : FnScope ["_law_source", "_law_some", "_law_left", "_law_found"] ["_law_source", "_law_some"] (defScope s__law_mixed) := ⟨rfl, rfl, rfl, by decide +kernel, rfl, by decide +kernel, by decide +kernel⟩
abbrev s__law_ends : Stmt := topS 21
theorem sc__law_ends : FnScope ["_law_source", "_law_many", "_law_places", "_law_found", "_law_k", "_law_two"] ["_law_source", "_law_many"] (defScope s__law_ends) := ⟨rfl, rfl, rfl, by decide +kernel, rfl, by decide +kernel, by decide +kernel⟩
abbrev s__law_side : Stmt := topS 22
theorem sc__law_side : FnScope ["_law_ends_here", "_law_place", "_law_found", "_law_turn", "_law_begin", "_law_goal", "_law_near", "_law_far"] ["_law_ends_here", "_law_place"] (defScope s__law_side) := ⟨rfl, rfl, rfl, by decide +kernel, rfl, by decide +kernel, by decide +kernel⟩
abbrev s__law_plain : Stmt := topS 23
theorem sc__law_plain : FnScope ["_law_row", "_law_one"] ["_law_row"] (defScope s__law_plain) := ⟨rfl, rfl, rfl, by decide +kernel, rfl, by decide +kernel, by decide +kernel⟩
abbrev s__law_due : Stmt := topS 24
theorem sc__law_due : FnScope ["_law_ends_here", "_law_arcs", "_law_found", "_law_at", "_law_begin", "_law_goal", "_law_near", "_law_one", "_law_two"] ["_law_ends_here", "_law_arcs"] (defScope s__law_due) := ⟨rfl, rfl, rfl, by decide +kernel, rfl, by decide +kernel, by decide +kernel⟩
abbrev s_law : Stmt := topS 25
theorem sc_law : FnScope ["_law_script", "_law_cell", "_law_source", "_law_many", "_law_ends_here", "_law_arcs", "_law_handed", "_law_due_here", "_law_turn", "_law_said", "_law_k", "_law_row"] ["_law_script"] (defScope s_law) := ⟨rfl, rfl, rfl, by decide +kernel, rfl, by decide +kernel, by decide +kernel⟩
/-- what the top has written -/
structure Txt (K : PySem.W.Frag) (mg : Str → Option Value) where
  f_is_whole : Addr
  fd_is_whole : FuncData
  F_is_whole : Fun K "is_whole" "is_whole" s_is_whole f_is_whole fd_is_whole
  g_is_whole : mg "is_whole" = some (.ref f_is_whole)
  k_is_whole : PySem.W.keepIn K (.ref f_is_whole) = true
  b_is_whole : Binds K fd_is_whole ["thing"] []
  f_is_place : Addr
  fd_is_place : FuncData
  F_is_place : Fun K "is_place" "is_place" s_is_place f_is_place fd_is_place
  g_is_place : mg "is_place" = some (.ref f_is_place)
  k_is_place : PySem.W.keepIn K (.ref f_is_place) = true
  b_is_place : Binds K fd_is_place ["thing", "many"] []
  f_net_table : Addr
  fd_net_table : FuncData
  F_net_table : Fun K "net_table" "net_table" s_net_table f_net_table fd_net_table
  g_net_table : mg "net_table" = some (.ref f_net_table)
  k_net_table : PySem.W.keepIn K (.ref f_net_table) = true
  b_net_table : Binds K fd_net_table ["ends", "arcs"] []
  f_check_ends : Addr
  fd_check_ends : FuncData
  F_check_ends : Fun K "check_ends" "check_ends" s_check_ends f_check_ends fd_check_ends
  g_check_ends : mg "check_ends" = some (.ref f_check_ends)
  k_check_ends : PySem.W.keepIn K (.ref f_check_ends) = true
  b_check_ends : Binds K fd_check_ends ["thing"] []
  f_check_arcs : Addr
  fd_check_arcs : FuncData
  F_check_arcs : Fun K "check_arcs" "check_arcs" s_check_arcs f_check_arcs fd_check_arcs
  g_check_arcs : mg "check_arcs" = some (.ref f_check_arcs)
  k_check_arcs : PySem.W.keepIn K (.ref f_check_arcs) = true
  b_check_arcs : Binds K fd_check_arcs ["thing", "many"] []
  f_is_arc : Addr
  fd_is_arc : FuncData
  F_is_arc : Fun K "is_arc" "is_arc" s_is_arc f_is_arc fd_is_arc
  g_is_arc : mg "is_arc" = some (.ref f_is_arc)
  k_is_arc : PySem.W.keepIn K (.ref f_is_arc) = true
  b_is_arc : Binds K fd_is_arc ["thing", "many"] []
  f_joined : Addr
  fd_joined : FuncData
  F_joined : Fun K "joined" "joined" s_joined f_joined fd_joined
  g_joined : mg "joined" = some (.ref f_joined)
  k_joined : PySem.W.keepIn K (.ref f_joined) = true
  b_joined : Binds K fd_joined ["groups", "one", "other"] []
  f_first_side : Addr
  fd_first_side : FuncData
  F_first_side : Fun K "first_side" "first_side" s_first_side f_first_side fd_first_side
  g_first_side : mg "first_side" = some (.ref f_first_side)
  k_first_side : PySem.W.keepIn K (.ref f_first_side) = true
  b_first_side : Binds K fd_first_side ["ends", "at"] []
  f__law_source_of : Addr
  fd__law_source_of : FuncData
  F__law_source_of : Fun K "_law_source_of" "_law_source_of" s__law_source_of f__law_source_of fd__law_source_of
  g__law_source_of : mg "_law_source_of" = some (.ref f__law_source_of)
  k__law_source_of : PySem.W.keepIn K (.ref f__law_source_of) = true
  b__law_source_of : Binds K fd__law_source_of ["_law_cell"] []
  f__law_next : Addr
  fd__law_next : FuncData
  F__law_next : Fun K "_law_next" "_law_next" s__law_next f__law_next fd__law_next
  g__law_next : mg "_law_next" = some (.ref f__law_next)
  k__law_next : PySem.W.keepIn K (.ref f__law_next) = true
  b__law_next : Binds K fd__law_next ["_law_source", "_law_many"] []
  f__law_cell_at : Addr
  fd__law_cell_at : FuncData
  F__law_cell_at : Fun K "_law_cell_at" "_law_cell_at" s__law_cell_at f__law_cell_at fd__law_cell_at
  g__law_cell_at : mg "_law_cell_at" = some (.ref f__law_cell_at)
  k__law_cell_at : PySem.W.keepIn K (.ref f__law_cell_at) = true
  b__law_cell_at : Binds K fd__law_cell_at ["_law_script", "_law_k"] []
  f__law_mixed : Addr
  fd__law_mixed : FuncData
  F__law_mixed : Fun K "_law_mixed" "_law_mixed" s__law_mixed f__law_mixed fd__law_mixed
  g__law_mixed : mg "_law_mixed" = some (.ref f__law_mixed)
  k__law_mixed : PySem.W.keepIn K (.ref f__law_mixed) = true
  b__law_mixed : Binds K fd__law_mixed ["_law_source", "_law_some"] []
  f__law_ends : Addr
  fd__law_ends : FuncData
  F__law_ends : Fun K "_law_ends" "_law_ends" s__law_ends f__law_ends fd__law_ends
  g__law_ends : mg "_law_ends" = some (.ref f__law_ends)
  k__law_ends : PySem.W.keepIn K (.ref f__law_ends) = true
  b__law_ends : Binds K fd__law_ends ["_law_source", "_law_many"] []
  f__law_side : Addr
  fd__law_side : FuncData
  F__law_side : Fun K "_law_side" "_law_side" s__law_side f__law_side fd__law_side
  g__law_side : mg "_law_side" = some (.ref f__law_side)
  k__law_side : PySem.W.keepIn K (.ref f__law_side) = true
  b__law_side : Binds K fd__law_side ["_law_ends_here", "_law_place"] []
  f__law_plain : Addr
  fd__law_plain : FuncData
  F__law_plain : Fun K "_law_plain" "_law_plain" s__law_plain f__law_plain fd__law_plain
  g__law_plain : mg "_law_plain" = some (.ref f__law_plain)
  k__law_plain : PySem.W.keepIn K (.ref f__law_plain) = true
  b__law_plain : Binds K fd__law_plain ["_law_row"] []
  f__law_due : Addr
  fd__law_due : FuncData
  F__law_due : Fun K "_law_due" "_law_due" s__law_due f__law_due fd__law_due
  g__law_due : mg "_law_due" = some (.ref f__law_due)
  k__law_due : PySem.W.keepIn K (.ref f__law_due) = true
  b__law_due : Binds K fd__law_due ["_law_ends_here", "_law_arcs"] []
  f_law : Addr
  fd_law : FuncData
  F_law : Fun K "law" "law" s_law f_law fd_law
  g_law : mg "law" = some (.ref f_law)
  k_law : PySem.W.keepIn K (.ref f_law) = true
  b_law : Binds K fd_law ["_law_script"] []
  t_MOST : Tok
  g_MOST : mg "MOST" = some (.int 8 t_MOST)
  n_all : mg "all" = none
  n_bool : mg "bool" = none
  n_enumerate : mg "enumerate" = none
  n_int : mg "int" = none
  n_isinstance : mg "isinstance" = none
  n_len : mg "len" = none
  n_list : mg "list" = none
  n_range : mg "range" = none
  n_tuple : mg "tuple" = none
/-! ### numbers -/
def Bd (n : Nat) (i : Int) : Prop := i.natAbs < 2 ^ n
theorem Bd.mono {a b : Nat} {i : Int} (h : Bd a i) (hab : a ≤ b) : Bd b i := Nat.lt_of_lt_of_le h (Nat.pow_le_pow_right (by decide) hab)
theorem Bd.mul {a b : Nat} {i j : Int} (h : Bd a i) (g : Bd b j) : Bd (a + b) (i * j) := wide_lt h g
theorem Bd.add {a : Nat} {i j : Int} (h : Bd a i) (g : Bd a j) : Bd (a + 1) (i + j) := by
  have h1 : i.natAbs < 2 ^ a := h
  have h2 : j.natAbs < 2 ^ a := g
  show (i + j).natAbs < 2 ^ (a + 1)
  rw [Nat.pow_succ]
  omega
theorem Bd.sub {a : Nat} {i j : Int} (h : Bd a i) (g : Bd a j) : Bd (a + 1) (i - j) := by
  have h1 : i.natAbs < 2 ^ a := h
  have h2 : j.natAbs < 2 ^ a := g
  show (i - j).natAbs < 2 ^ (a + 1)
  rw [Nat.pow_succ]
  omega
theorem Bd.neg {a : Nat} {i : Int} (h : Bd a i) : Bd a (-i) := by
  show (-i).natAbs < 2 ^ a
  rw [Int.natAbs_neg]
  exact h
theorem Bd.abs {a : Nat} {i j : Int} (h : Bd a i) (e : j.natAbs ≤ i.natAbs) : Bd a j := Nat.lt_of_le_of_lt e h
theorem Bd.mulOk {a b : Nat} {i j : Int} (h : Bd a i) (g : Bd b j) (h0 : 0 < a := by decide) (h1 : 0 < b := by decide) (hs : a + b ≤ 1000000 := by decide) : CMulW i j := wide_mul h g h0 h1 hs
theorem Bd.divOk {b : Nat} {i j : Int} (h : 0 < j) (g : Bd b j) (h0 : 0 < b := by decide) (h9 : b ≤ 9000 := by decide) : CDivW i j := wide_div h g h0 h9
/-- // by a divisor other than 0 below 2 ^ 9000 -/
def CDivNW (_ j : Int) : Prop := j ≠ 0 ∧ j.natAbs.log2 < 9000
theorem Bd.divNOk {b : Nat} {i j : Int} (h : j ≠ 0) (g : Bd b j) (h0 : 0 < b := by decide) (h9 : b ≤ 9000 := by decide) : CDivNW i j := ⟨h, Nat.lt_of_lt_of_le (PySem.Flt.log2_lt_of h0 g) h9⟩
theorem op_fdivNW {X : Cx} : OpR X (binaryOp .FloorDiv) (rI CDivNW fun i j => .int (i.fdiv j)) := opI fun _ _ _ _ _ _ _ hc q => floordiv_int hc.1 q (.inl (PyProof.noPylong_of_log2 hc.2))
/-! ### heaps -/
/-- all but what stands at s is as it was -/
def ExB (s : Addr) (H H' : Hp) : Prop := ∀ b o, b ≠ s → H b = some o → H' b = some o
theorem ExB.trans {s : Addr} {H H1 H2 : Hp} (a : ExB s H H1) (b : ExB s H1 H2) : ExB s H H2 := fun c o n h => b c o n (a c o n h)
theorem ExB.refl (s : Addr) (H : Hp) : ExB s H H := fun _ _ _ h => h
theorem ExB.of {s : Addr} {H H1 : Hp} (a : Ex H H1) : ExB s H H1 := fun c o _ h => a c o h
theorem ExB.ex {s : Addr} {H H1 H2 : Hp} (a : ExB s H1 H2) (n : H s = none) (e : Ex H H1) : Ex H H2 := fun b o h => a b o (ne_of_none h n) (e b o h)
theorem ExB.upd (s : Addr) (H : Hp) (o : HO) : ExB s H (upd H s o) := fun b u n h => by
  rw [upd_ne n]
  exact h
theorem Ex.updB {s : Addr} {H H' : Hp} {o : HO} (e : Ex H H') : ExB s H (upd H' s o) := fun b u n h => by
  rw [upd_ne n]
  exact e b u h
/-- the source of a law's numbers: n at least the numbers made so far -/
def SrcAt (H : Hp) (s : Addr) (n : Int) : Prop := ∃ p q r : Int, H s = some (.lst [.int p, .int q, .int r]) ∧ 0 ≤ q ∧ q < 2147483647 ∧ 0 ≤ r ∧ r ≤ n
theorem SrcAt.ex {H H' : Hp} {s : Addr} {n : Int} (h : SrcAt H s n) (e : Ex H H') : SrcAt H' s n := by
  obtain ⟨p, q, r, h1, h2⟩ := h
  exact ⟨p, q, r, e _ _ h1, h2⟩
theorem SrcAt.exB {H H' : Hp} {s t : Addr} {n : Int} (h : SrcAt H s n) (e : ExB t H H') (ne : s ≠ t) : SrcAt H' s n := by
  obtain ⟨p, q, r, h1, h2⟩ := h
  exact ⟨p, q, r, e _ _ ne h1, h2⟩
theorem SrcAt.le {H : Hp} {s : Addr} {n m : Int} (h : SrcAt H s n) (e : n ≤ m) : SrcAt H s m := by
  obtain ⟨p, q, r, h1, h2, h3, h4, h5⟩ := h
  exact ⟨p, q, r, h1, h2, h3, h4, by omega⟩
theorem SrcAt.obj {H : Hp} {s : Addr} {n : Int} (h : SrcAt H s n) : ∃ o, H s = some o := by
  obtain ⟨p, q, r, h1, _⟩ := h
  exact ⟨_, h1⟩
/-- classes that is_whole is asked about -/
def tyOk (t : String) : Prop := t = "int" ∨ t = "bool" ∨ t = "NoneType" ∨ t = "str" ∨ t = "tuple" ∨ t = "list" ∨ t = "dict"
theorem ty_int {t : String} (h : tyOk t) : kitB t "int" = some (t == "int" || t == "bool") := by
  rcases h with rfl | rfl | rfl | rfl | rfl | rfl | rfl <;> decide +kernel
theorem ty_bool {t : String} (h : tyOk t) : kitB t "bool" = some (t == "bool") := by
  rcases h with rfl | rfl | rfl | rfl | rfl | rfl | rfl <;> decide +kernel
theorem ty_tuple {t : String} (h : tyOk t) : kitB t "tuple" = some (t == "tuple") := by
  rcases h with rfl | rfl | rfl | rfl | rfl | rfl | rfl <;> decide +kernel
theorem ty_list {t : String} (h : tyOk t) : kitB t "list" = some (t == "list") := by
  rcases h with rfl | rfl | rfl | rfl | rfl | rfl | rfl <;> decide +kernel
theorem prime_at (r : Int) (h : 0 ≤ r) : ∃ p : Int, atI [V.int 2147483647, V.int 2147483629, V.int 2147483587, V.int 2147483579, V.int 2147483563, V.int 2147483549, V.int 2147483543] (r % 7) = some (.int p) ∧ 0 < p ∧ p ≤ 2147483647 := by
  have h1 : 0 ≤ r % 7 := Int.emod_nonneg _ (by decide)
  have h2 : r % 7 < 7 := Int.emod_lt_of_pos _ (by decide)
  generalize r % 7 = k at h1 h2
  have hk : k = 0 ∨ k = 1 ∨ k = 2 ∨ k = 3 ∨ k = 4 ∨ k = 5 ∨ k = 6 := by omega
  rcases hk with rfl | rfl | rfl | rfl | rfl | rfl | rfl <;> exact ⟨_, rfl, by decide, by decide⟩
/-! ### data, lists, tables -/
mutual
theorem dp_mono {K : PySem.W.Frag} {H H' : Hp} (h : ∀ a xs, SqL K H a xs → SqL K H' a xs) (h2 : ∀ a xs, SqT K H a xs → SqT K H' a xs) : ∀ {v : V} {d : PyData}, Dp K H v d → Dp K H' v d
  | _, _, .non => .non
  | _, _, .bl b => .bl b
  | _, _, .int i => .int i
  | _, _, .str x => .str x
  | _, _, .lst a b => .lst (h _ _ a) (dpAll_mono h h2 b)
  | _, _, .tup a b => .tup (h2 _ _ a) (dpAll_mono h h2 b)
theorem dpAll_mono {K : PySem.W.Frag} {H H' : Hp} (h : ∀ a xs, SqL K H a xs → SqL K H' a xs) (h2 : ∀ a xs, SqT K H a xs → SqT K H' a xs) : ∀ {vs : List V} {ds : List PyData}, DpAll K H vs ds → DpAll K H' vs ds
  | _, _, .nil => .nil
  | _, _, .cons a b => .cons (dp_mono h h2 a) (dpAll_mono h h2 b)
end
theorem dp_ex {K : PySem.W.Frag} {H H' : Hp} (e : Ex H H') {v : V} {d : PyData} (h : Dp K H v d) : Dp K H' v d := dp_mono (fun _ _ => ex_l e) (fun _ _ => ex_t e) h
theorem dpAll_ex {K : PySem.W.Frag} {H H' : Hp} (e : Ex H H') {v : List V} {d : List PyData} (h : DpAll K H v d) : DpAll K H' v d := dpAll_mono (fun _ _ => ex_l e) (fun _ _ => ex_t e) h
def NiceD (d : PyData) : Prop := d.canLay0 = true ∧ d.depth ≤ 8
/-- v is data, whatever becomes of the object at s -/
def DatV (K : PySem.W.Frag) (H : Hp) (s : Addr) (v : V) : Prop := ∀ H', ExB s H H' → ∃ d, Dp K H' v d ∧ NiceD d
theorem DatV.exB {K : PySem.W.Frag} {H H' : Hp} {s : Addr} {v : V} (h : DatV K H s v) (e : ExB s H H') : DatV K H' s v := fun H2 e2 => h H2 (e.trans e2)
theorem datv_int {K : PySem.W.Frag} {H : Hp} {s : Addr} (i : Int) : DatV K H s (.int i) := fun _ _ => ⟨_, .int i, rfl, Nat.zero_le _⟩
theorem datv_pair {K : PySem.W.Frag} {H : Hp} {s a : Addr} {x y : Int} (h : H a = some (.tup [.int x, .int y])) (n : a ≠ s) : DatV K H s (.ref a) := fun H' e =>
  ⟨_, .tup (SqT.of (e _ _ n h)) (.cons (.int x) (.cons (.int y) .nil)), rfl, Nat.le_of_ble_eq_true rfl⟩
theorem dpAll_ints {K : PySem.W.Frag} {H : Hp} : ∀ ns : List Int, DpAll K H (ns.map V.int) (ns.map PyData.int)
  | [] => .nil
  | n :: r => .cons (.int n) (dpAll_ints r)
theorem canLay_ints : ∀ ns : List Int, PyData.canLayAll0 (ns.map PyData.int) = true
  | [] => rfl
  | n :: r => by
    show (true && PyData.canLayAll0 (r.map PyData.int)) = true
    rw [canLay_ints r]
    rfl
theorem depth_ints : ∀ ns : List Int, PyData.depthAll (ns.map PyData.int) = 0
  | [] => rfl
  | n :: r => by
    show max 0 (PyData.depthAll (r.map PyData.int)) = 0
    rw [depth_ints r]
    rfl
theorem datv_row {K : PySem.W.Frag} {H : Hp} {s a : Addr} {ns : List Int} (h : H a = some (.lst (ns.map V.int))) (n : a ≠ s) : DatV K H s (.ref a) := fun H' e =>
  ⟨_, .lst (SqL.of (e _ _ n h)) (dpAll_ints ns), canLay_ints ns, by
    show PyData.depthAll (ns.map PyData.int) + 1 ≤ 8
    rw [depth_ints]
    decide⟩
theorem dat_all {K : PySem.W.Frag} {H : Hp} {s : Addr} : ∀ {xs : List V}, (∀ v ∈ xs, DatV K H s v) → ∃ ds, DpAll K H xs ds ∧ PyData.canLayAll0 ds = true ∧ PyData.depthAll ds ≤ 8
  | [], _ => ⟨[], .nil, rfl, by decide⟩
  | x :: xs, h => by
    obtain ⟨d, h1, h2, h3⟩ := h x (List.mem_cons_self ..) H (ExB.refl _ _)
    obtain ⟨ds, g1, g2, g3⟩ := dat_all (xs := xs) fun v hv => h v (List.mem_cons_of_mem _ hv)
    refine ⟨d :: ds, .cons h1 g1, ?_, ?_⟩
    · show (d.canLay0 && PyData.canLayAll0 ds) = true
      rw [h2, g2]
      rfl
    · show max d.depth (PyData.depthAll ds) ≤ 8
      omega
theorem shaped_list {ds : List PyData} (h : PyData.canLayAll0 ds = true) (h2 : PyData.depthAll ds ≤ 60) : SeqAt.shaped (.list ds) = true := by
  unfold SeqAt.shaped
  have e1 : (PyData.list ds).canLay0 = true := h
  have e2 : (PyData.list ds).depth ≤ 64 := by
    show PyData.depthAll ds + 1 ≤ 64
    omega
  rw [e1, decide_eq_true e2]
  rfl
theorem eqv_nil (ds : List PyData) : PyData.eqv (.list ds) (.list []) = ds.isEmpty := by
  cases ds <;> rfl
theorem Paired.perm {α β : Type} {R : α → β → Prop} {xs xs' : List α} (hp : xs'.Perm xs) : ∀ {ys : List β}, Paired R xs ys → ∃ ys', ys'.Perm ys ∧ Paired R xs' ys' := by
  induction hp with
  | nil => intro ys h; exact ⟨ys, .refl _, h⟩
  | cons x _ ih =>
    intro ys h
    cases h with
    | cons r t =>
      obtain ⟨ys', p, q⟩ := ih t
      exact ⟨_ :: ys', p.cons _, .cons r q⟩
  | swap x y l =>
    intro ys h
    cases h with
    | cons r t =>
      cases t with
      | cons r2 t2 => exact ⟨_, List.Perm.swap .., .cons r2 (.cons r t2)⟩
  | trans _ _ ih1 ih2 =>
    intro ys h
    obtain ⟨y1, p1, q1⟩ := ih2 h
    obtain ⟨y2, p2, q2⟩ := ih1 q1
    exact ⟨y2, p2.trans p1, q2⟩
theorem fresh_B {s p : Addr} {H H' : Hp} (e : ExB s H H') (hp : H' p = none) (hs : ∃ o, H' s = some o) : H p = none := by
  cases q : H p with
  | none => rfl
  | some o =>
    by_cases h : p = s
    · subst h
      obtain ⟨o', ho'⟩ := hs
      rw [ho'] at hp
      cases hp
    · rw [e p o h q] at hp
      cases hp
theorem SrcAt.ne {H : Hp} {s p : Addr} {n : Int} (h : SrcAt H s n) (hp : H p = none) : p ≠ s := by
  intro e
  subst e
  obtain ⟨o, ho⟩ := h.obj
  rw [ho] at hp
  cases hp
theorem SrcAt.neT {H : Hp} {s p : Addr} {n : Int} {xs : List V} (h : SrcAt H s n) (hp : H p = some (.tup xs)) : p ≠ s := by
  intro e
  subst e
  obtain ⟨_, _, _, ho, _⟩ := h
  rw [ho] at hp
  cases hp
theorem ExB.l {K : PySem.W.Frag} {s a : Addr} {H H' : Hp} {xs : List V} (e : ExB s H H') (n : a ≠ s) (h : SqL K H a xs) : SqL K H' a xs := by
  rcases h with (h | ⟨o, h⟩) | h
  · exact .inl (.inl (e _ _ n h))
  · exact .inl (.inr ⟨o, e _ _ n h⟩)
  · exact .inr h
theorem seqIx {i n : Int} {k : Nat} (h0 : 0 ≤ i) (h1 : i < (k : Int)) : seqIndex? i k = some i.toNat := by
  unfold seqIndex?
  split <;> simp_all <;> omega
theorem erase_perm {α : Type} : ∀ {ls : List α} {k : Nat} {y : α}, ls[k]? = some y → (y :: ls.eraseIdx k).Perm ls
  | [], _, _, h => by simp at h
  | a :: l, 0, y, h => by
    have e := Option.some.inj h
    subst e
    exact .refl _
  | a :: l, k + 1, y, h => (List.Perm.swap a y _).trans ((erase_perm (ls := l) (k := k) h).cons a)
theorem perm_pop {α : Type} {fs ls : List α} {k : Nat} {y : α} (h : ls[k]? = some y) : ((fs ++ [y]) ++ ls.eraseIdx k).Perm (fs ++ ls) := by
  have h1 := erase_perm h
  rw [List.append_assoc]
  exact List.Perm.append_left fs h1
/-- the table at p: its rows at the places as -/
def RowsAt (H : Hp) : List Addr → List (List Int) → Prop := Paired fun a r => H a = some (.lst (r.map V.int))
def Tab (H : Hp) (p : Addr) (as : List Addr) (rows : List (List Int)) : Prop := H p = some (.lst (as.map V.ref)) ∧ RowsAt H as rows
theorem RowsAt.ex {H H' : Hp} (e : Ex H H') : ∀ {as : List Addr} {rows : List (List Int)}, RowsAt H as rows → RowsAt H' as rows
  | _, _, .nil => .nil
  | _, _, .cons h t => .cons (e _ _ h) (RowsAt.ex e t)
theorem Tab.ex {H H' : Hp} {p : Addr} {as : List Addr} {rows : List (List Int)} (h : Tab H p as rows) (e : Ex H H') : Tab H' p as rows := ⟨e _ _ h.1, h.2.ex e⟩
/-! ### edges -/
def EdgesAt (H : Hp) : List Addr → List (Int × Int) → Prop := Paired fun a e => H a = some (.tup [.int e.1, .int e.2])
theorem paired_imp {α β : Type} {R R' : α → β → Prop} (h : ∀ a b, R a b → R' a b) : ∀ {xs : List α} {ys : List β}, Paired R xs ys → Paired R' xs ys
  | _, _, .nil => .nil
  | _, _, .cons r t => .cons (h _ _ r) (paired_imp h t)
theorem EdgesAt.mono {H H' : Hp} {as : List Addr} {es : List (Int × Int)} (h : ∀ a xs, H a = some (.tup xs) → H' a = some (.tup xs)) (x : EdgesAt H as es) : EdgesAt H' as es := paired_imp (fun _ _ r => h _ _ r) x
theorem tups_B {H H' : Hp} {s : Addr} {n : Int} (hs : SrcAt H s n) (e : ExB s H H') : ∀ a xs, H a = some (.tup xs) → H' a = some (.tup xs) := fun a _ h => e a _ (hs.neT h) h
theorem tups_E {H H' : Hp} (e : Ex H H') : ∀ a xs, H a = some (.tup xs) → H' a = some (.tup xs) := fun a _ h => e a _ h
theorem tups_U {H : Hp} {l : Addr} {xs : List V} {o : HO} (h : H l = some (.lst xs)) : ∀ a ys, H a = some (.tup ys) → upd H l o a = some (.tup ys) := fun a ys g => by
  rw [upd_ne (ne_of g h (by intro z; cases z))]
  exact g
def Conn (es : List (Int × Int)) (m : Int) : Prop := ∀ S : Int → Bool, (∀ e ∈ es, S e.1 = S e.2) → ∀ a b, 0 ≤ a → a ≤ m → 0 ≤ b → b ≤ m → S a = S b
theorem Conn.perm {es es' : List (Int × Int)} {m : Int} (h : Conn es m) (p : es'.Perm es) : Conn es' m := fun S hS => h S fun e he => hS e (p.mem_iff.mpr he)
def EdgeTree (pl : List Int) (es : List (Int × Int)) : Prop := ∀ j, j < es.length → ∃ i a b, i ≤ j ∧ pl[i]? = some a ∧ pl[j + 1]? = some b ∧ (es[j]? = some (a, b) ∨ es[j]? = some (b, a))
theorem EdgeTree.more {pl : List Int} {es : List (Int × Int)} {e : Int × Int} {i : Nat} {a b : Int} (h : EdgeTree pl es) (hi : i ≤ es.length) (ha : pl[i]? = some a) (hb : pl[es.length + 1]? = some b) (he : e = (a, b) ∨ e = (b, a)) : EdgeTree pl (es ++ [e]) := by
  intro j hj
  rw [List.length_append] at hj
  have hj' : j < es.length + 1 := hj
  by_cases h1 : j < es.length
  · obtain ⟨i', a', b', x1, x2, x3, x4⟩ := h j h1
    refine ⟨i', a', b', x1, x2, x3, ?_⟩
    rw [List.getElem?_append_left h1]
    exact x4
  · have h2 : j = es.length := by omega
    subst h2
    refine ⟨i, a, b, hi, ha, hb, ?_⟩
    rw [List.getElem?_append_right (Nat.le_refl _), Nat.sub_self]
    rcases he with rfl | rfl
    · exact .inl rfl
    · exact .inr rfl
theorem EdgeTree.conn {pl : List Int} {es : List (Int × Int)} {m : Nat} (h : EdgeTree pl es) (hl : es.length = m) (hp : pl.length = m + 1) (hall : ∀ a : Int, 0 ≤ a → a ≤ m → a ∈ pl) : Conn es m := by
  intro S hS
  have key : ∀ j : Nat, ∀ j' : Nat, j' ≤ j → ∀ a, pl[j']? = some a → ∀ z, pl[0]? = some z → S a = S z := by
    intro j
    induction j with
    | zero =>
      intro j' hj' a ha z hz
      have : j' = 0 := by omega
      subst this
      rw [hz] at ha
      rw [Option.some.inj ha]
    | succ j ih =>
      intro j' hj' a ha z hz
      by_cases h1 : j' ≤ j
      · exact ih j' h1 a ha z hz
      · have h2 : j' = j + 1 := by omega
        subst h2
        have hlt : j + 1 < pl.length := (List.getElem?_eq_some_iff.mp ha).1
        obtain ⟨i, x, y, hi, hx, hy, he⟩ := h j (by omega)
        rw [ha] at hy
        have ey := Option.some.inj hy
        subst ey
        have hSe : S x = S a := by
          rcases he with he | he
          · exact hS (x, a) (List.mem_of_getElem? he)
          · exact (hS (a, x) (List.mem_of_getElem? he)).symm
        rw [← hSe]
        exact ih i hi x hx z hz
  intro a b ha ha' hb hb'
  obtain ⟨i, hi⟩ := List.getElem?_of_mem (hall a ha ha')
  obtain ⟨j, hj⟩ := List.getElem?_of_mem (hall b hb hb')
  have hz : ∃ z, pl[0]? = some z := ⟨_, List.getElem?_eq_getElem (by omega)⟩
  obtain ⟨z, hz⟩ := hz
  rw [key i i (Nat.le_refl _) a hi z hz, key j j (Nat.le_refl _) b hj z hz]
theorem paired_map {α β : Type} {R : α → β → Prop} (f : β → α) (h : ∀ b, R (f b) b) : ∀ ys : List β, Paired R (ys.map f) ys
  | [] => .nil
  | b :: r => .cons (h b) (paired_map f h r)
theorem paired_eq_map {α β : Type} {f : β → α} : ∀ {xs : List α} {ys : List β}, Paired (fun x y => x = f y) xs ys → xs = ys.map f
  | _, _, .nil => rfl
  | _, _, .cons r t => by rw [r, paired_eq_map t]; rfl
theorem perm_ints {ys : List V} {ns : List Int} (h : ys.Perm (ns.map V.int)) : ∃ pl : List Int, ys = pl.map V.int ∧ pl.Perm ns := by
  obtain ⟨pl, p, q⟩ := Paired.perm (R := fun (x : V) y => x = V.int y) h (paired_map V.int (fun _ => rfl) ns)
  exact ⟨pl, paired_eq_map q, p⟩
theorem perm_refs {β : Type} {R : Addr → β → Prop} {ys : List V} {as : List Addr} {es : List β} (h : ys.Perm (as.map V.ref)) (hx : Paired R as es) : ∃ (as' : List Addr) (es' : List β), ys = as'.map V.ref ∧ es'.Perm es ∧ Paired R as' es' ∧ as'.Perm as := by
  obtain ⟨as', p, q⟩ := Paired.perm (R := fun (x : V) y => x = V.ref y) h (paired_map V.ref (fun _ => rfl) as)
  obtain ⟨es', p2, q2⟩ := Paired.perm p hx
  exact ⟨as', es', paired_eq_map q, p2, q2, p⟩
def numsTo (m : Nat) : List Int := (List.range m).map fun i : Nat => (i : Int)
theorem rgV_nums (m : Int) : rgV 0 m = (numsTo m.toNat).map V.int := by
  unfold rgV numsTo
  rw [List.map_map, Int.sub_zero]
  refine List.map_congr_left fun i _ => ?_
  show V.int (0 + (i : Int)) = V.int (i : Int)
  rw [Int.zero_add]
theorem mem_numsTo {m : Nat} {a : Int} : a ∈ numsTo m ↔ 0 ≤ a ∧ a < m := by
  unfold numsTo
  rw [List.mem_map]
  constructor
  · rintro ⟨i, hi, rfl⟩
    have := List.mem_range.mp hi
    omega
  · rintro ⟨h0, h1⟩
    exact ⟨a.toNat, List.mem_range.mpr (by omega), by omega⟩
theorem numsTo_length (m : Nat) : (numsTo m).length = m := by
  unfold numsTo
  rw [List.length_map, List.length_range]
theorem paired_snoc {α β : Type} {R : α → β → Prop} {a : α} {b : β} {xs : List α} {ys : List β} (h : Paired R xs ys) (r : R a b) : Paired R (xs ++ [a]) (ys ++ [b]) := Paired.snoc h r
theorem paired_mem {α β : Type} {R : α → β → Prop} : ∀ {xs : List α} {ys : List β} {x : α}, Paired R xs ys → x ∈ xs → ∃ y, y ∈ ys ∧ R x y
  | _, _, _, .nil, h => by simp at h
  | _, _, x, .cons (a := a) r t, h => by
    rcases List.mem_cons.mp h with e | h
    · subst e
      exact ⟨_, List.mem_cons_self .., r⟩
    · obtain ⟨y, hy, hr⟩ := paired_mem t h
      exact ⟨y, List.mem_cons_of_mem _ hy, hr⟩
/-! ### loops and comprehensions over more -/
theorem for_enum {K : PySem.W.Frag} {a : Addr} {xs : List V} {g : TG} {tb : TS} {D : Ends} {σ : L2.St} {H : Hp} (Pv : Nat → L2.St → Hp → Prop) (h0 : Pv 0 σ H) (hq : ∀ i σ H, Pv i σ H → SqL K H a xs)
    (hs : ∀ (i : Nat) (x : V) (T : Addr) (σ : L2.St) (H : Hp), xs[i]? = some x → Pv i σ H → H T = none → g (.ref T) σ (upd H T (.tup [.int (i : Nat), x])) fun σ2 H2 => tb { D with nx := Pv (i + 1), ct := Pv (i + 1), bk := D.nx } σ2 H2) (hd : ∀ σ H, Pv xs.length σ H → D.nx σ H) :
    ∃ W : Nat → Nat → L2.St → Hp → Prop, (∃ m, W 0 m σ H) ∧ ∀ i m σ H, W i m σ H →
      ((Ite K a).stop i H ∧ D.nx σ H) ∨ ((Ite K a).go i H ∧ ∃ N : L2.St → Hp → Prop, (∀ σ' H', N σ' H' → ∃ m', m' < m ∧ W (i + 1) m' σ' H') ∧ ∀ v H', (Ite K a).yld i H v H' → g v σ H' fun σ2 H2 => tb { D with nx := N, ct := N, bk := D.nx } σ2 H2) := by
  refine ⟨fun i m σ H => m = xs.length - i ∧ i ≤ xs.length ∧ Pv i σ H, ⟨xs.length, rfl, Nat.zero_le _, h0⟩, ?_⟩
  rintro i m σ H ⟨rfl, hi, p⟩
  have qx := hq i σ H p
  by_cases hlt : i < xs.length
  · have hx : xs[i]? = some xs[i] := List.getElem?_eq_getElem hlt
    refine .inr ⟨⟨xs, _, qx, hx⟩, Pv (i + 1), fun σ' H' p' => ⟨xs.length - (i + 1), by omega, rfl, hlt, p'⟩, fun v H' y => ?_⟩
    obtain ⟨T, x', rfl, hT, rfl, f1⟩ := y
    exact hs i x' T σ H (f1 xs qx) p hT
  · have e : i = xs.length := by omega
    subst e
    exact .inl ⟨⟨xs, qx, Nat.le_refl _⟩, hd σ H p⟩
theorem lc_zip {K : PySem.W.Frag} {a b : Addr} {xs ys : List V} {g : TG} {tt : TT} {te : TE} {vs : List Nat} {σ : L2.St} {H1 : Hp} {D : Addr} {Qd : Hp → Prop} (hl : xs.length = ys.length) (Pv : Nat → Hp → Prop) (h0 : Pv 0 (upd H1 D (.lst []))) (hq : ∀ i H, Pv i H → SqL K H a xs ∧ SqL K H b ys)
    (hs : ∀ (i : Nat) (x y : V) (T : Addr) (H : Hp), xs[i]? = some x → ys[i]? = some y → Pv i H → H T = none → g (.ref T) (wipe σ vs) (upd H T (.tup [x, y])) fun σ2 H2 => wipe σ2 vs = wipe σ vs ∧ tt σ2 H2 fun b H3 =>
      if b = true then te σ2 H3 fun y H4 => ∃ acc, H4 D = some (.lst acc) ∧ acc.length < sizeLine ∧ Pv (i + 1) (upd H4 D (.lst (acc ++ [y]))) else Pv (i + 1) H3) (hd : ∀ H, Pv xs.length H → Qd H) :
    ∃ W : Nat → Nat → Hp → Prop, (∃ m, W 0 m (upd H1 D (.lst []))) ∧ ∀ i m H, W i m H →
      ((Itz K a b).stop i H ∧ Qd H) ∨ ((Itz K a b).go i H ∧ ∃ Nx : Hp → Prop, (∀ H', Nx H' → ∃ m', m' < m ∧ W (i + 1) m' H') ∧ ∀ x H', (Itz K a b).yld i H x H' → g x (wipe σ vs) H' fun σ2 H2 => wipe σ2 vs = wipe σ vs ∧ tt σ2 H2 fun b H3 =>
        if b = true then te σ2 H3 fun y H4 => ∃ acc, H4 D = some (.lst acc) ∧ acc.length < sizeLine ∧ Nx (upd H4 D (.lst (acc ++ [y]))) else Nx H3) := by
  refine ⟨fun i m H => m = xs.length - i ∧ i ≤ xs.length ∧ Pv i H, ⟨xs.length, rfl, Nat.zero_le _, h0⟩, ?_⟩
  rintro i m H ⟨rfl, hi, p⟩
  obtain ⟨qx, qy⟩ := hq i H p
  by_cases hlt : i < xs.length
  · have hx : xs[i]? = some xs[i] := List.getElem?_eq_getElem hlt
    have hlt2 : i < ys.length := by omega
    have hy : ys[i]? = some ys[i] := List.getElem?_eq_getElem hlt2
    refine .inr ⟨⟨xs, ys, _, _, qx, qy, hx, hy⟩, Pv (i + 1), fun H' p' => ⟨xs.length - (i + 1), by omega, rfl, hlt, p'⟩, fun v H' y => ?_⟩
    obtain ⟨T, x', y', rfl, hT, rfl, f1, f2⟩ := y
    exact hs i x' y' T H (f1 xs qx) (f2 ys qy) p hT
  · have e : i = xs.length := by omega
    subst e
    exact .inl ⟨⟨xs, ys, qx, qy, Or.inl (Nat.le_refl _)⟩, hd H p⟩
abbrev g2 (K : PySem.W.Frag) (j1 j2 : Nat) : TG := gTup K 2 (gCons (gName j1) (gCons (gName j2) gNil))
theorem take_snoc {α : Type} {l : List α} {i : Nat} {x : α} (h : l[i]? = some x) : l.take (i + 1) = l.take i ++ [x] := by
  rw [List.take_add_one, h]
  rfl
/-- [f(x, y) for x, y in zip(xs, ys)] -/
theorem el_zip {K : PySem.W.Frag} {ta : TA} {te : TE} {vs : List Nat} {j1 j2 : Nat} {σ : L2.St} {H : Hp} {a b : Addr} {xs ys : List Int} (f : Int → Int → Int) (h : EvA ta σ H [.ref a, .ref b]) (hx : SqL K H a (xs.map V.int)) (hy : SqL K H b (ys.map V.int)) (hl : xs.length = ys.length) (hz : xs.length ≤ 1000)
    (hw : ∀ u v, wipe (((wipe σ vs).set j1 (some u)).set j2 (some v)) vs = wipe σ vs)
    (he : ∀ x y H1, x ∈ xs → y ∈ ys → Ex H H1 → Ev te (((wipe σ vs).set j1 (some (.int x))).set j2 (some (.int y))) H1 (.int (f x y))) : EvL (tLc (iZip K ta) (g2 K j1 j2) tYes te vs) σ H ((List.zipWith f xs ys).map V.int) := fun H0 e Q q => h H0 e _ fun H1 e1 => by
  have hx1 := ex_l (e.trans e1) hx
  have hy1 := ex_l (e.trans e1) hy
  refine ⟨a, b, _, _, rfl, hx1, hy1, fun D hD => ?_⟩
  refine lc_zip (xs := xs.map V.int) (ys := ys.map V.int) (by rw [List.length_map, List.length_map]; exact hl) (fun i H' => Ex H1 H' ∧ H' D = some (.lst (((List.zipWith f xs ys).take i).map V.int))) ⟨Ex.new hD, upd_same⟩ (fun i H' p => ⟨ex_l p.1 hx1, ex_l p.1 hy1⟩) (fun i x y T H' gx gy p nT => ?_) (fun H' p => ?_)
  · obtain ⟨p1, p2⟩ := p
    rw [List.getElem?_map] at gx gy
    obtain ⟨x', hx', rfl⟩ := Option.map_eq_some_iff.mp gx
    obtain ⟨y', hy', rfl⟩ := Option.map_eq_some_iff.mp gy
    refine ⟨T, _, rfl, SqT.of upd_same, rfl, _, _, rfl, _, _, rfl, rfl, hw _ _, ?_⟩
    show te _ _ _
    have xT : Ex H' (upd H' T (.tup [.int x', .int y'])) := Ex.new nT
    refine he x' y' H (List.mem_of_getElem? hx') (List.mem_of_getElem? hy') (Ex.refl H) _ ((e.trans e1).trans (p1.trans xT)) _ fun H4 e4 => ?_
    refine ⟨_, e4 _ _ (xT _ _ p2), ?_, Ex.mut ((p1.trans xT).trans e4) hD, ?_⟩
    · rw [List.length_map, List.length_take]
      have := (List.getElem?_eq_some_iff.mp hx').1
      exact small1000 (by omega)
    · have hzz : (List.zipWith f xs ys)[i]? = some (f x' y') := by
        rw [List.getElem?_zipWith, hx', hy']
      rw [upd_same, take_snoc hzz, List.map_append]
      rfl
  · obtain ⟨p1, p2⟩ := p
    rw [List.take_of_length_le (by rw [List.length_zipWith, List.length_map]; omega)] at p2
    exact q D H' (fresh_back e1 hD) (e1.trans p1) p2
/-- [g(x, y) for x, y in qs], qs a list of pairs -/
theorem el_pairs {K : PySem.W.Frag} {n : Nat} {te : TE} {vs : List Nat} {j1 j2 : Nat} {σ : L2.St} {H : Hp} {a : Addr} {bs : List Addr} {qs : List (Int × Int)} (f : Int × Int → Int) (hσ : σ[n]? = some (some (.ref a))) (hx : H a = some (.lst (bs.map V.ref))) (hE : EdgesAt H bs qs) (hz : qs.length ≤ 1000)
    (hw : ∀ u v, wipe (((wipe σ vs).set j1 (some u)).set j2 (some v)) vs = wipe σ vs)
    (he : ∀ e H1, e ∈ qs → Ex H H1 → Ev te (((wipe σ vs).set j1 (some (.int e.1))).set j2 (some (.int e.2))) H1 (.int (f e))) : EvL (tLc (iList K (tVar n)) (g2 K j1 j2) tYes te vs) σ H ((qs.map f).map V.int) := fun H1 e1 Q q => by
  have hx1 := e1 _ _ hx
  have el : bs.length = qs.length := Paired.length hE
  refine ⟨_, hσ, a, rfl, ⟨_, SqL.of hx1⟩, fun D hD => ?_⟩
  refine lc_list (K := K) (a := a) (xs := bs.map V.ref) (fun i H' => Ex H1 H' ∧ H' D = some (.lst (((qs.map f).take i).map V.int))) ⟨Ex.new hD, upd_same⟩ (fun i H' _ p => SqL.of (p.1 _ _ hx1)) (fun i x H' gx p => ?_) (fun H' p => ?_)
  · obtain ⟨p1, p2⟩ := p
    rw [List.getElem?_map] at gx
    obtain ⟨b, hb, rfl⟩ := Option.map_eq_some_iff.mp gx
    obtain ⟨ed, hed, hr⟩ := paired_get hE hb
    refine ⟨b, _, rfl, SqT.of ((e1.trans p1) _ _ hr), rfl, _, _, rfl, _, _, rfl, rfl, hw _ _, ?_⟩
    show te _ _ _
    refine he ed H (List.mem_of_getElem? hed) (Ex.refl H) _ (e1.trans p1) _ fun H4 e4 => ?_
    refine ⟨_, e4 _ _ p2, ?_, Ex.mut (p1.trans e4) hD, ?_⟩
    · rw [List.length_map, List.length_take, List.length_map]
      exact small1000 (by omega)
    · have hzz : (qs.map f)[i]? = some (f ed) := by rw [List.getElem?_map, hed]; rfl
      rw [upd_same, take_snoc hzz, List.map_append]
      rfl
  · obtain ⟨p1, p2⟩ := p
    rw [List.take_of_length_le (by rw [List.length_map, List.length_map]; omega)] at p2
    exact q D H' hD p1 p2
/-- [[..] for i in range(m)]: new rows -/
theorem lc_rows {ta : TA} {te : TE} {vs : List Nat} {j : Nat} {σ : L2.St} {H : Hp} {Q : VK} {m : Nat} (F : Nat → List Int) (h : EvA ta σ H [.int (m : Int)]) (hm : m ≤ 1000) (hw : ∀ u, wipe ((wipe σ vs).set j (some u)) vs = wipe σ vs)
    (he : ∀ i H1, Ex H H1 → i < m → EvL te ((wipe σ vs).set j (some (.int (i : Int)))) H1 ((F i).map V.int))
    (k : ∀ p as H2, H p = none → (∀ a ∈ as, H a = none) → as.Nodup → p ∉ as → Ex H H2 → Tab H2 p as ((List.range m).map F) → Q (.ref p) H2) : tLc (iRng1 ta) (gName j) tYes te vs σ H Q := by
  refine h H (Ex.refl H) _ fun H1 e1 => ⟨(m : Int), rfl, by omega, by omega, fun D hD => ?_⟩
  have hDH : H D = none := fresh_back e1 hD
  refine lc_range (lo := 0) (n := (m : Int).toNat) (fun i H' => ∃ as, Ex H1 H' ∧ H' D = some (.lst (as.map V.ref)) ∧ RowsAt H' as ((List.range i).map F) ∧ (∀ a ∈ as, H a = none) ∧ as.Nodup ∧ D ∉ as) ⟨[], Ex.new hD, upd_same, .nil, fun a ha => by simp at ha, List.nodup_nil, by simp⟩ (fun i H' hi p => ?_) (fun H' p => ?_)
  · obtain ⟨as, p1, p2, p3, p4, p5, p6⟩ := p
    have el : as.length = i := by rw [Paired.length p3, List.length_map, List.length_range]
    have e0 : (0 : Int) + (i : Int) = (i : Int) := Int.zero_add _
    refine ⟨hw _, ?_⟩
    show te ((wipe σ vs).set j (some (.int ((0 : Int) + (i : Int))))) H' _
    rw [e0]
    refine he i H' (e1.trans p1) (by omega) H' (Ex.refl _) _ fun r H4 nr e4 hr => ?_
    have nrD : r ≠ D := fun z => by
      rw [z, p2] at nr
      cases nr
    refine ⟨_, e4 _ _ p2, ?_, as ++ [r], Ex.mut (p1.trans e4) hD, ?_, ?_, ?_, ?_, ?_⟩
    · rw [List.length_map, el]
      exact small1000 (by omega)
    · rw [upd_same, List.map_append]
      rfl
    · rw [List.range_succ, List.map_append]
      have st : ∀ a (l : List Int), a ≠ D → H4 a = some (.lst (l.map V.int)) → upd H4 D (.lst (as.map V.ref ++ [.ref r])) a = some (.lst (l.map V.int)) := fun a l n g => by
        rw [upd_ne n]
        exact g
      refine paired_snoc ?_ (st r _ nrD hr)
      have aux : ∀ {as' : List Addr} {rs : List (List Int)}, D ∉ as' → RowsAt H' as' rs → RowsAt (upd H4 D (.lst (as.map V.ref ++ [.ref r]))) as' rs := by
        intro as' rs hn hp
        induction hp with
        | nil => exact .nil
        | cons g t ih => exact .cons (st _ _ (fun z => hn (by rw [z]; exact List.mem_cons_self ..)) (e4 _ _ g)) (ih fun z => hn (List.mem_cons_of_mem _ z))
      exact aux p6 p3
    · intro a ha
      rcases List.mem_append.mp ha with h | h
      · exact p4 a h
      · have : a = r := by simpa using h
        rw [this]
        exact fresh_back (e1.trans p1) nr
    · refine List.nodup_append.mpr ⟨p5, by simp, fun a ha b hb => ?_⟩
      have : b = r := by simpa using hb
      rw [this]
      intro z
      rw [z] at ha
      obtain ⟨x, _, hx⟩ := paired_mem p3 ha
      rw [nr] at hx
      cases hx
    · intro ha
      rcases List.mem_append.mp ha with h | h
      · exact p6 h
      · exact nrD (by simpa using h : D = r).symm
  · obtain ⟨as, p1, p2, p3, p4, p5, p6⟩ := p
    have em : (m : Int).toNat = m := by omega
    rw [em] at p3
    exact k D as H' hDH p4 p5 p6 (e1.trans p1) ⟨p2, p3⟩
/-! ### a dict of rows by places -/
theorem nodup_sub {α : Type} [DecidableEq α] : ∀ {l1 l2 : List α}, l1.Nodup → (∀ x ∈ l1, x ∈ l2) → l1.length ≤ l2.length
  | [], _, _, _ => Nat.zero_le _
  | a :: t, l2, hn, hs => by
    have h1 := List.nodup_cons.mp hn
    have ha := hs a (List.mem_cons_self ..)
    have ih := nodup_sub (l1 := t) (l2 := l2.erase a) h1.2 fun x hx => (List.mem_erase_of_ne (fun z => h1.1 (by rw [← z]; exact hx))).mpr (hs x (List.mem_cons_of_mem _ hx))
    rw [List.length_erase_of_mem ha] at ih
    have := List.length_pos_of_mem ha
    simp only [List.length_cons]
    omega
theorem rep_flat : ∀ m : Nat, (List.replicate m [V.int 0]).flatten = (List.replicate m 0).map V.int
  | 0 => rfl
  | m + 1 => by
    rw [List.replicate_succ, List.flatten_cons, rep_flat m]
    rfl
theorem nodup_nums (m : Nat) : (numsTo m).Nodup := by
  unfold numsTo
  exact List.Pairwise.map _ (fun a b h z => h (by omega)) List.nodup_range
theorem val_mem : ∀ {kvs : List (Key × V)} {L : List Int} {x : Int}, kvs.map (·.1) = L.map Sum.inl → ((valV kvs (Sum.inl x : Key)).isSome = true ↔ x ∈ L)
  | [], L, x, h => by
    cases L with
    | nil => simp [valV]
    | cons a l => simp at h
  | kv :: r, L, x, h => by
    cases L with
    | nil => simp at h
    | cons a l =>
      have h1 : kv.1 = Sum.inl a ∧ r.map (·.1) = l.map Sum.inl := by
        have := List.cons.inj h
        exact ⟨this.1, this.2⟩
      have ih := val_mem (kvs := r) (L := l) (x := x) h1.2
      by_cases e : x = a
      · subst e
        rw [valV_pos h1.1]
        simp
      · have ne : ¬ kv.1 = Sum.inl x := by
          rw [h1.1]
          intro z
          exact e (Sum.inl.inj z).symm
        have e2 : valV (kv :: r) (Sum.inl x : Key) = valV r (Sum.inl x : Key) := by
          simp [valV, List.find?_cons, ne]
        rw [e2, ih, List.mem_cons]
        exact ⟨Or.inr, fun z => z.resolve_left e⟩
/-- the dict at d: rows of m whole numbers by the places L -/
structure FarOk (H : Hp) (d : Addr) (m : Nat) (kvs : List (Key × V)) (L : List Int) : Prop where
  at_ : H d = some (.dK kvs)
  keys : kvs.map (·.1) = L.map Sum.inl
  nd : L.Nodup
  inn : ∀ x ∈ L, 0 ≤ x ∧ x ≤ m
  row : ∀ x v, valV kvs (Sum.inl x : Key) = some v → ∃ (a : Addr) (ns : List Int), v = .ref a ∧ H a = some (.lst (ns.map V.int)) ∧ ns.length = m ∧ ∀ y ∈ ns, y.natAbs ≤ L.length
theorem FarOk.len {H : Hp} {d : Addr} {m : Nat} {kvs : List (Key × V)} {L : List Int} (h : FarOk H d m kvs L) : kvs.length = L.length := by
  rw [← List.length_map (f := (·.1)), h.keys, List.length_map]
theorem FarOk.le {H : Hp} {d : Addr} {m : Nat} {kvs : List (Key × V)} {L : List Int} (h : FarOk H d m kvs L) : L.length ≤ m + 1 := by
  have := nodup_sub (l2 := numsTo (m + 1)) h.nd fun x hx => mem_numsTo.mpr (by have := h.inn x hx; omega)
  rw [numsTo_length] at this
  exact this
theorem FarOk.all {H : Hp} {d : Addr} {m : Nat} {kvs : List (Key × V)} {L : List Int} (h : FarOk H d m kvs L) (hl : m < L.length) : ∀ x : Int, 0 ≤ x → x ≤ m → x ∈ L := by
  intro x h0 h1
  by_cases hx : x ∈ L
  · exact hx
  · have h2 := nodup_sub (l1 := x :: L) (l2 := numsTo (m + 1)) (List.nodup_cons.mpr ⟨hx, h.nd⟩) fun y hy => mem_numsTo.mpr (by
      rcases List.mem_cons.mp hy with rfl | hy
      · omega
      · have := h.inn y hy
        omega)
    rw [numsTo_length, List.length_cons] at h2
    omega
theorem FarOk.ex {H H' : Hp} {d : Addr} {m : Nat} {kvs : List (Key × V)} {L : List Int} (h : FarOk H d m kvs L) (e : Ex H H') : FarOk H' d m kvs L :=
  ⟨e _ _ h.at_, h.keys, h.nd, h.inn, fun x v hv => by
    obtain ⟨a, ns, h1, h2, h3, h4⟩ := h.row x v hv
    exact ⟨a, ns, h1, e _ _ h2, h3, h4⟩⟩
theorem FarOk.get {H : Hp} {d : Addr} {m : Nat} {kvs : List (Key × V)} {L : List Int} (h : FarOk H d m kvs L) {x : Int} (hx : x ∈ L) : ∃ (a : Addr) (ns : List Int), valV kvs (Sum.inl x : Key) = some (.ref a) ∧ H a = some (.lst (ns.map V.int)) ∧ ns.length = m ∧ ∀ y ∈ ns, y.natAbs ≤ L.length := by
  have hs := (val_mem h.keys).mpr hx
  obtain ⟨v, hv⟩ := Option.isSome_iff_exists.mp hs
  obtain ⟨a, ns, h1, h2, h3, h4⟩ := h.row x v hv
  subst h1
  exact ⟨a, ns, hv, h2, h3, h4⟩
theorem FarOk.no {H : Hp} {d : Addr} {m : Nat} {kvs : List (Key × V)} {L : List Int} (h : FarOk H d m kvs L) {x : Int} (hx : x ∉ L) : valV kvs (Sum.inl x : Key) = none := by
  cases q : valV kvs (Sum.inl x : Key) with
  | none => rfl
  | some v => exact absurd ((val_mem h.keys).mp (by rw [q]; rfl)) hx
theorem FarOk.some_ {H : Hp} {d : Addr} {m : Nat} {kvs : List (Key × V)} {L : List Int} (h : FarOk H d m kvs L) (x : Int) : (valV kvs (Sum.inl x : Key)).isSome = decide (x ∈ L) := by
  rw [Bool.eq_iff_iff, val_mem h.keys, decide_eq_true_iff]
theorem FarOk.put {H : Hp} {d : Addr} {m : Nat} {kvs : List (Key × V)} {L : List Int} {x : Int} {a : Addr} {ns : List Int} (h : FarOk H d m kvs L) (hx : x ∉ L) (h0 : 0 ≤ x ∧ x ≤ m) (ha : H a = some (.lst (ns.map V.int))) (hl : ns.length = m) (hb : ∀ y ∈ ns, y.natAbs ≤ L.length + 1) :
    FarOk (upd H d (.dK (putK kvs (Sum.inl x) (.ref a)))) d m (putK kvs (Sum.inl x) (.ref a)) (L ++ [x]) := by
  have hn := h.no hx
  have ne : ∀ b (l : List V), H b = some (.lst l) → b ≠ d := fun b l g => ne_of g h.at_ (by intro z; cases z)
  refine ⟨upd_same, ?_, ?_, ?_, ?_⟩
  · rw [putK_new _ hn, List.map_append, List.map_append, h.keys]
    rfl
  · refine List.nodup_append.mpr ⟨h.nd, by simp, fun y hy z hz => ?_⟩
    have : z = x := by simpa using hz
    rw [this]
    intro e
    exact hx (e ▸ hy)
  · intro y hy
    rcases List.mem_append.mp hy with q | q
    · exact h.inn y q
    · have : y = x := by simpa using q
      rw [this]
      exact h0
  · intro y v hv
    rw [valV_put] at hv
    rw [List.length_append]
    by_cases e : (Sum.inl y : Key) = Sum.inl x
    · rw [if_pos e] at hv
      have ev := Option.some.inj hv
      subst ev
      refine ⟨a, ns, rfl, ?_, hl, hb⟩
      rw [upd_ne (ne a _ ha)]
      exact ha
    · rw [if_neg e] at hv
      obtain ⟨b, l, h1, h2, h3, h4⟩ := h.row y v hv
      refine ⟨b, l, h1, ?_, h3, fun z hz => Nat.le_succ_of_le (h4 z hz)⟩
      rw [upd_ne (ne b _ h2)]
      exact h2
theorem ev_dget {σ : L2.St} {H : Hp} {i j : Nat} {d : Addr} {x : Int} {kvs : List (Key × V)} {v : V} (h1 : σ[i]? = some (some (.ref d))) (h2 : σ[j]? = some (some (.int x))) (hd : H d = some (.dK kvs)) (hv : valV kvs (Sum.inl x : Key) = some v) : Ev (tDGet (tVar i) (tVar j)) σ H v := fun H1 e Q q =>
  ⟨_, h1, _, h2, d, v, rfl, by rw [← hv]; exact DGet.k (k := Sum.inl x) (e _ _ hd), q H1 (Ex.refl _)⟩
/-- the kk-th number of the row that stands by x -/
def rowOf : Option HO → List Int
  | some (.lst xs) => xs.map fun v => match v with | .int i => i | _ => 0
  | _ => []
theorem rowOf_ints (ns : List Int) : rowOf (some (.lst (ns.map V.int))) = ns := by
  show (ns.map V.int).map (fun v => match v with | V.int i => i | _ => 0) = ns
  rw [List.map_map]
  exact List.map_id' ns
def valN (H : Hp) (kvs : List (Key × V)) (x : Int) (kk : Nat) : Int :=
  match valV kvs (Sum.inl x : Key) with
  | some (.ref a) => (rowOf (H a))[kk]?.getD 0
  | _ => 0
theorem valN_eq {H : Hp} {kvs : List (Key × V)} {x : Int} {kk : Nat} {a : Addr} {ns : List Int} (h : valV kvs (Sum.inl x : Key) = some (.ref a)) (g : H a = some (.lst (ns.map V.int))) : valN H kvs x kk = ns[kk]?.getD 0 := by
  unfold valN
  rw [h]
  show (rowOf (H a))[kk]?.getD 0 = _
  rw [g, rowOf_ints]
theorem atI_row {ns : List Int} {kk : Nat} (h : kk < ns.length) : atI (ns.map V.int) (kk : Int) = some (.int (ns[kk]?.getD 0)) := by
  refine atI_nat ?_
  rw [List.getElem?_map, List.getElem?_eq_getElem h]
  rfl
/-- a new table (new since H): m rows of w numbers, none greater than B -/
structure NewTab (H H' : Hp) (p : Addr) (as : List Addr) (rows : List (List Int)) (w B : Nat) : Prop where
  p0 : H p = none
  a0 : ∀ a ∈ as, H a = none
  nd : as.Nodup
  np : p ∉ as
  tab : Tab H' p as rows
  ok : ∀ r ∈ rows, r.length = w ∧ ∀ y ∈ r, y.natAbs ≤ B
theorem NewTab.ex {H H' H2 : Hp} {p : Addr} {as : List Addr} {rows : List (List Int)} {w B : Nat} (h : NewTab H H' p as rows w B) (e : Ex H' H2) : NewTab H H2 p as rows w B := ⟨h.p0, h.a0, h.nd, h.np, h.tab.ex e, h.ok⟩
theorem rows_but {H H' : Hp} : ∀ {as : List Addr} {rows : List (List Int)}, RowsAt H as rows → (∀ a ∈ as, ∀ o, H a = some o → H' a = some o) → RowsAt H' as rows
  | _, _, .nil, _ => .nil
  | _, _, .cons g t, h => .cons (h _ (List.mem_cons_self ..) _ g) (rows_but t fun a ha => h a (List.mem_cons_of_mem _ ha))
theorem NewTab.exB {H H' H2 : Hp} {s p : Addr} {as : List Addr} {rows : List (List Int)} {w B : Nat} (h : NewTab H H' p as rows w B) (e : ExB s H' H2) (hs : ∃ o, H s = some o) : NewTab H H2 p as rows w B := by
  obtain ⟨o, ho⟩ := hs
  have n1 : p ≠ s := fun z => by
    have := h.p0
    rw [z, ho] at this
    cases this
  have n2 : ∀ a ∈ as, a ≠ s := fun a ha z => by
    have := h.a0 a ha
    rw [z, ho] at this
    cases this
  exact ⟨h.p0, h.a0, h.nd, h.np, ⟨e _ _ n1 h.tab.1, rows_but h.tab.2 fun a ha o' g => e a o' (n2 a ha) g⟩, h.ok⟩
theorem NewTab.back {H0 H H' : Hp} {s p : Addr} {as : List Addr} {rows : List (List Int)} {w B : Nat} (h : NewTab H H' p as rows w B) (e : ExB s H0 H) (hs : ∃ o, H s = some o) : NewTab H0 H' p as rows w B :=
  ⟨fresh_B e h.p0 hs, fun a ha => fresh_B e (h.a0 a ha) hs, h.nd, h.np, h.tab, h.ok⟩
theorem NewTab.mono {H H' : Hp} {p : Addr} {as : List Addr} {rows : List (List Int)} {w B B' : Nat} (h : NewTab H H' p as rows w B) (hb : B ≤ B') : NewTab H H' p as rows w B' :=
  ⟨h.p0, h.a0, h.nd, h.np, h.tab, fun r hr => ⟨(h.ok r hr).1, fun y hy => Nat.le_trans ((h.ok r hr).2 y hy) hb⟩⟩
/-- found.append(a new row) -/
theorem NewTab.app {H H' H2 : Hp} {p r : Addr} {as : List Addr} {rows : List (List Int)} {row : List Int} {w B : Nat} (h : NewTab H H' p as rows w B) (e0 : ∀ a, H' a = none → H a = none) (e : Ex H' H2) (nr : H' r = none) (hr : H2 r = some (.lst (row.map V.int))) (hl : row.length = w) (hb : ∀ y ∈ row, y.natAbs ≤ B) :
    NewTab H (upd H2 p (.lst (as.map V.ref ++ [.ref r]))) p (as ++ [r]) (rows ++ [row]) w B := by
  have nrp : r ≠ p := fun z => by
    rw [z, h.tab.1] at nr
    cases nr
  have nra : r ∉ as := fun ha => by
    obtain ⟨x, _, hx⟩ := paired_mem h.tab.2 ha
    rw [nr] at hx
    cases hx
  refine ⟨h.p0, fun a ha => ?_, ?_, ?_, ⟨?_, ?_⟩, fun x hx => ?_⟩
  · rcases List.mem_append.mp ha with q | q
    · exact h.a0 a q
    · have : a = r := by simpa using q
      rw [this]
      exact e0 r nr
  · refine List.nodup_append.mpr ⟨h.nd, by simp, fun a ha b hb z => ?_⟩
    have : b = r := by simpa using hb
    exact nra (by rw [← this, ← z]; exact ha)
  · intro ha
    rcases List.mem_append.mp ha with q | q
    · exact h.np q
    · exact nrp (by simpa using q : p = r).symm
  · rw [upd_same, List.map_append]
    rfl
  · refine paired_snoc (rows_but h.tab.2 fun a ha o g => ?_) ?_
    · rw [upd_ne (fun z => h.np (by rw [← z]; exact ha))]
      exact e a o g
    · rw [upd_ne nrp]
      exact hr
  · rcases List.mem_append.mp hx with q | q
    · exact h.ok x q
    · have : x = row := by simpa using q
      rw [this]
      exact ⟨hl, hb⟩
theorem NewTab.new {H : Hp} {H1 : Hp} {p : Addr} {w B : Nat} (h : H p = none) (h1 : H1 p = some (.lst [])) : NewTab H H1 p [] [] w B := ⟨h, fun a ha => by simp at ha, List.nodup_nil, by simp, ⟨h1, .nil⟩, fun r hr => by simp at hr⟩
theorem noneB {s : Addr} {H H' : Hp} (e : ExB s H H') (hs : ∃ o, H' s = some o) : ∀ a, H' a = none → H a = none := fun a h => fresh_B e h hs
theorem ev_chain {r r' : R2} {ta tb tc : TE} {σ : L2.St} {H : Hp} {x y z : V} {b c : Bool} (ha : Ev ta σ H x) (hb : Ev tb σ H y) (hc : Ev tc σ H z) (h1 : RV r x y H (.bl b)) (h2 : RV r' y z H (.bl c)) : Ev (tChain r r' ta tb tc) σ H (.bl (b && c)) := fun H1 e Q q =>
  ha H1 e _ fun H2 e2 => hb H2 (e.trans e2) _ fun H3 e3 => h1 H3 ((e.trans e2).trans e3) _ fun H4 e4 => ⟨b, rfl, by
    cases b with
    | true =>
      show tc σ H4 _
      exact hc H4 (((e.trans e2).trans e3).trans e4) _ fun H5 e5 => h2 H5 ((((e.trans e2).trans e3).trans e4).trans e5) Q fun H6 e6 => q H6 ((((e2.trans e3).trans e4).trans e5).trans e6)
    | false =>
      show Q (.bl false) H4
      exact q H4 ((e2.trans e3).trans e4)⟩
theorem ev_int1 {ta : TE} {σ : L2.St} {H : Hp} {b : Bool} (h : Ev ta σ H (.bl b)) : Ev (tCB (fun xs H Q => (∃ i, xs = [V.int i] ∧ Q (V.int i) H) ∨ ∃ k, xs = [V.bl k] ∧ Q (V.int (if k = true then 1 else 0)) H) (tCons ta tNil)) σ H (.int (if b = true then 1 else 0)) := fun H1 e Q q =>
  h H1 e _ fun H2 e2 => .inr ⟨b, rfl, q H2 e2⟩
/-- [e for i in range(m)], e whole numbers -/
theorem el_rng {ta : TA} {te : TE} {vs : List Nat} {j m : Nat} {σ : L2.St} {H : Hp} (f : Nat → Int) (h : EvA ta σ H [.int (m : Int)]) (hm : m ≤ 1000) (hw : ∀ x, wipe ((wipe σ vs).set j (some x)) vs = wipe σ vs)
    (he : ∀ (i : Nat) H1, Ex H H1 → i < m → Ev te ((wipe σ vs).set j (some (.int (i : Int)))) H1 (.int (f i))) : EvL (tLc (iRng1 ta) (gName j) tYes te vs) σ H (((List.range m).map f).map V.int) := by
  have g := el_lcR1 (t := tYes) (te := te) (j := j) (vs := vs) (σ := σ) (H := H) (n := (m : Int)) (ta := ta) (fun _ => true) (fun o => .int (f o)) h (by omega) hw (fun o H1 e ho Hx ex Qx qx => qx Hx (Ex.refl _)) (fun o H1 e ho hf => he o H1 e (by omega))
  have eg : given (m : Int).toNat (fun _ => true) (fun o => V.int (f o)) = ((List.range m).map f).map V.int := by
    unfold given
    rw [Int.toNat_natCast, List.filter_eq_self.mpr (fun _ _ => rfl), List.map_map]
    rfl
  rw [eg] at g
  exact g
/-- [f(row) for row in rows] -/
theorem el_col {K : PySem.W.Frag} {n : Nat} {te : TE} {vs : List Nat} {j : Nat} {σ : L2.St} {H : Hp} {a : Addr} {bs : List Addr} {qs : List (List Int)} (f : List Int → Int) (hσ : σ[n]? = some (some (.ref a))) (hx : H a = some (.lst (bs.map V.ref))) (hE : RowsAt H bs qs) (hz : qs.length ≤ 1000)
    (hw : ∀ u, wipe ((wipe σ vs).set j (some u)) vs = wipe σ vs)
    (he : ∀ b r H1, r ∈ qs → H b = some (.lst (r.map V.int)) → Ex H H1 → Ev te ((wipe σ vs).set j (some (.ref b))) H1 (.int (f r))) : EvL (tLc (iList K (tVar n)) (gName j) tYes te vs) σ H ((qs.map f).map V.int) := fun H1 e1 Q q => by
  have hx1 := e1 _ _ hx
  have el : bs.length = qs.length := Paired.length hE
  refine ⟨_, hσ, a, rfl, ⟨_, SqL.of hx1⟩, fun D hD => ?_⟩
  refine lc_list (K := K) (a := a) (xs := bs.map V.ref) (fun i H' => Ex H1 H' ∧ H' D = some (.lst (((qs.map f).take i).map V.int))) ⟨Ex.new hD, upd_same⟩ (fun i H' _ p => SqL.of (p.1 _ _ hx1)) (fun i x H' gx p => ?_) (fun H' p => ?_)
  · obtain ⟨p1, p2⟩ := p
    rw [List.getElem?_map] at gx
    obtain ⟨b, hb, rfl⟩ := Option.map_eq_some_iff.mp gx
    obtain ⟨ed, hed, hr⟩ := paired_get hE hb
    refine ⟨hw _, ?_⟩
    show te _ _ _
    refine he b ed H (List.mem_of_getElem? hed) hr (Ex.refl H) _ (e1.trans p1) _ fun H4 e4 => ?_
    refine ⟨_, e4 _ _ p2, ?_, Ex.mut (p1.trans e4) hD, ?_⟩
    · rw [List.length_map, List.length_take, List.length_map]
      exact small1000 (by omega)
    · have hzz : (qs.map f)[i]? = some (f ed) := by rw [List.getElem?_map, hed]; rfl
      rw [upd_same, take_snoc hzz, List.map_append]
      rfl
  · obtain ⟨p1, p2⟩ := p
    rw [List.take_of_length_le (by rw [List.length_map, List.length_map]; omega)] at p2
    exact q D H' hD p1 p2
/-- [a number drawn for i in range(m)] -/
theorem lc_draw {ta : TA} {te : TE} {vs : List Nat} {j m : Nat} {σ : L2.St} {H : Hp} {Q : VK} {s : Addr} {n : Int} (P : Int → Prop) (h : EvA ta σ H [.int (m : Int)]) (hm : m ≤ 1000) (hs : SrcAt H s n) (hw : ∀ u, wipe ((wipe σ vs).set j (some u)) vs = wipe σ vs)
    (he : ∀ (i : Nat) H1, ExB s H H1 → i < m → SrcAt H1 s (n + i) → ∀ Q1 : VK, (∀ x H2, P x → ExB s H1 H2 → SrcAt H2 s (n + i + 1) → Q1 (.int x) H2) → te ((wipe σ vs).set j (some (.int (i : Int)))) H1 Q1)
    (k : ∀ (D : Addr) (ns : List Int) (H2 : Hp), H D = none → ExB s H H2 → SrcAt H2 s (n + m) → H2 D = some (.lst (ns.map V.int)) → ns.length = m → (∀ x ∈ ns, P x) → Q (.ref D) H2) : tLc (iRng1 ta) (gName j) tYes te vs σ H Q := by
  refine h H (Ex.refl H) _ fun H1 e1 => ⟨(m : Int), rfl, by omega, by omega, fun D hD => ?_⟩
  have hDH : H D = none := fresh_back e1 hD
  have hDs : D ≠ s := (hs.ex e1).ne hD
  refine lc_range (lo := 0) (n := (m : Int).toNat) (fun i H' => ∃ ns, ExB s H H' ∧ SrcAt H' s (n + i) ∧ H' D = some (.lst (ns.map V.int)) ∧ ns.length = i ∧ ∀ x ∈ ns, P x) ⟨[], ExB.of (e1.trans (Ex.new hD)), (hs.ex (e1.trans (Ex.new hD))).le (by omega), upd_same, rfl, fun x hx => by simp at hx⟩ (fun i H' hi p => ?_) (fun H' p => ?_)
  · obtain ⟨ns, p1, p2, p3, p4, p5⟩ := p
    have e0 : (0 : Int) + (i : Int) = (i : Int) := Int.zero_add _
    refine ⟨hw _, ?_⟩
    show te ((wipe σ vs).set j (some (.int ((0 : Int) + (i : Int))))) H' _
    rw [e0]
    refine he i H' p1 (by omega) p2 _ fun x H2 hx e2 s2 => ?_
    refine ⟨_, e2 _ _ hDs p3, small1000 (by rw [List.length_map]; omega), ns ++ [x], ?_, ?_, ?_, ?_, ?_⟩
    · refine fun b o nb hb => ?_
      rw [upd_ne (ne_of_none hb hDH)]
      exact e2 _ _ nb (p1 _ _ nb hb)
    · obtain ⟨a1, a2, a3, a4, a5, a6, a7, a8⟩ := s2
      exact ⟨a1, a2, a3, by rw [upd_ne hDs.symm]; exact a4, a5, a6, a7, by omega⟩
    · rw [upd_same, List.map_append]
      rfl
    · rw [List.length_append, p4]
      rfl
    · intro y hy
      rcases List.mem_append.mp hy with q | q
      · exact p5 y q
      · have : y = x := by simpa using q
        rw [this]
        exact hx
  · obtain ⟨ns, p1, p2, p3, p4, p5⟩ := p
    have em : (m : Int).toNat = m := by omega
    rw [em] at p4 p2
    exact k D ns H' hDH p1 p2 p3 p4 p5
/-- the same over a list of whole numbers -/
theorem lc_drawL {K : PySem.W.Frag} {tl te : TE} {vs : List Nat} {j : Nat} {σ : L2.St} {H : Hp} {Q : VK} {s a : Addr} {n : Int} {xs : List Int} (P : Int → Prop) (h : Ev tl σ H (.ref a)) (hx : H a = some (.lst (xs.map V.int))) (has : a ≠ s) (hm : xs.length ≤ 1000) (hs : SrcAt H s n) (hw : ∀ u, wipe ((wipe σ vs).set j (some u)) vs = wipe σ vs)
    (he : ∀ (i : Nat) (y : Int) H1, ExB s H H1 → i < xs.length → SrcAt H1 s (n + i) → ∀ Q1 : VK, (∀ x H2, P x → ExB s H1 H2 → SrcAt H2 s (n + i + 1) → Q1 (.int x) H2) → te ((wipe σ vs).set j (some (.int y))) H1 Q1)
    (k : ∀ (D : Addr) (ns : List Int) (H2 : Hp), H D = none → ExB s H H2 → SrcAt H2 s (n + xs.length) → H2 D = some (.lst (ns.map V.int)) → ns.length = xs.length → (∀ x ∈ ns, P x) → Q (.ref D) H2) : tLc (iList K tl) (gName j) tYes te vs σ H Q := by
  refine h H (Ex.refl H) _ fun H1 e1 => ⟨a, rfl, ⟨_, SqL.of (e1 _ _ hx)⟩, fun D hD => ?_⟩
  have hDH : H D = none := fresh_back e1 hD
  have hDs : D ≠ s := (hs.ex e1).ne hD
  refine lc_list (K := K) (a := a) (xs := xs.map V.int) (fun i H' => ∃ ns, ExB s H H' ∧ SrcAt H' s (n + i) ∧ H' D = some (.lst (ns.map V.int)) ∧ ns.length = i ∧ ∀ x ∈ ns, P x) ⟨[], ExB.of (e1.trans (Ex.new hD)), (hs.ex (e1.trans (Ex.new hD))).le (by omega), upd_same, rfl, fun x hx => by simp at hx⟩ (fun i H' _ ⟨_, p1, _⟩ => SqL.of (p1 _ _ has hx)) (fun i y H' gy p => ?_) (fun H' p => ?_)
  · obtain ⟨ns, p1, p2, p3, p4, p5⟩ := p
    rw [List.getElem?_map] at gy
    obtain ⟨y', hy', rfl⟩ := Option.map_eq_some_iff.mp gy
    have hi := (List.getElem?_eq_some_iff.mp hy').1
    refine ⟨hw _, ?_⟩
    show te _ H' _
    refine he i y' H' p1 hi p2 _ fun x H2 hx' e2 s2 => ?_
    refine ⟨_, e2 _ _ hDs p3, small1000 (by rw [List.length_map]; omega), ns ++ [x], ?_, ?_, ?_, ?_, ?_⟩
    · refine fun b o nb hb => ?_
      rw [upd_ne (ne_of_none hb hDH)]
      exact e2 _ _ nb (p1 _ _ nb hb)
    · obtain ⟨a1, a2, a3, a4, a5, a6, a7, a8⟩ := s2
      exact ⟨a1, a2, a3, by rw [upd_ne hDs.symm]; exact a4, a5, a6, a7, by omega⟩
    · rw [upd_same, List.map_append]
      rfl
    · rw [List.length_append, p4]
      rfl
    · intro z hz
      rcases List.mem_append.mp hz with q | q
      · exact p5 z q
      · have : z = x := by simpa using q
        rw [this]
        exact hx'
  · obtain ⟨ns, p1, p2, p3, p4, p5⟩ := p
    rw [List.length_map] at p4 p2
    exact k D ns H' hDH p1 p2 p3 p4 p5
theorem rows_set {H : Hp} {v : List V} {x : Addr} : ∀ {as : List Addr} {rows : List (List Int)} {k : Nat} {row : List Int}, RowsAt H as rows → as.Nodup → as[k]? = some x → v = row.map V.int → RowsAt (upd H x (.lst v)) as (rows.set k row)
  | _, _, _, _, .nil, _, h, _ => by simp at h
  | a :: as, r :: rows, 0, row, .cons g t, nd, h, hv => by
    have e : a = x := Option.some.inj h
    subst e
    have h1 := List.nodup_cons.mp nd
    refine .cons (by rw [upd_same, hv]) (rows_but t fun b hb o q => ?_)
    rw [upd_ne (fun z => h1.1 (by rw [← z]; exact hb))]
    exact q
  | a :: as, r :: rows, k + 1, row, .cons g t, nd, h, hv => by
    have h1 := List.nodup_cons.mp nd
    have hx : as[k]? = some x := h
    refine .cons ?_ (rows_set t h1.2 hx hv)
    rw [upd_ne (fun z => h1.1 (by rw [z]; exact List.mem_of_getElem? hx))]
    exact g
theorem NewTab.set {H H' : Hp} {p x : Addr} {as : List Addr} {rows : List (List Int)} {w B k j : Nat} {row : List Int} {y : Int} (h : NewTab H H' p as rows w B) (hx : as[k]? = some x) (hr : rows[k]? = some row) (hy : y.natAbs ≤ B) : NewTab H (upd H' x (.lst ((row.map V.int).set j (.int y)))) p as (rows.set k (row.set j y)) w B := by
  have npx : p ≠ x := fun z => h.np (by rw [z]; exact List.mem_of_getElem? hx)
  have o := h.ok row (List.mem_of_getElem? hr)
  refine ⟨h.p0, h.a0, h.nd, h.np, ⟨?_, rows_set h.tab.2 h.nd hx (by rw [List.map_set])⟩, fun r hr' => ?_⟩
  · rw [upd_ne npx]
    exact h.tab.1
  · rcases List.mem_or_eq_of_mem_set hr' with q | q
    · exact h.ok r q
    · rw [q]
      refine ⟨by rw [List.length_set]; exact o.1, fun z hz => ?_⟩
      rcases List.mem_or_eq_of_mem_set hz with q2 | q2
      · exact o.2 z q2
      · rw [q2]
        exact hy
section
variable {prog : Program} {w : World} {A : Around} {E : Value → Shared → Prop} {s : Shared}
theorem slice_rev2 {sl : Addr} {vl vu vs : Value} {Q : Int × Int × Nat → Shared → Prop} (hs : s.heap.IsSliceOf sl vl vu vs) (pl : IsPart vl none) (pu : IsPart vu none) (ps : IsPart vs (some (-1)))
    (h : Q (1, -1, 2) s) : wpAny (model prog w) A (Builtin.Slice.sliceApplied (.ref sl) (pure ((2 : Nat) : Int))) Q E s := by
  obtain ⟨os, hos, hcs, hds⟩ := id hs
  unfold Builtin.Slice.sliceApplied Builtin.Slice.sliceFields
  refine wpAny_bind (wpAny_bind (wpAny_field hos hds (x := vl) rfl (wpAny_bind (wpAny_field hos hds (x := vu) rfl (wpAny_bind (wpAny_field hos hds (x := vs) rfl (wpAny_pure ?_)))))))
  refine wpAny_bind (slicePart_ ps ?_)
  show wpAny _ _ (if ((-1 : Int) == 0) = true then _ else _) _ _ s
  rw [if_neg (by decide)]
  refine wpAny_bind (slicePart_ pl (wpAny_bind (slicePart_ pu (wpAny_bind (wpAny_pure ?_)))))
  exact wpAny_pure h
theorem item_rev2 {t sl : Addr} {x y vl vu vs : Value} {Q : Value → Shared → Prop} (ht : IsTup s.heap t #[x, y]) (hs : s.heap.IsSliceOf sl vl vu vs) (pl : IsPart vl none) (pu : IsPart vu none) (ps : IsPart vs (some (-1)))
    (h : Q (.ref s.heap.objs.size) { s with heap := s.heap.push { cls := .type "tuple", data := .seq #[y, x] } }) : wpAny (model prog w) A (getItem (.ref t) (.ref sl)) Q E s := by
  have htake : sizeOk (.seq (#[y, x] : Array Value)) := by
    show 2 ≤ sizeLine
    decide
  obtain ⟨os, hos, hcs, hds⟩ := id hs
  have hTs : s.TypeIs (.ref sl) "slice" := ⟨os, hos, hcs⟩
  unfold getItem
  try with_reducible refine wpAny_holding ?_
  first | refine wpAny_bind (wpAny_pure ?_) | skip
  refine wpAny_bind (wpAny_sequenceKey ht.typeIs (by decide) ?_)
  refine wpAny_bind (wpAny_callSpecial?_slot (name := Str.ofString "__getitem__") ht.typeIs PyProof.Rows.slot_tuple_getitem
    (wpAny_call_entry PyProof.Rows.slot_tuple_getitem ht.typeIs entry_tuple_getitem ?_ (args_tuple_getitem _ _)))
  show wpAny _ _ (Builtin.Tuple.tupleItemsOf (.ref t) >>= _) _ _ s
  refine wpAny_bind (tupleItemsOf_ ht ?_)
  refine wpAny_bind (wpAny_typeOf hTs ?_)
  rw [if_pos (by decide)]
  refine wpAny_bind (slice_rev2 hs pl pu ps ?_)
  show wpAny _ _ (if (((1 : Int) == 0 && (-1 : Int) == 1 && (2 : Nat) == 2) = true) then _ else _) _ _ s
  rw [if_neg (by decide)]
  first
    | exact wpAny_bind (m := Builtin.Tuple.tupleExact _) (wpAny_newObj_type (wpAny_pure ⟨_, rfl, wpAny_pure h⟩) htake)
    | exact wpAny_bind (m := Builtin.Tuple.tupleExact _) (wpAny_newObj_type (wpAny_bind (wpAny_pure (wpAny_pure ⟨_, rfl, wpAny_pure h⟩))) htake)
    | exact wpAny_bind (wpAny_bind (m := Builtin.Tuple.tupleExact _) (wpAny_newObj_type (wpAny_pure (wpAny_pure ⟨_, rfl, wpAny_pure h⟩)) htake))
    | exact wpAny_bind (wpAny_bind (m := Builtin.Tuple.tupleExact _) (wpAny_newObj_type (wpAny_pure ⟨_, rfl, wpAny_pure h⟩) htake))
end
section
variable {X : Cx}
/-- t[::-1], t a pair -/
def tRevT (K : PySem.W.Frag) (te : TE) : TE := fun σ H Q => te σ H fun v H1 => ∃ a x y, v = .ref a ∧ SqT K H1 a [x, y] ∧ ∀ p, H1 p = none → Q (.ref p) (upd H1 p (.tup [y, x]))
theorem pe_revT {e : Expr} {te : TE} {k : Nat} {p1 p2 p3 pos : Pos} (he : PE X e te) : PE X (.Subscript e (.Slice none none (some (.UnaryOp .USub (.Constant (.int 1) k p1) p2)) p3) pos) (tRevT X.K te) := by
  refine ⟨fun pins s σ H Q I h => ?_⟩
  refine Subscript_ (thn (he.run pins s σ H _ I h) fun v s1 ⟨z, H1, I1, r1, q1⟩ => ?_)
  obtain ⟨a, x, y, ex, hx, q⟩ := q1
  subst ex
  cases r1
  have hst : PO X (some (.UnaryOp .USub (.Constant (.int 1) k p1) p2)) (tPart (tUn (rU fun i => .int (-i)) (tC (.int 1)))) := po_some (pe_un un_neg pe_int)
  refine wpAny_Slice (thn (po_none.run pins s1 σ H1 (fun o H2 => o = none ∧ H2 = H1) I1 ⟨rfl, rfl⟩) fun vl s2 ⟨l, H2, I2, pl, el, e2⟩ => ?_)
  subst el e2
  refine thn (po_none.run pins s2 σ H2 (fun o H3 => o = none ∧ H3 = H2) I2 ⟨rfl, rfl⟩) fun vu s3 ⟨u, H3, I3, pu, eu, e3⟩ => ?_
  subst eu e3
  refine thn (hst.run pins s3 σ H3 (fun o H4 => o = some (-1) ∧ H4 = H3) I3 ⟨1, rfl, -1, rfl, rfl, rfl⟩) fun vs s4 ⟨o, H4, I4, ps, eo, e4⟩ => ?_
  subst eo e4
  have I5 : Inv X pins σ H4 { s4 with heap := s4.heap.push { cls := .type "slice", data := .fields #[vl, vu, vs] } } := I4.kept (t' := s4.toks) fun b ob q => Heap.get?_push_of_some _ q
  obtain ⟨its, r, ht, hz⟩ := I5.tuple hx
  obtain ⟨ua, ub, rfl, ra, rb⟩ := vals2 r
  show wpAny (model X.prog X.w) X.A (subscriptTail e (.Slice none none (some (.UnaryOp .USub (.Constant (.int 1) k p1) p2)) p3) (.ref a) (.ref s4.heap.objs.size)) (EP X pins σ Q) X.xe { s4 with heap := s4.heap.push { cls := .type "slice", data := .fields #[vl, vu, vs] } }
  refine tail_any (ops := [.ref a, .ref s4.heap.objs.size]) ht.typeIs (PyProof.Rows.slot_tuple_getitem.lookup) ?_ (by with_unfolding_all rfl)
  refine item_rev2 ht (Heap.IsSliceOf.new _ vl vu vs) pl pu ps ?_
  refine ⟨.ref _, _, I5.laid (t' := s4.toks) (o := .tup [y, x]) (fun b ob q => Heap.get?_push_of_some _ q) (Nat.le_refl _) ?_, rfl, q _ (I5.hok.fresh (Nat.le_refl _))⟩
  exact ⟨by show 2 ≤ sizeLine; decide, [ub, ua], .cons rb (.cons ra .nil), IsTup.new _ _⟩
end

theorem mem_dims {rows : List (List Int)} {w B : Nat} (h : ∀ r ∈ rows, r.length = w ∧ ∀ y ∈ r, y.natAbs ≤ B) {r : List Int} (hr : r ∈ rows) : r.length = w := (h r hr).1
/-- a table as the program takes it: 1 to 8 rows of 1 to 8 -/
structure TabOk (H : Hp) (p : Addr) (as : List Addr) (rows : List (List Int)) (m w : Nat) : Prop where
  tab : Tab H p as rows
  m_ : rows.length = m
  w_ : ∀ r ∈ rows, r.length = w
  b : 1 ≤ m ∧ m ≤ 8 ∧ 1 ≤ w ∧ w ≤ 8
theorem TabOk.ex {H H' : Hp} {p : Addr} {as : List Addr} {rows : List (List Int)} {m w : Nat} (h : TabOk H p as rows m w) (e : Ex H H') : TabOk H' p as rows m w := ⟨h.tab.ex e, h.m_, h.w_, h.b⟩
theorem TabOk.al {H : Hp} {p : Addr} {as : List Addr} {rows : List (List Int)} {m w : Nat} (h : TabOk H p as rows m w) : as.length = m := by rw [Paired.length h.tab.2, h.m_]
theorem TabOk.row0 {H : Hp} {p : Addr} {as : List Addr} {rows : List (List Int)} {m w : Nat} (h : TabOk H p as rows m w) : ∃ a0 r0, as[0]? = some a0 ∧ rows[0]? = some r0 ∧ H a0 = some (.lst (r0.map V.int)) ∧ r0.length = w ∧ atI (as.map V.ref) 0 = some (.ref a0) := by
  have hb := h.b
  have hl := h.al
  obtain ⟨a0, ha0⟩ : ∃ a0, as[0]? = some a0 := ⟨_, List.getElem?_eq_getElem (by omega)⟩
  obtain ⟨r0, hr0, hh⟩ := paired_get h.tab.2 ha0
  exact ⟨a0, r0, ha0, hr0, hh, h.w_ r0 (List.mem_of_getElem? hr0), atI_nat (j := 0) (by rw [List.getElem?_map, ha0]; rfl)⟩
theorem all_true (n : Nat) : (List.replicate n true).all id = true := by
  induction n with
  | zero => rfl
  | succ n ih => rw [List.replicate_succ, List.all_cons, ih]; rfl
/-- [f(x) for x in xs], each True -/
theorem el_yes {K : PySem.W.Frag} {n j : Nat} {a : Addr} {xs : List V} {te : TE} {vs : List Nat} {σ : L2.St} {H : Hp} (hσ : σ[n]? = some (some (.ref a))) (hx : H a = some (.lst xs)) (hl : xs.length ≤ 1000)
    (hs : ∀ x H', x ∈ xs → Ex H H' → Ev te ((wipe σ vs).set j (some x)) H' (.bl true)) (hw : ∀ x, wipe ((wipe σ vs).set j (some x)) vs = wipe σ vs) : EvL (tLc (iList K (tVar n)) (gName j) tYes te vs) σ H ((List.replicate xs.length true).map V.bl) := by
  intro H0 e0 Q0 q0
  have hx0 := e0 _ _ hx
  refine ⟨_, hσ, a, rfl, ⟨_, SqL.of hx0⟩, fun D hD => ?_⟩
  refine lc_list (K := K) (a := a) (xs := xs) (fun i H' => Ex H0 H' ∧ H' D = some (.lst ((List.replicate i true).map V.bl))) ⟨Ex.new hD, upd_same⟩ (fun i H' _ p => SqL.of (p.1 _ _ hx0)) (fun i x H' gx p => ?_) (fun H' p => ?_)
  · obtain ⟨p1, p2⟩ := p
    have hi := (List.getElem?_eq_some_iff.mp gx).1
    refine ⟨hw _, ?_⟩
    show te _ _ _
    refine hs x H (List.mem_of_getElem? gx) (Ex.refl H) _ (e0.trans p1) _ fun H4 e4 => ?_
    refine ⟨_, e4 _ _ p2, ?_, Ex.mut (p1.trans e4) hD, ?_⟩
    · rw [List.length_map, List.length_replicate]
      exact small1000 (by omega)
    · rw [upd_same, List.replicate_succ', List.map_append]
      rfl
  · obtain ⟨p1, p2⟩ := p
    exact q0 D H' hD p1 p2
theorem ev_all {K : PySem.W.Frag} {ta : TE} {n : Nat} {σ : L2.St} {H : Hp} (h : EvL ta σ H ((List.replicate n true).map V.bl)) : Ev (tCB (rAll K) (tCons ta tNil)) σ H (.bl true) := fun H1 e Q q =>
  h H1 e _ fun p H2 _ e2 hp => ⟨p, _, rfl, SqL.of hp, by rw [all_true]; exact q H2 e2⟩
theorem ev_fn {sp : Sp} {E : XK} {ta : TA} {σ : L2.St} {H : Hp} {vs : List V} {z : V} (h : EvA ta σ H vs) (hs : ∀ H1, Ex H H1 → ∀ Q : VK, (∀ H2, Ex H1 H2 → Q z H2) → sp vs H1 Q E) : Ev (tCall sp [] E ta) σ H z := fun H1 e Q q =>
  h H1 e _ fun H2 e2 => by
    rw [List.append_nil]
    exact hs H2 (e.trans e2) Q fun H3 e3 => q H3 (e2.trans e3)
theorem ev_isi {K : PySem.W.Frag} {ta tb : TE} {σ : L2.St} {H : Hp} {x : V} {n : String} {t : String} {b : Bool} (ha : Ev ta σ H x) (hb : Ev tb σ H (.ty n)) (ht : ∀ H1, Ex H H1 → TyX K H1 x (.type t)) (hk : kitB t n = some b) : Ev (tCB (rIsi K) (tCons ta (tCons tb tNil))) σ H (.bl b) := fun H1 e Q q =>
  ha H1 e _ fun H2 e2 => hb H2 (e.trans e2) _ fun H3 e3 => ⟨x, .ty n, _, _, b, rfl, .ty n, ht H3 ((e.trans e2).trans e3), kit_ty hk, q H3 (e2.trans e3)⟩
theorem rv_le {i j : Int} {H : Hp} : RV (rI0 fun i j => .bl (decide (i ≤ j))) (.int i) (.int j) H (.bl (decide (i ≤ j))) := rv_I0
/-- a rising list of places below n -/
def Rising (n : Int) (ns : List Int) : Prop := (∀ x ∈ ns, 0 ≤ x ∧ x < n) ∧ ns.Pairwise (· < ·)

/-- [[..] for y in ys], ys whole numbers: new rows -/
theorem lc_rowsL {K : PySem.W.Frag} {nn : Nat} {te : TE} {vs : List Nat} {j : Nat} {σ : L2.St} {H : Hp} {Q : VK} {a : Addr} {ys : List Int} (F : Int → List Int) (hσ : σ[nn]? = some (some (.ref a))) (hx : H a = some (.lst (ys.map V.int))) (hm : ys.length ≤ 1000) (hw : ∀ u, wipe ((wipe σ vs).set j (some u)) vs = wipe σ vs)
    (he : ∀ y H1, y ∈ ys → Ex H H1 → EvL te ((wipe σ vs).set j (some (.int y))) H1 ((F y).map V.int))
    (k : ∀ p as H2, H p = none → (∀ a ∈ as, H a = none) → as.Nodup → p ∉ as → Ex H H2 → Tab H2 p as (ys.map F) → Q (.ref p) H2) : tLc (iList K (tVar nn)) (gName j) tYes te vs σ H Q := by
  refine ⟨_, hσ, a, rfl, ⟨_, SqL.of hx⟩, fun D hD => ?_⟩
  refine lc_list (K := K) (a := a) (xs := ys.map V.int) (fun i H' => ∃ as, Ex H H' ∧ H' D = some (.lst (as.map V.ref)) ∧ RowsAt H' as ((ys.take i).map F) ∧ (∀ a ∈ as, H a = none) ∧ as.Nodup ∧ D ∉ as) ⟨[], Ex.new hD, upd_same, .nil, fun a ha => by simp at ha, List.nodup_nil, by simp⟩ (fun i H' _ ⟨_, p1, _⟩ => SqL.of (p1 _ _ hx)) (fun i x H' gx p => ?_) (fun H' p => ?_)
  · obtain ⟨as, p1, p2, p3, p4, p5, p6⟩ := p
    rw [List.getElem?_map] at gx
    obtain ⟨y, hy, rfl⟩ := Option.map_eq_some_iff.mp gx
    have hi := (List.getElem?_eq_some_iff.mp hy).1
    have el : as.length = i := by rw [Paired.length p3, List.length_map, List.length_take]; omega
    refine ⟨hw _, ?_⟩
    show te _ H' _
    refine he y H' (List.mem_of_getElem? hy) p1 H' (Ex.refl _) _ fun r H4 nr e4 hr => ?_
    have nrD : r ≠ D := fun z => by
      rw [z, p2] at nr
      cases nr
    refine ⟨_, e4 _ _ p2, ?_, as ++ [r], Ex.mut (p1.trans e4) hD, ?_, ?_, ?_, ?_, ?_⟩
    · rw [List.length_map, el]
      exact small1000 (by omega)
    · rw [upd_same, List.map_append]
      rfl
    · rw [take_snoc hy, List.map_append]
      refine paired_snoc (rows_but p3 fun b hb o g => ?_) ?_
      · rw [upd_ne (fun z => p6 (by rw [← z]; exact hb))]
        exact e4 _ _ g
      · rw [upd_ne nrD]
        exact hr
    · intro b hb
      rcases List.mem_append.mp hb with h | h
      · exact p4 b h
      · rw [show b = r by simpa using h]
        exact fresh_back p1 nr
    · refine List.nodup_append.mpr ⟨p5, by simp, fun b hb c hc z => ?_⟩
      have : c = r := by simpa using hc
      have hb' : r ∈ as := by rw [← this, ← z]; exact hb
      obtain ⟨x, _, hx'⟩ := paired_mem p3 hb'
      rw [nr] at hx'
      cases hx'
    · intro hb
      rcases List.mem_append.mp hb with h | h
      · exact p6 h
      · exact nrD (by simpa using h : D = r).symm
  · obtain ⟨as, p1, p2, p3, p4, p5, p6⟩ := p
    rw [List.length_map, List.take_length] at p3
    exact k D as H' hD p4 p5 p6 p1 ⟨p2, p3⟩
/-- [f(y) for y in ys], ys whole numbers -/
theorem el_mapI {K : PySem.W.Frag} {n : Nat} {te : TE} {vs : List Nat} {j : Nat} {σ : L2.St} {H : Hp} {a : Addr} {qs : List Int} (f : Int → Int) (hσ : σ[n]? = some (some (.ref a))) (hx : H a = some (.lst (qs.map V.int))) (hz : qs.length ≤ 1000)
    (hw : ∀ u, wipe ((wipe σ vs).set j (some u)) vs = wipe σ vs)
    (he : ∀ y H1, y ∈ qs → Ex H H1 → Ev te ((wipe σ vs).set j (some (.int y))) H1 (.int (f y))) : EvL (tLc (iList K (tVar n)) (gName j) tYes te vs) σ H ((qs.map f).map V.int) := fun H1 e1 Q q => by
  have hx1 := e1 _ _ hx
  refine ⟨_, hσ, a, rfl, ⟨_, SqL.of hx1⟩, fun D hD => ?_⟩
  refine lc_list (K := K) (a := a) (xs := qs.map V.int) (fun i H' => Ex H1 H' ∧ H' D = some (.lst (((qs.map f).take i).map V.int))) ⟨Ex.new hD, upd_same⟩ (fun i H' _ p => SqL.of (p.1 _ _ hx1)) (fun i x H' gx p => ?_) (fun H' p => ?_)
  · obtain ⟨p1, p2⟩ := p
    rw [List.getElem?_map] at gx
    obtain ⟨b, hb, rfl⟩ := Option.map_eq_some_iff.mp gx
    refine ⟨hw _, ?_⟩
    show te _ _ _
    refine he b H (List.mem_of_getElem? hb) (Ex.refl H) _ (e1.trans p1) _ fun H4 e4 => ?_
    refine ⟨_, e4 _ _ p2, ?_, Ex.mut (p1.trans e4) hD, ?_⟩
    · rw [List.length_map, List.length_take, List.length_map]
      exact small1000 (by omega)
    · have hzz : (qs.map f)[i]? = some (f b) := by rw [List.getElem?_map, hb]; rfl
      rw [upd_same, take_snoc hzz, List.map_append]
      rfl
  · obtain ⟨p1, p2⟩ := p
    rw [List.take_of_length_le (by rw [List.length_map, List.length_map]; omega)] at p2
    exact q D H' hD p1 p2
theorem TabOk.row {H : Hp} {p : Addr} {as : List Addr} {rows : List (List Int)} {m w : Nat} (h : TabOk H p as rows m w) {i : Int} (h0 : 0 ≤ i) (h1 : i < m) : ∃ a r, atI (as.map V.ref) i = some (.ref a) ∧ rows[i.toNat]? = some r ∧ H a = some (.lst (r.map V.int)) ∧ r.length = w := by
  have hl := h.al
  obtain ⟨a, ha⟩ : ∃ a, as[i.toNat]? = some a := ⟨_, List.getElem?_eq_getElem (by omega)⟩
  obtain ⟨r, hr, hh⟩ := paired_get h.tab.2 ha
  exact ⟨a, r, at_of (j := i.toNat) (by omega) (by rw [List.getElem?_map, ha]; rfl), hr, hh, h.w_ r (List.mem_of_getElem? hr)⟩
theorem atI_rowI {ns : List Int} {i : Int} (h0 : 0 ≤ i) (h : i < ns.length) : atI (ns.map V.int) i = some (.int (ns[i.toNat]?.getD 0)) := by
  have e : i = ((i.toNat : Nat) : Int) := by omega
  have h2 := atI_row (ns := ns) (kk := i.toNat) (by omega)
  rw [← e] at h2
  exact h2

/-- [[..] for x, row in zip(xs, rows)]: new rows -/
theorem lc_rowsZ {K : PySem.W.Frag} {ta : TA} {te : TE} {vs : List Nat} {j1 j2 : Nat} {σ : L2.St} {H : Hp} {Q : VK} {a b : Addr} {xs : List Int} {as : List Addr} {rows : List (List Int)} (F : Int → List Int → List Int) (h : EvA ta σ H [.ref a, .ref b]) (hx : H a = some (.lst (xs.map V.int))) (ht : Tab H b as rows) (hl : xs.length = rows.length) (hz : xs.length ≤ 1000)
    (hw : ∀ u v, wipe (((wipe σ vs).set j1 (some u)).set j2 (some v)) vs = wipe σ vs)
    (he : ∀ x c r H1, x ∈ xs → r ∈ rows → H c = some (.lst (r.map V.int)) → Ex H H1 → EvL te (((wipe σ vs).set j1 (some (.int x))).set j2 (some (.ref c))) H1 ((F x r).map V.int))
    (k : ∀ p bs H2, H p = none → (∀ a ∈ bs, H a = none) → bs.Nodup → p ∉ bs → Ex H H2 → Tab H2 p bs (List.zipWith F xs rows) → Q (.ref p) H2) : tLc (iZip K ta) (g2 K j1 j2) tYes te vs σ H Q := by
  refine h H (Ex.refl H) _ fun H1 e1 => ⟨a, b, _, _, rfl, SqL.of (e1 _ _ hx), SqL.of (e1 _ _ ht.1), fun D hD => ?_⟩
  have hDH : H D = none := fresh_back e1 hD
  have el0 : as.length = rows.length := Paired.length ht.2
  refine lc_zip (xs := xs.map V.int) (ys := as.map V.ref) (by rw [List.length_map, List.length_map, el0]; exact hl) (fun i H' => ∃ bs, Ex H1 H' ∧ H' D = some (.lst (bs.map V.ref)) ∧ RowsAt H' bs ((List.zipWith F xs rows).take i) ∧ (∀ a ∈ bs, H a = none) ∧ bs.Nodup ∧ D ∉ bs) ⟨[], Ex.new hD, upd_same, .nil, fun a ha => by simp at ha, List.nodup_nil, by simp⟩ (fun i H' ⟨_, p1, _⟩ => ⟨SqL.of ((e1.trans p1) _ _ hx), SqL.of ((e1.trans p1) _ _ ht.1)⟩) (fun i x y T H' gx gy p nT => ?_) (fun H' p => ?_)
  · obtain ⟨bs, p1, p2, p3, p4, p5, p6⟩ := p
    rw [List.getElem?_map] at gx gy
    obtain ⟨x', hx', rfl⟩ := Option.map_eq_some_iff.mp gx
    obtain ⟨c, hc, rfl⟩ := Option.map_eq_some_iff.mp gy
    obtain ⟨r, hr, hh⟩ := paired_get ht.2 hc
    have hi := (List.getElem?_eq_some_iff.mp hx').1
    have el : bs.length = i := by rw [Paired.length p3, List.length_take, List.length_zipWith]; omega
    have xT : Ex H' (upd H' T (.tup [.int x', .ref c])) := Ex.new nT
    refine ⟨T, _, rfl, SqT.of upd_same, rfl, _, _, rfl, _, _, rfl, rfl, hw _ _, ?_⟩
    show te _ _ _
    refine he x' c r H (List.mem_of_getElem? hx') (List.mem_of_getElem? hr) hh (Ex.refl H) _ ((e1.trans p1).trans xT) _ fun q H4 nq e4 hq => ?_
    have nqD : q ≠ D := fun z => by
      rw [z, xT _ _ p2] at nq
      cases nq
    have nqH' : H' q = none := fresh_back xT nq
    refine ⟨_, e4 _ _ (xT _ _ p2), ?_, bs ++ [q], Ex.mut ((p1.trans xT).trans e4) hD, ?_, ?_, ?_, ?_, ?_⟩
    · rw [List.length_map, el]
      exact small1000 (by omega)
    · rw [upd_same, List.map_append]
      rfl
    · have hzz : (List.zipWith F xs rows)[i]? = some (F x' r) := by rw [List.getElem?_zipWith, hx', hr]
      rw [take_snoc hzz]
      refine paired_snoc (rows_but p3 fun b hb o g => ?_) ?_
      · rw [upd_ne (fun z => p6 (by rw [← z]; exact hb))]
        exact e4 _ _ (xT _ _ g)
      · rw [upd_ne nqD]
        exact hq
    · intro b hb
      rcases List.mem_append.mp hb with h | h
      · exact p4 b h
      · rw [show b = q by simpa using h]
        exact fresh_back (e1.trans p1) nqH'
    · refine List.nodup_append.mpr ⟨p5, by simp, fun b hb c' hc' z => ?_⟩
      have : c' = q := by simpa using hc'
      have hb' : q ∈ bs := by rw [← this, ← z]; exact hb
      obtain ⟨y, _, hy⟩ := paired_mem p3 hb'
      rw [nqH'] at hy
      cases hy
    · intro hb
      rcases List.mem_append.mp hb with h | h
      · exact p6 h
      · exact nqD (by simpa using h : D = q).symm
  · obtain ⟨bs, p1, p2, p3, p4, p5, p6⟩ := p
    rw [List.take_of_length_le (by rw [List.length_zipWith, List.length_map]; omega)] at p3
    exact k D bs H' hDH p4 p5 p6 (e1.trans p1) ⟨p2, p3⟩
theorem flat_ints (ns : List Int) : (ns.map V.int).all flatV = true := by
  rw [List.all_eq_true]
  intro x hx
  obtain ⟨i, _, rfl⟩ := List.mem_map.mp hx
  rfl
/-- -1 at the picked places, else 1 -/
def sgnAt (ns : List Int) (kk : Nat) : Int := if inV (.int (kk : Int)) (ns.map V.int) = true then -1 else 1
theorem sgnAt_two (ns : List Int) (kk : Nat) : sgnAt ns kk = 1 ∨ sgnAt ns kk = -1 := by
  unfold sgnAt
  split
  · exact .inr rfl
  · exact .inl rfl
def sgns (ns : List Int) (m : Nat) : List Int := (List.range m).map (sgnAt ns)
theorem sgns_mem {ns : List Int} {m : Nat} {x : Int} (h : x ∈ sgns ns m) : x = 1 ∨ x = -1 := by
  obtain ⟨kk, _, rfl⟩ := List.mem_map.mp h
  exact sgnAt_two ns kk
def signedOf (rows : List (List Int)) (ris cis : List Int) (m w : Nat) : List (List Int) := List.zipWith (fun s r => List.zipWith (fun c y => s * c * y) (sgns cis w) r) (sgns ris m) rows
theorem bd_sgn {x : Int} (h : x = 1 ∨ x = -1) : Bd 2 x := by
  rcases h with rfl | rfl <;> (unfold Bd; decide)

section
variable {P : Program} {w : World} {K : PySem.W.Frag} {mg : Str → Option Value} {base : Heap}
-- DEF is_whole

def sp_is_whole (K : PySem.W.Frag) : Sp := fun vs H Q _ => ∃ (x : V) (t : String), vs = [x] ∧ TyX K H x (.type t) ∧ tyOk t ∧ Q (.bl (t == "int")) H

theorem ok_is_whole (T : Txt K mg) : FnOk P w K mg base CX0 1 T.f_is_whole T.fd_is_whole ["thing"] (sp_is_whole K) := by
  refine Fun.ok T.F_is_whole sc_is_whole (fun vs H Q E h => ?_) (fun cdv A outer s H vs Q E hr h => ?_)
  · obtain ⟨_, _, rfl, _⟩ := h; rfl
  · refine ⟨_, (pss_one (ps_ret (pe_and (pe_callB (id := "isinstance") (r := rIsi K) call_isi (by rfl) T.n_isinstance (by decide +kernel) (pa_cons (pv 0) (pa_cons (pe_bltn (v := .ty "int") (by rfl) T.n_int (by decide +kernel) rfl) pa_nil))) (pe_one (pe_not (pe_callB (id := "isinstance") (r := rIsi K) call_isi (by rfl) T.n_isinstance (by decide +kernel) (pa_cons (pv 0) (pa_cons (pe_bltn (v := .ty "bool") (by rfl) T.n_bool (by decide +kernel) rfl) pa_nil)))))))), ?_⟩
    obtain ⟨x, t, rfl, ty, ok, q⟩ := h
    refine ⟨x, rfl, x, _, _, _, _, rfl, ClsV.ty _, ty, kit_ty (ty_int ok), _, rfl, ?_⟩
    rcases ok with rfl | rfl | rfl | rfl | rfl | rfl | rfl
    · exact iteT ⟨x, rfl, x, _, _, _, _, rfl, ClsV.ty _, ty, kit_ty (ty_bool (.inl rfl)), _, rfl, q⟩
    · exact iteT ⟨x, rfl, x, _, _, _, _, rfl, ClsV.ty _, ty, kit_ty (ty_bool (.inr (.inl rfl))), _, rfl, q⟩
    all_goals exact iteF q
-- DEF _law_source_of

def sp__law_source_of (K : PySem.W.Frag) : Sp := fun vs H Q _ => ∃ c : Int, vs = [.int c] ∧ ∀ (s : Addr) (H' : Hp), H s = none → Ex H H' → SrcAt H' s 0 → Q (.ref s) H'

theorem ok__law_source_of (T : Txt K mg) : FnOk P w K mg base CX0 1 T.f__law_source_of T.fd__law_source_of ["_law_cell"] (sp__law_source_of K) := by
  refine Fun.ok T.F__law_source_of sc__law_source_of (fun vs H Q E h => ?_) (fun cdv A outer s H vs Q E hr h => ?_)
  · obtain ⟨_, rfl, _⟩ := h; rfl
  · refine ⟨_, (pss_one (ps_ret (pe_lst (pa_cons (pe_op op_mul (pv 0) (pe_callTy (T := "int") call_int1 (by rfl) T.n_int (by decide +kernel) (pa_cons (pe_cmpR op_ge (pv 0) (pe_op op_pow pe_int pe_int) (nomark _)) pa_nil))) (pa_cons (pe_op op_mod (pv 0) pe_int) (pa_cons pe_int pa_nil)))))), ?_⟩
    obtain ⟨c, rfl, k⟩ := h
    refine ⟨_, rfl, _, rfl, _, _, rfl, rfl, ⟨by decide, by decide, by decide⟩, _, _, rfl, rfl, .inr ⟨_, rfl, _, _, rfl, rfl, .inr ?_, ?_⟩⟩
    · split <;> exact ⟨by decide, by decide⟩
    refine ⟨_, rfl, _, _, rfl, rfl, (by show (0 : Int) < 2147483647; decide), (by show 3 ≤ sizeLine; decide), fun s hs => ?_⟩
    exact k s _ hs (Ex.new hs) ⟨_, _, _, upd_same, Int.emod_nonneg _ (by decide), Int.emod_lt_of_pos _ (by decide), Int.le_refl _, Int.le_refl _⟩
-- DEF _law_next

def sp__law_next (K : PySem.W.Frag) : Sp := fun vs H Q _ => ∃ (s : Addr) (m n : Int), vs = [.ref s, .int m] ∧ SrcAt H s n ∧ n ≤ 1000000000 ∧ 0 < m ∧ Bd 8000 m ∧
  ∀ (f : Int) (H' : Hp), 0 ≤ f → f < m → ExB s H H' → SrcAt H' s (n + 1) → Q (.int f) H'

theorem ok__law_next (T : Txt K mg) : FnOk P w K mg base CX0 1 T.f__law_next T.fd__law_next ["_law_source", "_law_many"] (sp__law_next K) := by
  refine Fun.ok T.F__law_next sc__law_next (fun vs H Q E h => ?_) (fun cdv A outer s H vs Q E hr h => ?_)
  · obtain ⟨_, _, _, rfl, _⟩ := h; rfl
  · refine ⟨_, (pss_cons (ps_if (pt_cmpR op_gt (pe_ix (r := rIxL K) ix_list (pv 0) pe_int (fun _ _ => rfl)) pe_int (nomark _))
        (pss_cons (ps_set (i := 2) sc__law_next.nd rfl (by first | exact Or.inl rfl | exact Or.inr rfl) (pe_op op_mod (pe_ix (r := rIxL K) ix_list (pv 0) pe_int (fun _ _ => rfl)) (pv 1)))
          (pss_cons (ps_asg (pe_op op_fdivW (pe_ix (r := rIxL K) ix_list (pv 0) pe_int (fun _ _ => rfl)) (pv 1)) (pg_sub (pv 0) pe_int set_list))
          (pss_one (ps_ret (pv 2)))))
        pss_nil)
      (pss_cons (ps_asg (pe_op op_add (pe_ix (r := rIxL K) ix_list (pv 0) pe_int (fun _ _ => rfl)) pe_int) (pg_sub (pv 0) pe_int set_list))
      (pss_cons (ps_set (i := 3) sc__law_next.nd rfl (by first | exact Or.inl rfl | exact Or.inr rfl) (pe_ix (r := rIxL K) ix_list (pe_lst (pa_cons pe_int (pa_cons pe_int (pa_cons pe_int (pa_cons pe_int (pa_cons pe_int (pa_cons pe_int (pa_cons pe_int pa_nil)))))))) (pe_op op_mod (pe_ix (r := rIxL K) ix_list (pv 0) pe_int (fun _ _ => rfl)) pe_int) (fun _ _ => rfl)))
      (pss_cons (ps_set (i := 4) sc__law_next.nd rfl (by first | exact Or.inl rfl | exact Or.inr rfl) (pe_op op_mod (pe_op op_pow (pe_op op_add (pe_op op_add (pe_ix (r := rIxL K) ix_list (pv 0) pe_int (fun _ _ => rfl)) (pe_op op_mul pe_int (pe_ix (r := rIxL K) ix_list (pv 0) pe_int (fun _ _ => rfl)))) pe_int) pe_int) (pv 3)))
      (pss_cons (ps_set (i := 4) sc__law_next.nd rfl (by first | exact Or.inl rfl | exact Or.inr rfl) (pe_op op_mod (pe_op op_mul (pe_op op_add (pv 4) (pe_ix (r := rIxL K) ix_list (pv 0) pe_int (fun _ _ => rfl))) (pe_op op_add (pe_op op_fdiv (pv 4) pe_int) pe_int)) (pv 3)))
      (pss_one (ps_ret (pe_op op_mod (pe_op op_fdiv (pv 4) pe_int) (pv 1))))))))), ?_⟩
    obtain ⟨s, m, n, rfl, ⟨p, u, r, hs, hu0, hu1, hr0, hr1⟩, hn, hm, bm, k⟩ := h
    refine ⟨_, rfl, s, _, _, _, rfl, rfl, SqL.of hs, rfl, _, _, rfl, rfl, _, rfl, ?_⟩
    refine ite2 (fun hp => ?_) (fun _ => ?_)
    · refine ⟨_, rfl, s, _, _, _, rfl, rfl, SqL.of hs, rfl, _, rfl, _, _, rfl, rfl, hm, ?_⟩
      refine ⟨_, rfl, s, _, _, _, rfl, rfl, SqL.of hs, rfl, _, rfl, _, _, rfl, rfl, Bd.divOk hm (bm.mono (by decide : 8000 ≤ 9000)), ?_⟩
      refine ⟨_, rfl, s, _, _, 0, rfl, rfl, hs, rfl, ?_⟩
      refine ⟨_, rfl, ?_⟩
      exact k _ _ (Int.emod_nonneg _ (by omega)) (Int.emod_lt_of_pos _ hm) (ExB.upd _ _ _) ⟨_, _, _, upd_same, hu0, hu1, hr0, by omega⟩
    · refine ⟨_, rfl, s, _, _, _, rfl, rfl, SqL.of hs, rfl, _, _, rfl, rfl, ?_⟩
      refine ⟨_, rfl, s, _, _, 2, rfl, rfl, hs, rfl, ?_⟩
      have hs2 : upd H s (.lst [.int p, .int u, .int (r + 1)]) s = some (.lst [.int p, .int u, .int (r + 1)]) := upd_same
      show tSeq _ _ _ _ (upd H s (.lst [.int p, .int u, .int (r + 1)]))
      generalize hH : upd H s (.lst [.int p, .int u, .int (r + 1)]) = H2 at hs2 ⊢
      refine ⟨(by show 7 ≤ sizeLine; decide), fun l hl => ?_⟩
      have nls : s ≠ l := ne_of_none hs2 hl
      have hs3 : upd H2 l (.lst [V.int 2147483647, V.int 2147483629, V.int 2147483587, V.int 2147483579, V.int 2147483563, V.int 2147483549, V.int 2147483543]) s = some (.lst [.int p, .int u, .int (r + 1)]) := by
        rw [upd_ne nls]
        exact hs2
      obtain ⟨pr, hpr, hp0, hp1⟩ := prime_at (r + 1) (by omega)
      refine ⟨_, rfl, s, _, _, _, rfl, rfl, SqL.of hs3, rfl, _, _, rfl, rfl, (by show (0 : Int) < 7; decide), l, _, _, _, rfl, rfl, SqL.of upd_same, hpr, ?_⟩
      have eH : ExB s H2 (upd H2 l (.lst [V.int 2147483647, V.int 2147483629, V.int 2147483587, V.int 2147483579, V.int 2147483563, V.int 2147483549, V.int 2147483543])) := ExB.of (Ex.new hl)
      generalize upd H2 l (.lst [V.int 2147483647, V.int 2147483629, V.int 2147483587, V.int 2147483579, V.int 2147483563, V.int 2147483549, V.int 2147483543]) = H3 at hs3 eH ⊢
      -- figure
      refine ⟨_, rfl, s, _, _, _, rfl, rfl, SqL.of hs3, rfl, _, rfl, s, _, _, _, rfl, rfl, SqL.of hs3, rfl, _, _, rfl, rfl, .inl ⟨by decide, by decide⟩, _, _, rfl, rfl, _, _, rfl, rfl, _, _, rfl, rfl, ⟨by decide, by decide, ?_⟩, ?_⟩
      · show (u + 7919 * (r + 1) + 1).natAbs < 2 ^ 64
        omega
      refine ⟨_, rfl, _, _, rfl, rfl, hp0, ?_⟩
      have f0 : 0 ≤ (u + 7919 * (r + 1) + 1) ^ (5 : Int).toNat % pr := Int.emod_nonneg _ (by omega)
      have f1 : (u + 7919 * (r + 1) + 1) ^ (5 : Int).toNat % pr < pr := Int.emod_lt_of_pos _ hp0
      show tSeq _ _ _ [some (.ref s), some (.int m), _, some (.int pr), some (.int ((u + 7919 * (r + 1) + 1) ^ (5 : Int).toNat % pr))] _
      generalize (u + 7919 * (r + 1) + 1) ^ (5 : Int).toNat % pr = f at f0 f1 ⊢
      refine ⟨_, rfl, _, rfl, s, _, _, _, rfl, rfl, SqL.of hs3, rfl, _, _, rfl, rfl, ?_⟩
      refine ⟨_, rfl, _, _, rfl, rfl, ⟨by decide, by decide⟩, _, _, rfl, rfl, _, _, rfl, rfl, .inl ?_, ?_⟩
      · constructor <;> omega
      refine ⟨_, rfl, _, _, rfl, rfl, hp0, ?_⟩
      refine ⟨_, rfl, _, _, rfl, rfl, ⟨by decide, by decide⟩, _, rfl, _, _, rfl, rfl, hm, ?_⟩
      refine k _ _ (Int.emod_nonneg _ (by omega)) (Int.emod_lt_of_pos _ hm) (ExB.trans ?_ eH) ⟨_, _, _, hs3, hu0, hu1, by omega, by omega⟩
      rw [← hH]
      exact ExB.upd _ _ _
-- DEF _law_cell_at

def sp__law_cell_at (K : PySem.W.Frag) : Sp := fun vs H Q _ => ∃ (a : Addr) (ns : List Int) (k : Int), vs = [.ref a, .int k] ∧ SqL K H a (ns.map V.int) ∧ 0 ≤ k ∧ ∀ c : Int, Q (.int c) H

theorem ok__law_cell_at (T : Txt K mg) : FnOk P w K mg base CX0 1 T.f__law_cell_at T.fd__law_cell_at ["_law_script", "_law_k"] (sp__law_cell_at K) := by
  refine Fun.ok T.F__law_cell_at sc__law_cell_at (fun vs H Q E h => ?_) (fun cdv A outer s H vs Q E hr h => ?_)
  · obtain ⟨_, _, _, rfl, _⟩ := h; rfl
  · refine ⟨_, (pss_cons (ps_if (pt_cmpR op_lt (pv 1) (pe_callB (id := "len") (r := rLenS K) call_len_seq (by rfl) T.n_len PySem.boot_len (pa_cons (pv 0) pa_nil)) (nomark _))
        (pss_one (ps_ret (pe_ix (r := rIxL K) ix_list (pv 0) (pv 1) (fun _ _ => rfl))))
        pss_nil)
      (pss_one (ps_ret pe_int))), ?_⟩
    obtain ⟨a, ns, k, rfl, hS, hk, q⟩ := h
    refine ⟨_, rfl, _, rfl, a, _, rfl, .inl hS, _, _, rfl, rfl, _, rfl, ?_⟩
    refine ite2 (fun hp => ?_) (fun _ => q 0)
    have hlt : k < ((ns.map V.int).length : Int) := of_decide_eq_true hp
    rw [List.length_map] at hlt
    have hn : k.toNat < ns.length := by omega
    have g : (ns.map V.int)[k.toNat]? = some (.int ns[k.toNat]) := by
      rw [List.getElem?_map, List.getElem?_eq_getElem hn]
      rfl
    refine ⟨_, rfl, _, rfl, a, _, k, _, rfl, rfl, hS, at_of (j := k.toNat) (by omega) g, ?_⟩
    exact q _
-- DEF _law_mixed

def sp__law_mixed (K : PySem.W.Frag) : Sp := fun vs H Q _ => ∃ (s l : Addr) (n : Int) (xs : List V), vs = [.ref s, .ref l] ∧ SrcAt H s n ∧ n ≤ 500000000 ∧ l ≠ s ∧ SqL K H l xs ∧ xs.length ≤ 100 ∧ (∀ v ∈ xs, DatV K H s v) ∧
  ∀ (ys : List V) (p : Addr) (H' : Hp), ys.Perm xs → H p = none → ExB s H H' → SrcAt H' s (n + 100) → H' p = some (.lst ys) → Q (.ref p) H'

theorem ok__law_mixed (T : Txt K mg) : FnOk P w K mg base CX0 2 T.f__law_mixed T.fd__law_mixed ["_law_source", "_law_some"] (sp__law_mixed K) := by
  refine Fun.ok T.F__law_mixed sc__law_mixed (fun vs H Q E h => ?_) (fun cdv A outer s H vs Q E hr h => ?_)
  · obtain ⟨_, _, _, _, rfl, _⟩ := h; rfl
  · refine ⟨_, (pss_cons (ps_set (i := 2) sc__law_mixed.nd rfl (by first | exact Or.inl rfl | exact Or.inr rfl) (pe_callTy (T := "list") (r := rListS K) call_list_of (by rfl) T.n_list (by decide +kernel) (pa_cons (pv 1) pa_nil)))
      (pss_cons (ps_set (i := 3) sc__law_mixed.nd rfl (by first | exact Or.inl rfl | exact Or.inr rfl) (pe_lst pa_nil))
      (pss_cons (ps_while PassesOwn.never (pt_cmpR (r := rNeD K) (op_neD hr.units) (pv 2) (pe_lst pa_nil) (nomark _))
        (pss_one (ps_expr (pe_bm PySem.F.plainAttrs_list PySem.F.slot_list_append PySem.F.type_list_append mt_append (pv 3) (pa_cons (pe_bm PySem.F.plainAttrs_list PySem.F.slot_list_pop PySem.F.type_list_pop mt_popAt (pv 2) (pa_cons (pe_call (ok__law_next T) hr (by rfl) T.g__law_next T.k__law_next T.b__law_next .nil pass0 (pa_cons (pv 0) (pa_cons (pe_callB (id := "len") (r := rLenS K) call_len_seq (by rfl) T.n_len PySem.boot_len (pa_cons (pv 2) pa_nil)) pa_nil))) pa_nil)) pa_nil)))))
      (pss_one (ps_ret (pv 3)))))), ?_⟩
    obtain ⟨s, l, n, xs, rfl, hs, hn, nls, hl, h1, hd, k⟩ := h
    -- left, found
    refine ⟨_, rfl, l, xs, rfl, .inl hl, fun q nq => ?_⟩
    refine ⟨Nat.zero_le _, fun p np => ?_⟩
    have nqs : q ≠ s := hs.ne nq
    have nps : p ≠ s := (hs.ex (Ex.new nq)).ne np
    have npq : p ≠ q := (ne_of_none upd_same np).symm
    have npH : H p = none := fresh_back (Ex.new nq) np
    refine ⟨fun m σ H' => ∃ ls fs : List V, σ = [some (.ref s), some (.ref l), some (.ref q), some (.ref p)] ∧ m = ls.length ∧ (fs ++ ls).Perm xs ∧ H' q = some (.lst ls) ∧ H' p = some (.lst fs) ∧ ExB s H H' ∧ SrcAt H' s (n + fs.length),
      ⟨xs.length, xs, [], rfl, rfl, .refl _, ?_, upd_same, ?_, ?_⟩, ?_⟩
    · rw [upd_ne npq.symm]
      exact upd_same
    · exact ExB.of ((Ex.new nq).trans (Ex.new np))
    · exact (hs.ex ((Ex.new nq).trans (Ex.new np))).le (by simp)
    rintro m σ H1 ⟨ls, fs, rfl, rfl, hp, hq, hpf, e1, s1⟩
    have hlen : fs.length + ls.length = xs.length := by
      rw [← List.length_append]
      exact hp.length_eq
    obtain ⟨ds, d1, d2, d3⟩ := dat_all (K := K) (H := H1) (s := s) (xs := ls) fun v hv => (hd v (hp.mem_iff.mp (List.mem_append_right _ hv))).exB e1
    refine ⟨_, rfl, Nat.zero_le _, fun z nz => ?_⟩
    have x1 : Ex H1 (upd H1 z (.lst [])) := Ex.new nz
    refine ⟨_, _, .lst (SqL.of (x1 _ _ hq)) (dpAll_ex x1 d1), .lst (SqL.of upd_same) .nil, shaped_list d2 (by omega), rfl, _, rfl, ?_⟩
    rw [eqv_nil]
    cases ls with
    | nil =>
      cases d1
      refine iteF ?_
      refine ⟨_, rfl, ?_⟩
      rw [List.append_nil] at hp
      exact k fs p _ hp npH (e1.trans (ExB.of x1)) ((s1.ex x1).le (by have := hp.length_eq; omega)) (x1 _ _ hpf)
    | cons y0 ls0 =>
      cases d1 with
      | cons _ _ =>
        refine iteT ?_
        refine ⟨fun σ' H' => ∃ ls' fs' : List V, σ' = [some (.ref s), some (.ref l), some (.ref q), some (.ref p)] ∧ ls'.length < (y0 :: ls0).length ∧ (fs' ++ ls').Perm xs ∧ H' q = some (.lst ls') ∧ H' p = some (.lst fs') ∧ ExB s H H' ∧ SrcAt H' s (n + fs'.length),
          fun σ' H' ⟨ls', fs', a1, a2, a3, a4, a5, a6, a7⟩ => ⟨ls'.length, a2, ls', fs', a1, rfl, a3, a4, a5, a6, a7⟩, ?_⟩
        refine ⟨_, rfl, .inl ⟨rfl, _, SqL.of (x1 _ _ hpf)⟩, _, rfl, .inl ⟨rfl, _, SqL.of (x1 _ _ hq)⟩, _, rfl, _, rfl, q, _, rfl, .inl (SqL.of (x1 _ _ hq)), s, _, n + fs.length, rfl, s1.ex x1, by omega, (by simp only [List.length_cons]; omega), ?_, fun f H2 f0 f1 e2 s2 => ?_⟩
        · show (((y0 :: ls0).length : Nat) : Int).natAbs < 2 ^ 8000
          rw [Int.natAbs_natCast]
          exact Nat.lt_of_le_of_lt (show (y0 :: ls0).length ≤ 100 by omega) (by decide +kernel)
        · have hk : f.toNat < (y0 :: ls0).length := by omega
          have hy := List.getElem?_eq_getElem hk
          refine ⟨q, _, f, f.toNat, _, rfl, rfl, e2 _ _ nqs (x1 _ _ hq), by omega, by omega, seqIx (n := 0) f0 f1, hy, ?_⟩
          refine ⟨p, fs, _, rfl, rfl, ?_, small1000 (by omega), ?_⟩
          · rw [upd_ne npq]
            exact e2 _ _ nps (x1 _ _ hpf)
          · refine ⟨_, _, rfl, ?_, (perm_pop hy).trans hp, ?_, upd_same, ?_, ?_⟩
            · rw [List.length_eraseIdx_of_lt hk]
              omega
            · rw [upd_ne npq.symm]
              exact upd_same
            · refine fun b o nb h => ?_
              have nbp := ne_of_none h npH
              have nbq := ne_of_none h nq
              rw [upd_ne nbp, upd_ne nbq]
              exact e2 _ _ nb (x1 _ _ (e1 _ _ nb h))
            · have s3 : SrcAt H2 s (n + ((fs ++ [(y0 :: ls0)[f.toNat]]).length : Nat)) := s2.le (by rw [List.length_append]; simp; omega)
              obtain ⟨a1, a2, a3, a4, a5⟩ := s3
              exact ⟨a1, a2, a3, by rw [upd_ne nps.symm, upd_ne nqs.symm]; exact a4, a5⟩
-- DEF _law_ends

def sp__law_ends (K : PySem.W.Frag) : Sp := fun vs H Q _ => ∃ (s : Addr) (n m : Int), vs = [.ref s, .int m] ∧ SrcAt H s n ∧ n ≤ 400000000 ∧ 1 ≤ m ∧ m ≤ 8 ∧
  ∀ (as : List Addr) (es : List (Int × Int)) (p : Addr) (H' : Hp), (es.length : Int) = m → (∀ e ∈ es, 0 ≤ e.1 ∧ e.1 ≤ m ∧ 0 ≤ e.2 ∧ e.2 ≤ m) → Conn es m → EdgesAt H' as es → H' p = some (.lst (as.map V.ref)) → H p = none → ExB s H H' → SrcAt H' s (n + 300) → Q (.ref p) H'

theorem ok__law_ends (T : Txt K mg) : FnOk P w K mg base CX0 3 T.f__law_ends T.fd__law_ends ["_law_source", "_law_many"] (sp__law_ends K) := by
  refine Fun.ok T.F__law_ends sc__law_ends (fun vs H Q E h => ?_) (fun cdv A outer s H vs Q E hr h => ?_)
  · obtain ⟨_, _, _, rfl, _⟩ := h; rfl
  · refine ⟨_, (pss_cons (ps_set (i := 2) sc__law_ends.nd rfl (by first | exact Or.inl rfl | exact Or.inr rfl) (pe_call (ok__law_mixed T) hr (by rfl) T.g__law_mixed T.k__law_mixed T.b__law_mixed .nil pass0 (pa_cons (pv 0) (pa_cons (pe_listRg rfl (by rfl) T.n_list (prg_1 (by rfl) T.n_range (pe_op op_add (pv 1) pe_int))) pa_nil))))
      (pss_cons (ps_set (i := 3) sc__law_ends.nd rfl (by first | exact Or.inl rfl | exact Or.inr rfl) (pe_lst pa_nil))
      (pss_cons (ps_for PassesOwn.never rfl (pi_range1 (by rfl) T.n_range (pa_cons (pv 1) pa_nil)) (pg_name (i := 4) sc__law_ends.nd rfl (by first | exact Or.inl rfl | exact Or.inr rfl))
        (pss_cut (ps_set (i := 5) sc__law_ends.nd rfl (by first | exact Or.inl rfl | exact Or.inr rfl) (pe_tup (pa_cons (pe_ix (r := rIxL K) ix_list (pv 2) (pe_call (ok__law_next T) (hr.mono (by decide)) (by rfl) T.g__law_next T.k__law_next T.b__law_next .nil pass0 (pa_cons (pv 0) (pa_cons (pe_op op_add (pv 4) pe_int) pa_nil))) (fun _ _ => rfl)) (pa_cons (pe_ix (r := rIxL K) ix_list (pv 2) (pe_op op_add (pv 4) pe_int) (fun _ _ => rfl)) pa_nil))))
          (pss_one (ps_expr (pe_bm PySem.F.plainAttrs_list PySem.F.slot_list_append PySem.F.type_list_append mt_append (pv 3) (pa_cons (pe_ix (r := rIxL K) ix_list (pe_lst (pa_cons (pv 5) (pa_cons (pe_revT (pv 5)) pa_nil))) (pe_call (ok__law_next T) (hr.mono (by decide)) (by rfl) T.g__law_next T.k__law_next T.b__law_next .nil pass0 (pa_cons (pv 0) (pa_cons pe_int pa_nil))) (fun _ _ => rfl)) pa_nil))))))
      (pss_one (ps_ret (pe_call (ok__law_mixed T) hr (by rfl) T.g__law_mixed T.k__law_mixed T.b__law_mixed .nil pass0 (pa_cons (pv 0) (pa_cons (pv 3) pa_nil)))))))), ?_⟩
    obtain ⟨s, n, m, rfl, hs, hn, hm1, hm8, k⟩ := h
    refine ⟨_, rfl, _, rfl, _, _, rfl, rfl, _, rfl, RgOk.of_le (by omega) (by omega) (by omega) (by omega), fun q nq => ?_⟩
    have x1 := Ex.new (o := .lst (rgV 0 (m + 1))) nq
    refine ⟨s, q, n, _, rfl, hs.ex x1, by omega, hs.ne nq, SqL.of upd_same, ?_, ?_, fun ys p1 H1 hp np1 e1 s1 h1 => ?_⟩
    · rw [rgV_length]
      omega
    · intro v hv
      rw [rgV_nums] at hv
      obtain ⟨i, _, rfl⟩ := List.mem_map.mp hv
      exact datv_int i
    rw [rgV_nums] at hp
    obtain ⟨pl, rfl, hpl⟩ := perm_ints hp
    have np1H : H p1 = none := fresh_back x1 np1
    have e01 : ExB s H H1 := (ExB.of x1).trans e1
    have hpll : pl.length = m.toNat + 1 := by
      rw [hpl.length_eq, numsTo_length]
      omega
    have hplm : ∀ a, a ∈ pl ↔ 0 ≤ a ∧ a ≤ m := fun a => by
      rw [hpl.mem_iff, mem_numsTo]
      omega
    have np1s : p1 ≠ s := (hs.ex x1).ne np1
    clear hp x1 e1 np1 nq
    -- found
    refine ⟨Nat.zero_le _, fun p2 np2 => ?_⟩
    have x2 : Ex H1 (upd H1 p2 (.lst [])) := Ex.new np2
    have np2s : p2 ≠ s := s1.ne np2
    have np12 : p1 ≠ p2 := ne_of_none h1 np2
    have np2H : H p2 = none := fresh_B e01 np2 s1.obj
    refine ⟨_, rfl, _, rfl, by omega, by omega, for_range (lo := 0) (n := m.toNat) (fun i σ H' => ∃ (y4 y5 : Option V) (as : List Addr) (es : List (Int × Int)), σ = [some (.ref s), some (.int m), some (.ref p1), some (.ref p2), y4, y5] ∧ es.length = i ∧ EdgesAt H' as es ∧ H' p2 = some (.lst (as.map V.ref)) ∧
      ExB s H H' ∧ SrcAt H' s (n + 100 + 2 * i) ∧ H' p1 = some (.lst (pl.map V.int)) ∧ EdgeTree pl es ∧ (∀ e ∈ es, 0 ≤ e.1 ∧ e.1 ≤ m ∧ 0 ≤ e.2 ∧ e.2 ≤ m)) ?_ ?_ ?_⟩
    · exact ⟨_, _, [], [], rfl, rfl, .nil, upd_same, e01.trans (ExB.of x2), (s1.ex x2).le (by omega), x2 _ _ h1, fun j hj => absurd hj (Nat.not_lt_zero _), fun e he => by simp at he⟩
    · rintro i σ H2 hi ⟨y4, y5, as, es, rfl, hes, hE, h2, e2, s2, g1, hT, hb⟩
      have hsz := hes
      have sat : ∀ {j : Nat}, j < pl.length → ∃ z, (pl.map V.int)[j]? = some (.int z) ∧ pl[j]? = some z := fun {j} hj => ⟨pl[j], by rw [List.getElem?_map, List.getElem?_eq_getElem hj]; rfl, List.getElem?_eq_getElem hj⟩
      -- two
      refine ⟨fun σ' H' => ∃ (t : Addr) (f : Nat) (a b : Int), σ' = [some (.ref s), some (.int m), some (.ref p1), some (.ref p2), some (.int (0 + (i : Int))), some (.ref t)] ∧ H' t = some (.tup [.int a, .int b]) ∧ f ≤ i ∧ pl[f]? = some a ∧ pl[i + 1]? = some b ∧ ExB s H2 H' ∧ SrcAt H' s (n + 100 + 2 * i + 1), ?_, ?_⟩
      · refine ⟨_, rfl, _, rfl, _, rfl, _, _, rfl, rfl, s, _, _, rfl, s2, by omega, by omega, ?_, fun f H3 f0 f1 e3 s3 => ?_⟩
        · unfold Bd
          exact Nat.lt_of_lt_of_le (show (0 + (i : Int) + 1).natAbs < 1024 by omega) (by decide +kernel)
        · obtain ⟨a, ha, ha'⟩ := sat (j := f.toNat) (by omega)
          obtain ⟨b, hb, hb'⟩ := sat (j := i + 1) (by omega)
          refine ⟨p1, _, _, _, rfl, rfl, SqL.of (e3 _ _ np1s g1), at_of (j := f.toNat) (by omega) ha, ?_⟩
          refine ⟨_, rfl, _, rfl, _, _, rfl, rfl, p1, _, _, _, rfl, rfl, SqL.of (e3 _ _ np1s g1), at_of (j := i + 1) (by omega) hb, (by show 2 ≤ sizeLine; decide), fun t nt => ?_⟩
          exact ⟨t, f.toNat, a, b, rfl, upd_same, by omega, ha', hb', e3.trans (ExB.of (Ex.new nt)), s3.ex (Ex.new nt)⟩
      · rintro σ' H3 ⟨t, f, a, b, rfl, ht, hf, ha, hb', e3, s3⟩
        have h2' := e3 _ _ np2s h2
        refine ⟨_, rfl, .inl ⟨rfl, _, SqL.of h2'⟩, _, rfl, _, rfl, t, _, _, rfl, SqT.of ht, fun u nu => ?_⟩
        have xu : Ex H3 (upd H3 u (.tup [.int b, .int a])) := Ex.new nu
        refine ⟨(by show 2 ≤ sizeLine; decide), fun l nl => ?_⟩
        have xl : Ex (upd H3 u (.tup [.int b, .int a])) (upd (upd H3 u (.tup [.int b, .int a])) l (.lst [.ref t, .ref u])) := Ex.new nl
        have xx := xu.trans xl
        refine ⟨_, rfl, s, 2, _, rfl, s3.ex xx, by omega, by decide, (by unfold Bd; decide +kernel), fun g H4 g0 gl e4 s4 => ?_⟩
        have nls : l ≠ s := (s3.ex xu).ne nl
        have hl4 := e4 _ _ nls (upd_same (H := upd H3 u (.tup [.int b, .int a])) (a := l) (o := .lst [.ref t, .ref u]))
        have st : ∀ c xs, H2 c = some (.tup xs) → H4 c = some (.tup xs) := fun c xs h => tups_B (s3.ex xx) e4 _ _ (tups_E xx _ _ (tups_B s2 e3 _ _ h))
        have st3 : ∀ c xs, H3 c = some (.tup xs) → H4 c = some (.tup xs) := fun c xs h => tups_B (s3.ex xx) e4 _ _ (tups_E xx _ _ h)
        have stu : H4 u = some (.tup [.int b, .int a]) := tups_B (s3.ex xx) e4 _ _ (xl _ _ upd_same)
        have p2' := e4 _ _ np2s (xx _ _ h2')
        have al : as.length = i := by rw [Paired.length hE, hes]
        have fin : ∀ (v : Addr) (e : Int × Int), H4 v = some (.tup [.int e.1, .int e.2]) → (e = (a, b) ∨ e = (b, a)) → rAppend (.ref p2) [.ref v] H4 fun _ H' => ∃ (y4 y5 : Option V) (as : List Addr) (es : List (Int × Int)), [some (V.ref s), some (.int m), some (.ref p1), some (.ref p2), some (.int (0 + (i : Int))), some (.ref t)] = [some (.ref s), some (.int m), some (.ref p1), some (.ref p2), y4, y5] ∧ es.length = i + 1 ∧ EdgesAt H' as es ∧ H' p2 = some (.lst (as.map V.ref)) ∧
            ExB s H H' ∧ SrcAt H' s (n + 100 + 2 * ((i + 1 : Nat) : Int)) ∧ H' p1 = some (.lst (pl.map V.int)) ∧ EdgeTree pl es ∧ (∀ e ∈ es, 0 ≤ e.1 ∧ e.1 ≤ m ∧ 0 ≤ e.2 ∧ e.2 ≤ m) := by
          intro v e hv he
          refine ⟨p2, _, _, rfl, rfl, p2', small1000 (by rw [List.length_map]; omega), _, _, as ++ [v], es ++ [e], rfl, ?_, ?_, ?_, ?_, ?_, ?_, ?_, ?_⟩
          · rw [List.length_append, hes]
            rfl
          · exact paired_imp (fun c d h => tups_U p2' _ _ h) (paired_snoc (EdgesAt.mono st hE) hv)
          · rw [upd_same, List.map_append]
            rfl
          · refine fun c o nc h => ?_
            rw [upd_ne (ne_of_none h np2H)]
            exact e4 _ _ nc (xx _ _ (e3 _ _ nc (e2 _ _ nc h)))
          · obtain ⟨a1, a2, a3, a4, a5, a6, a7, a8⟩ := s4
            exact ⟨a1, a2, a3, by rw [upd_ne np2s.symm]; exact a4, a5, a6, a7, by omega⟩
          · rw [upd_ne np12]
            exact e4 _ _ np1s (xx _ _ (e3 _ _ np1s g1))
          · exact hT.more (by omega) ha (by rw [hes]; exact hb') he
          · intro e' he'
            rcases List.mem_append.mp he' with h | h
            · exact hb e' h
            · have e1 : e' = e := by simpa using h
              subst e1
              have ma := (hplm a).mp (List.mem_of_getElem? ha)
              have mb := (hplm b).mp (List.mem_of_getElem? hb')
              rcases he with rfl | rfl
              · exact ⟨ma.1, ma.2, mb.1, mb.2⟩
              · exact ⟨mb.1, mb.2, ma.1, ma.2⟩
        have hg : g = 0 ∨ g = 1 := by omega
        rcases hg with rfl | rfl
        · exact ⟨l, _, _, .ref t, rfl, rfl, SqL.of hl4, rfl, fin t (a, b) (st3 _ _ ht) (.inl rfl)⟩
        · exact ⟨l, _, _, .ref u, rfl, rfl, SqL.of hl4, rfl, fin u (b, a) stu (.inr rfl)⟩
    · rintro σ H2 ⟨y4, y5, as, es, rfl, hes, hE, h2, e2, s2, g1, hT, hb⟩
      have al : as.length = m.toNat := by rw [Paired.length hE, hes]
      refine ⟨_, rfl, _, rfl, s, p2, _, _, rfl, s2, by omega, np2s, SqL.of h2, (by rw [List.length_map]; omega), fun v hv => ?_, fun ys p H3 hp np e3 s3 h3 => ?_⟩
      · obtain ⟨c, hc, rfl⟩ := List.mem_map.mp hv
        obtain ⟨d, _, hd⟩ := paired_mem hE hc
        exact datv_pair hd (s2.neT hd)
      · obtain ⟨as', es', rfl, pe, hE', _⟩ := perm_refs hp hE
        refine k as' es' p H3 ?_ (fun e he => hb e (pe.mem_iff.mp he)) ?_ (EdgesAt.mono (tups_B s2 e3) hE') h3 (fresh_B e2 np s2.obj) (e2.trans e3) (s3.le (by omega))
        · rw [pe.length_eq, hes]
          omega
        · have c := EdgeTree.conn (m := m.toNat) hT hes hpll fun a h0 h1 => (hplm a).mpr ⟨h0, by omega⟩
          have c2 := c.perm pe
          have em : ((m.toNat : Nat) : Int) = m := by omega
          rw [em] at c2
          exact c2
-- DEF joined
theorem paired_app {α β : Type} {R : α → β → Prop} : ∀ {xs : List α} {ys : List β} {xs2 : List α} {ys2 : List β}, Paired R xs ys → Paired R xs2 ys2 → Paired R (xs ++ xs2) (ys ++ ys2)
  | _, _, _, _, .nil, h => h
  | _, _, _, _, .cons a t, h => .cons a (paired_app t h)
theorem paired_take {α β : Type} {R : α → β → Prop} : ∀ {xs : List α} {ys : List β} (n : Nat), Paired R xs ys → Paired R (xs.take n) (ys.take n)
  | _, _, 0, _ => by rw [List.take_zero, List.take_zero]; exact .nil
  | _, _, n + 1, .nil => by rw [List.take_nil, List.take_nil]; exact .nil
  | _, _, n + 1, .cons a t => .cons a (paired_take n t)
theorem el_cat {ta tb : TE} {σ : L2.St} {H : Hp} {xs ys : List V} (ha : EvL ta σ H xs) (hb : EvL tb σ H ys) (hz : xs.length + ys.length ≤ 100000) : EvL (tOp rCat ta tb) σ H (xs ++ ys) := fun H1 e Q q =>
  ha H1 e _ fun p H2 np e2 hp => hb H2 (e.trans e2) _ fun r H3 nr e3 hr => ⟨p, r, xs, ys, rfl, rfl, e3 _ _ hp, hr, sz_of hz, fun l nl => q l _ (fresh_back (e2.trans e3) nl) ((e2.trans e3).trans (Ex.new nl)) upd_same⟩
theorem paired_drop {α β : Type} {R : α → β → Prop} : ∀ {xs : List α} {ys : List β} (n : Nat), Paired R xs ys → Paired R (xs.drop n) (ys.drop n)
  | _, _, 0, h => h
  | _, _, n + 1, .nil => by rw [List.drop_nil, List.drop_nil]; exact .nil
  | _, _, n + 1, .cons a t => paired_drop n t

theorem six_at {n j : Nat} (hj : j < n) (h8 : n ≤ 8) : HT.sIx n n (some (j : Int)) = j := by
  have hn : n = 1 ∨ n = 2 ∨ n = 3 ∨ n = 4 ∨ n = 5 ∨ n = 6 ∨ n = 7 ∨ n = 8 := by omega
  have hm : j = 0 ∨ j = 1 ∨ j = 2 ∨ j = 3 ∨ j = 4 ∨ j = 5 ∨ j = 6 ∨ j = 7 := by omega
  rcases hn with rfl | rfl | rfl | rfl | rfl | rfl | rfl | rfl <;> rcases hm with rfl | rfl | rfl | rfl | rfl | rfl | rfl | rfl <;> first | rfl | omega
theorem six_at1 {n j : Nat} (hj : j < n) (h8 : n ≤ 8) : HT.sIx n 0 (some ((j : Int) + 1)) = j + 1 := by
  have hn : n = 1 ∨ n = 2 ∨ n = 3 ∨ n = 4 ∨ n = 5 ∨ n = 6 ∨ n = 7 ∨ n = 8 := by omega
  have hm : j = 0 ∨ j = 1 ∨ j = 2 ∨ j = 3 ∨ j = 4 ∨ j = 5 ∨ j = 6 ∨ j = 7 := by omega
  rcases hn with rfl | rfl | rfl | rfl | rfl | rfl | rfl | rfl <;> rcases hm with rfl | rfl | rfl | rfl | rfl | rfl | rfl | rfl <;> first | rfl | omega
theorem cut_outR (l : List Addr) {j : Nat} (hj : j < l.length) (h8 : l.length ≤ 8) : cutV (l.map V.ref) none (some (j : Int)) ++ cutV (l.map V.ref) (some ((j : Int) + 1)) none = (l.take j ++ l.drop (j + 1)).map V.ref := by
  have e0 : HT.sIx (l.map V.ref).length 0 none = 0 := rfl
  have e1 : HT.sIx (l.map V.ref).length (l.map V.ref).length none = (l.map V.ref).length := rfl
  have e2 : HT.sIx (l.map V.ref).length (l.map V.ref).length (some (j : Int)) = j := by
    rw [List.length_map]
    exact six_at hj h8
  have e3 : HT.sIx (l.map V.ref).length 0 (some ((j : Int) + 1)) = j + 1 := by
    rw [List.length_map]
    exact six_at1 hj h8
  unfold cutV
  rw [e0, e1, e2, e3, List.drop_zero, Nat.sub_zero, List.map_append, List.map_take, List.map_drop]
  congr 1
  exact List.take_of_length_le (by rw [List.length_drop, List.length_map]; exact Nat.le_refl _)

/-- all ends but one -/
def but {α : Type} (es : List α) (i : Nat) : List α := es.take i ++ es.drop (i + 1)
theorem el_rgL {te : TE} {σ : L2.St} {H : Hp} {k : Nat} (h : Ev te σ H (.int (k : Int))) (hk : k ≤ 1000) : EvL (tLstRg (tRg1 te)) σ H ((numsTo k).map V.int) := fun H1 e Q q => h H1 e _ fun H2 e2 => ⟨_, rfl, by unfold RgOk; omega, fun p np => by
  rw [rgV_nums, Int.toNat_natCast]
  exact q p _ (fresh_back e2 np) (e2.trans (Ex.new np)) upd_same⟩
def sd (es : Gr.Edges) (i : Nat) (x : Int) : Int := if Gr.joins (but es i) id x = Gr.joins (but es i) id (es[i]?.getD (0, 0)).1 then 1 else 0
def netT (es qs : Gr.Edges) : List (List Int) := (List.range es.length).map fun i => qs.map fun f => sd es i f.1 - sd es i f.2
def Tree (es : Gr.Edges) : Prop := 1 ≤ es.length ∧ es.length ≤ 8 ∧ (∀ e ∈ es, 0 ≤ e.1 ∧ e.1 ≤ es.length ∧ 0 ≤ e.2 ∧ e.2 ≤ es.length) ∧ (∀ a ∈ numsTo (es.length + 1), ∀ b ∈ numsTo (es.length + 1), Gr.Same es a b)
/-- the list of the groups of so many places -/
def grpL (k : Nat) (g : Int → Int) : List Int := (numsTo k).map g
theorem grp_len {k : Nat} {g : Int → Int} : (grpL k g).length = k := by
  unfold grpL
  rw [List.length_map, numsTo_length]
theorem grp_at {k : Nat} {g : Int → Int} {a : Int} (h0 : 0 ≤ a) (h1 : a < k) : atI ((grpL k g).map V.int) a = some (.int (g a)) := by
  refine at_of (j := a.toNat) (by omega) ?_
  unfold grpL numsTo
  rw [List.getElem?_map, List.getElem?_map, List.getElem?_map, List.getElem?_range (by omega)]
  show some (V.int (g ((a.toNat : Nat) : Int))) = _
  rw [Int.toNat_of_nonneg h0]
def sp_joined (K : PySem.W.Frag) : Sp := fun vs H Q _ => ∃ (p : Addr) (k : Nat) (g : Int → Int) (a b : Int), vs = [.ref p, .int a, .int b] ∧ H p = some (.lst ((grpL k g).map V.int)) ∧ k ≤ 1000 ∧ 0 ≤ a ∧ a < k ∧ 0 ≤ b ∧ b < k ∧
  ∀ q H', H q = none → Ex H H' → H' q = some (.lst ((grpL k (Gr.join g a b)).map V.int)) → Q (.ref q) H'

theorem ok_joined (T : Txt K mg) : FnOk P w K mg base CX0 1 T.f_joined T.fd_joined ["groups", "one", "other"] (sp_joined K) := by
  refine Fun.ok T.F_joined sc_joined (fun vs H Q E h => ?_) (fun cdv A outer s H vs Q E hr h => ?_)
  · obtain ⟨_, _, _, _, _, rfl, _⟩ := h; rfl
  · refine ⟨_, (pss_one (ps_ret (pe_lc (own := [("group", 3)]) (wi := iList K _) (g := gName 3) (tt := tYes) rfl sc_joined.nd (pi_list (pv 0)) (blkOk_by (N := ["groups", "one", "other", "group"]) (sc := (defScope s_joined)) (by decide +kernel)) (fun _ _ _ _ _ => pg_name (i := 3) sc_joined.nd rfl (Or.inl rfl)) (fun _ _ _ _ _ => pts_nil) (fun _ _ _ _ _ => (pe_ifExp (pt_cmpR op_eq (pv 3) (pe_ix (r := rIxL K) ix_list (pv 0) (pv 2) (fun _ _ => rfl)) (nomark _)) (pe_ix (r := rIxL K) ix_list (pv 0) (pv 1) (fun _ _ => rfl)) (pv 3)))))), ?_⟩
    obtain ⟨p, k, g, a, b, rfl, hp, hk, a0, a1, b0, b1, kk⟩ := h
    refine s_retL (el_mapI (K := K) (n := 0) (fun x => if x = g b then g a else x) rfl hp (by rw [grp_len]; exact hk) (fun u => rfl) fun y H1 hy e1 => ?_) fun q H1 nq e1 hq => kk q H1 nq e1 ?_
    · refine ev_if (b := decide (y = g b)) (et_is (et_test (ev_op (ev_var rfl) (ev_op (ev_var rfl) (ev_var rfl) (rv_ixL (SqL.of (e1 _ _ hp)) (grp_at b0 b1))) (rv_eq rfl))) ?_) (fun z => ?_) (fun z => ?_)
      · by_cases c : y = g b
        · rw [c, decide_eq_true rfl, decide_eq_true rfl]
        · rw [decide_eq_false c, decide_eq_false (fun z => c (V.int.inj z))]
      · rw [if_pos (of_decide_eq_true z)]
        exact ev_op (ev_var rfl) (ev_var rfl) (rv_ixL (SqL.of (e1 _ _ hp)) (grp_at a0 a1))
      · rw [if_neg (of_decide_eq_false z)]
        exact ev_var rfl
    · have e : (grpL k g).map (fun x => if x = g b then g a else x) = grpL k (Gr.join g a b) := by
        unfold grpL
        rw [List.map_map]
        rfl
      rw [hq, e]
-- DEF _law_side

theorem inV_has {x : Int} : ∀ {F : List Int}, inV (.int x) (F.map V.int) = F.contains x
  | [] => rfl
  | y :: F => by
    have ih := inV_has (x := x) (F := F)
    unfold inV at ih ⊢
    rw [List.map_cons, List.any_cons, ih, List.contains_cons]
    congr 1
    show (y == x) = (x == y)
    exact Bool.beq_comm ..
def sp__law_side (K : PySem.W.Frag) : Sp := fun vs H Q _ => ∃ (p : Addr) (as : List Addr) (es : Gr.Edges) (x : Int), vs = [.ref p, .int x] ∧ H p = some (.lst (as.map V.ref)) ∧ EdgesAt H as es ∧ es.length ≤ 8 ∧
  ∀ q H', H q = none → Ex H H' → H' q = some (.lst ((Gr.turns es [x] es.length).map V.int)) → Q (.ref q) H'

theorem ok__law_side (T : Txt K mg) : FnOk P w K mg base CX0 1 T.f__law_side T.fd__law_side ["_law_ends_here", "_law_place"] (sp__law_side K) := by
  refine Fun.ok T.F__law_side sc__law_side (fun vs H Q E h => ?_) (fun cdv A outer s H vs Q E hr h => ?_)
  · obtain ⟨_, _, _, _, rfl, _⟩ := h; rfl
  · refine ⟨_, (pss_cut (ps_set (i := 2) sc__law_side.nd rfl (by first | exact Or.inl rfl | exact Or.inr rfl) (pe_lst (pa_cons (pv 1) pa_nil)))
      (pss_cons (ps_for PassesOwn.never rfl (pi_list (pv 0)) (pg_name (i := 3) sc__law_side.nd rfl (by first | exact Or.inl rfl | exact Or.inr rfl))
        (pss_one (ps_for PassesOwn.never rfl (pi_list (pv 0)) (pg_tup rfl (pgs_cons (pg_name (i := 4) sc__law_side.nd rfl (by first | exact Or.inl rfl | exact Or.inr rfl)) (pgs_cons (pg_name (i := 5) sc__law_side.nd rfl (by first | exact Or.inl rfl | exact Or.inr rfl)) pgs_nil)))
            (pss_one (ps_for PassesOwn.never rfl (pi_tup (pe_tup (pa_cons (pe_tup (pa_cons (pv 4) (pa_cons (pv 5) pa_nil))) (pa_cons (pe_tup (pa_cons (pv 5) (pa_cons (pv 4) pa_nil))) pa_nil)))) (pg_tup rfl (pgs_cons (pg_name (i := 6) sc__law_side.nd rfl (by first | exact Or.inl rfl | exact Or.inr rfl)) (pgs_cons (pg_name (i := 7) sc__law_side.nd rfl (by first | exact Or.inl rfl | exact Or.inr rfl)) pgs_nil)))
                (pss_one (ps_if (PW.pt (pw_and (pt_cmpR (r := rIn K false) op_in_seq (pv 6) (pv 2) (by rfl)) (pw_and1 (pt_cmpR (r := rIn K true) op_notIn_seq (pv 7) (pv 2) (by rfl)))))
                    (pss_one (ps_expr (pe_bm PySem.F.plainAttrs_list PySem.F.slot_list_append PySem.F.type_list_append mt_append (pv 2) (pa_cons (pv 7) pa_nil))))
                    pss_nil)))))))
      (pss_one (ps_ret (pv 2))))), ?_⟩
    obtain ⟨p, as, es, x, rfl, hp, hE, h8, k⟩ := h
    have al : as.length = es.length := Paired.length hE
    refine ⟨fun σ' H1 => ∃ pf, σ' = [some (.ref p), some (.int x), some (.ref pf), none, none, none, none, none] ∧ Ex H H1 ∧ H pf = none ∧ H1 pf = some (.lst ([x].map V.int)), ?_, ?_⟩
    · exact s_asgL (el_lst (vs := [.int x]) (ea_cons (ev_var rfl) ea_nil) (Nat.le_of_ble_eq_true rfl)) fun pf H1 nf e1 h1 => ⟨pf, rfl, e1, nf, h1⟩
    rintro σ' H1 ⟨pf, rfl, e1, nf, hf⟩
    refine q_forL (xs := as.map V.ref) (ev_var rfl) (SqL.of (e1 _ _ hp)) (fun n σ' H' => ∃ y3 y4 y5 y6 y7 : Option V, σ' = [some (.ref p), some (.int x), some (.ref pf), y3, y4, y5, y6, y7] ∧ Ex H H' ∧ H' pf = some (.lst ((Gr.turns es [x] n).map V.int))) (fun H2 e2 => ⟨_, _, _, _, _, rfl, e1.trans e2, e2 _ _ hf⟩) (fun n σ' H' _ ⟨_, _, _, _, _, _, h, _⟩ => SqL.of (h _ _ hp)) (fun n v σ' H2 hv hP => ?_) (fun σ' H2 hP => ?_)
    rotate_left
    · obtain ⟨y3, y4, y5, y6, y7, rfl, e2, h2⟩ := hP
      rw [List.length_map, al] at h2
      exact ⟨_, rfl, k pf H2 nf e2 h2⟩
    obtain ⟨y3, y4, y5, y6, y7, rfl, e2, h2⟩ := hP
    have hn : n < es.length := by
      have := (List.getElem?_eq_some_iff.mp hv).1
      rw [List.length_map] at this
      omega
    have sz : (Gr.turns es [x] n).length ≤ 129 := by
      have h1 := Gr.turns_len (es := es) (F := [x]) n
      have h2 : n * (2 * es.length) ≤ 8 * 16 := Nat.mul_le_mul (by omega) (by omega)
      have h3 : [x].length = 1 := rfl
      omega
    refine s_forL (σ := [some (.ref p), some (.int x), some (.ref pf), some v, y4, y5, y6, y7]) (H := H2) (xs := as.map V.ref) (ev_var rfl) (SqL.of (e2 _ _ hp)) (fun i σ' H' => ∃ y4 y5 y6 y7 : Option V, σ' = [some (.ref p), some (.int x), some (.ref pf), some v, y4, y5, y6, y7] ∧ Ex H H' ∧ H' pf = some (.lst ((Gr.turn (es.take i) (Gr.turns es [x] n)).map V.int))) (fun H3 e3 => ⟨_, _, _, _, rfl, e2.trans e3, e3 _ _ h2⟩) (fun n σ' H' _ ⟨_, _, _, _, _, h, _⟩ => SqL.of (h _ _ hp)) (fun i u σ' H3 hu hP => ?_) (fun σ' H3 hP => ?_)
    rotate_left
    · obtain ⟨y4, y5, y6, y7, rfl, e3, h3⟩ := hP
      rw [List.length_map, al, List.take_length] at h3
      exact ⟨_, _, _, _, _, rfl, e3, h3⟩
    obtain ⟨y4, y5, y6, y7, rfl, e3, h3⟩ := hP
    rw [List.getElem?_map] at hu
    obtain ⟨a, ha, rfl⟩ := Option.map_eq_some_iff.mp hu
    obtain ⟨e, he, ht⟩ := paired_get hE ha
    have nx : Gr.turn (es.take (i + 1)) (Gr.turns es [x] n) = Gr.look e (Gr.turn (es.take i) (Gr.turns es [x] n)) := by
      rw [take_snoc he]
      unfold Gr.turn
      rw [List.foldl_append]
      rfl
    rw [nx]
    have szF : (Gr.turn (es.take i) (Gr.turns es [x] n)).length ≤ 1000 := by
      have h1 := Gr.turn_len (es := es.take i) (F := Gr.turns es [x] n)
      have h2 := List.length_take_le i es
      have h4 : (es.take i).length ≤ es.length := by rw [List.length_take]; omega
      omega
    generalize Gr.turn (es.take i) (Gr.turns es [x] n) = F at h3 szF ⊢
    refine ⟨a, _, rfl, SqT.of (tups_E e3 _ _ ht), rfl, _, _, rfl, _, _, rfl, rfl, ?_⟩
    refine ⟨_, rfl, _, rfl, (by show 2 ≤ sizeLine; decide), fun t1 n1 => ⟨_, rfl, _, rfl, (by show 2 ≤ sizeLine; decide), fun t2 n2 => ⟨(by show 2 ≤ sizeLine; decide), fun t n3 => ⟨t, rfl, ⟨_, SqT.of upd_same⟩, ?_⟩⟩⟩⟩
    have x1 := Ex.new (o := .tup [V.int e.1, .int e.2]) n1
    have x2 := Ex.new (o := .tup [V.int e.2, .int e.1]) n2
    have x3 := Ex.new (o := .tup [V.ref t1, .ref t2]) n3
    have body : ∀ (tt : Addr) (c d : Int) (F : List Int) (G : Hp) (y6 y7 : Option V) (Nx : L2.St → Hp → Prop), F.length ≤ 1100 → Ex H G → G tt = some (.tup [.int c, .int d]) → G pf = some (.lst (F.map V.int)) → (∀ G', Ex H G' → (∀ a ys, G a = some (.tup ys) → G' a = some (.tup ys)) → G' pf = some (.lst ((Gr.add F c d).map V.int)) → Nx [some (.ref p), some (.int x), some (.ref pf), some v, some (.int e.1), some (.int e.2), some (.int c), some (.int d)] G') → (gTup K 2 (gCons (gName 6) (gCons (gName 7) gNil)) : TG) (.ref tt) [some (.ref p), some (.int x), some (.ref pf), some v, some (.int e.1), some (.int e.2), y6, y7] G fun σ2 H2 => (tIfS (tAnd (tTest (tOp (rIn K false) (tVar 6) (tVar 2))) (tTest (tOp (rIn K true) (tVar 7) (tVar 2)))) (tDrop (tBM K "list" rAppend (tVar 2) (tCons (tVar 7) tNil))) tNext) { nx := Nx, ct := Nx, bk := fun _ _ => True, rt := Q } σ2 H2 := fun tt c d F G y6 y7 Nx sF eG htt hpf kk => by
      refine ⟨tt, _, rfl, SqT.of htt, rfl, _, _, rfl, _, _, rfl, rfl, ?_⟩
      have fl : (F.map V.int).all flatV = true := by
        rw [List.all_eq_true]
        intro y hy
        obtain ⟨z, _, rfl⟩ := List.mem_map.mp hy
        rfl
      refine s_when (σ := [some (.ref p), some (.int x), some (.ref pf), some v, some (.int e.1), some (.int e.2), some (.int c), some (.int d)]) (H := G) (b := F.contains c && !F.contains d) (et_and (et_is (et_test (ev_op (ev_var rfl) (ev_var rfl) (rv_inL (neg := false) (SqL.of hpf) rfl fl))) (by show inV _ _ = _; rw [inV_has])) (fun _ => et_is (et_test (ev_op (ev_var rfl) (ev_var rfl) (rv_inL (neg := true) (SqL.of hpf) rfl fl))) (by show (!inV _ _) = _; rw [inV_has]))) (fun z G1 g1 => ?_) (fun z G1 g1 => ?_)
      · refine s_app (l := pf) (g1 _ _ hpf) (ev_var rfl) (ev_var rfl) (by rw [List.length_map]; omega) fun G2 g2 => ?_
        have eG := eG.trans (g1.trans g2)
        refine kk _ (Ex.mut eG nf) (fun a ys h => tups_U ((g1.trans g2) _ _ hpf) _ _ ((g1.trans g2) _ _ h)) ?_
        rw [upd_same]
        unfold Gr.add
        rw [if_pos z, List.map_append]
        rfl
      · refine kk _ (eG.trans g1) (fun a ys h => g1 _ _ h) ?_
        unfold Gr.add
        rw [if_neg (by rw [z]; exact Bool.false_ne_true)]
        exact g1 _ _ hpf
    have e4 := ((e3.trans x1).trans x2).trans x3
    refine for_tup (K := K) (a := t) (xs := [V.ref t1, .ref t2]) (fun j σ' H' => ∃ (y6 y7 : Option V) (F' : List Int), σ' = [some (.ref p), some (.int x), some (.ref pf), some v, some (.int e.1), some (.int e.2), y6, y7] ∧ Ex H H' ∧ H' t = some (.tup [.ref t1, .ref t2]) ∧ H' t1 = some (.tup [.int e.1, .int e.2]) ∧ H' t2 = some (.tup [.int e.2, .int e.1]) ∧ H' pf = some (.lst (F'.map V.int)) ∧ F' = (if j = 0 then F else if j = 1 then Gr.add F e.1 e.2 else Gr.look e F)) ⟨_, _, F, rfl, e4, upd_same, x3 _ _ (x2 _ _ upd_same), x3 _ _ upd_same, x3 _ _ (x2 _ _ (x1 _ _ h3)), rfl⟩ (fun j σ' H' _ ⟨_, _, _, _, _, h, _⟩ => SqT.of h) (fun j u σ' H4 hu hP => ?_) (fun σ' H4 hP => ?_)
    rotate_left
    · obtain ⟨y6, y7, F', rfl, e5, _, _, _, h5, rfl⟩ := hP
      exact ⟨_, _, _, _, rfl, e5, h5⟩
    obtain ⟨y6, y7, F', rfl, e5, ht5, ht1, ht2, h5, eF⟩ := hP
    match j, hu, eF with
    | 0, hu, eF =>
      cases hu
      have eF : F' = F := eF
      rw [eF] at h5
      exact body t1 e.1 e.2 F H4 y6 y7 _ (by omega) e5 ht1 h5 fun G' g1 g2 g3 => ⟨_, _, _, rfl, g1, g2 _ _ ht5, g2 _ _ ht1, g2 _ _ ht2, g3, rfl⟩
    | 1, hu, eF =>
      cases hu
      have eF : F' = Gr.add F e.1 e.2 := eF
      rw [eF] at h5
      exact body t2 e.2 e.1 (Gr.add F e.1 e.2) H4 y6 y7 _ (by have := Gr.add_len (F := F) (a := e.1) (b := e.2); omega) e5 ht2 h5 fun G' g1 g2 g3 => ⟨_, _, _, rfl, g1, g2 _ _ ht5, g2 _ _ ht1, g2 _ _ ht2, g3, rfl⟩
    | j + 2, hu, _ => simp at hu
-- DEF _law_plain

def sp__law_plain (K : PySem.W.Frag) : Sp := fun vs H Q _ => ∃ (a : Addr) (ns : List Int), vs = [.ref a] ∧ H a = some (.lst (ns.map V.int)) ∧ ns.length ≤ 100 ∧ ∀ H', Ex H H' → Q (.bl true) H'

theorem ok__law_plain (T : Txt K mg) : FnOk P w K mg base CX0 1 T.f__law_plain T.fd__law_plain ["_law_row"] (sp__law_plain K) := by
  refine Fun.ok T.F__law_plain sc__law_plain (fun vs H Q E h => ?_) (fun cdv A outer s H vs Q E hr h => ?_)
  · obtain ⟨_, _, rfl, _⟩ := h; rfl
  · refine ⟨_, (pss_one (ps_ret (pe_cmpR (r := rEqD K) (op_eqD hr.units) (pe_lc (own := [("_law_one", 1)]) (wi := iList K _) (g := gName 1) (tt := _) rfl sc__law_plain.nd (pi_list (pv 0)) (blkOk_by (N := ["_law_row", "_law_one"]) (sc := (defScope s__law_plain)) (by decide +kernel)) (fun _ _ _ _ _ => pg_name (i := 1) sc__law_plain.nd rfl (Or.inl rfl)) (fun _ _ _ _ _ => pts_one (pt_val (pe_callB (id := "isinstance") (r := rIsi K) call_isi (by rfl) T.n_isinstance (by decide +kernel) (pa_cons (pv 1) (pa_cons (pe_bltn (v := .ty "bool") (by rfl) T.n_bool (by decide +kernel) rfl) pa_nil))))) (fun _ _ _ _ _ => (pv 1))) (pe_lst pa_nil) (nomark _)))), ?_⟩
    obtain ⟨a, ns, rfl, ha, hl, k⟩ := h
    have e := el_lcL (K := K) (t := tTest (tCB (rIsi K) (tCons (tVar 1) (tCons (tC (.ty "bool")) tNil)))) (te := tVar 1) (j := 1) (vs := [1]) (σ := [some (.ref a), none]) (H := H) (tl := tVar 0) (fun _ => false) (fun _ => .non) (ev_var rfl) (SqL.of ha) (by rw [List.length_map]; omega) (fun x => rfl) (fun o x H1 e1 ho => by
      rw [List.getElem?_map] at ho
      obtain ⟨y, _, rfl⟩ := Option.map_eq_some_iff.mp ho
      exact et_test (ev_isi (t := "int") (b := false) (ev_var rfl) ev_c (fun H2 _ => .base (.int y)) (by decide +kernel))) (fun o x H1 e1 ho hf => nomatch hf)
    have eg : given (ns.map V.int).length (fun _ => false) (fun _ => V.non) = [] := by
      unfold given
      rw [List.filter_eq_nil_iff.mpr (fun _ _ => Bool.false_ne_true)]
      rfl
    rw [eg] at e
    exact s_ret (v := .bl true) (fun H1 e1 Q1 k1 => e H1 e1 _ fun p H2 np e2 hp => ⟨Nat.zero_le _, fun z nz => by
      have x1 : Ex H2 (upd H2 z (.lst [])) := Ex.new nz
      exact ⟨_, _, .lst (SqL.of (x1 _ _ hp)) .nil, .lst (SqL.of upd_same) .nil, rfl, rfl, k1 _ (e2.trans x1)⟩⟩) fun H2 e2 => k H2 e2
-- DEF is_place

def sp_is_place (K : PySem.W.Frag) : Sp := fun vs H Q _ => ∃ (x n : Int), vs = [.int x, .int n] ∧ ∀ H', Ex H H' → Q (.bl (decide (0 ≤ x) && decide (x < n))) H'

theorem ok_is_place (T : Txt K mg) : FnOk P w K mg base CX0 2 T.f_is_place T.fd_is_place ["thing", "many"] (sp_is_place K) := by
  refine Fun.ok T.F_is_place sc_is_place (fun vs H Q E h => ?_) (fun cdv A outer s H vs Q E hr h => ?_)
  · obtain ⟨_, _, rfl, _⟩ := h; rfl
  · refine ⟨_, (pss_one (ps_ret (pe_and (pe_call (ok_is_whole T) hr (by rfl) T.g_is_whole T.k_is_whole T.b_is_whole .nil pass0 (pa_cons (pv 0) pa_nil)) (pe_one (pe_chain op_le op_lt pe_int (pv 0) (pv 1)))))), ?_⟩
    obtain ⟨x, n, rfl, k⟩ := h
    exact s_ret (ev_andV (a := true) (ev_fn (ea_cons (ev_var rfl) ea_nil) fun H3 e3 Q3 q3 => ⟨_, "int", rfl, .base (.int _), .inl rfl, q3 H3 (Ex.refl _)⟩) (fun _ => ev_chain ev_c (ev_var rfl) (ev_var rfl) rv_le rv_I0)) k
-- DEF first_side

def sp_first_side (K : PySem.W.Frag) : Sp := fun vs H Q _ => ∃ (p : Addr) (as : List Addr) (es : Gr.Edges) (i : Nat) (e : Int × Int), vs = [.ref p, .int i] ∧ H p = some (.lst (as.map V.ref)) ∧ EdgesAt H as es ∧ es.length ≤ 8 ∧ (∀ e ∈ es, 0 ≤ e.1 ∧ e.1 ≤ es.length ∧ 0 ≤ e.2 ∧ e.2 ≤ es.length) ∧ es[i]? = some e ∧
  ∀ q H', H q = none → Ex H H' → H' q = some (.lst ((grpL (es.length + 1) fun x => if Gr.joins (but es i) id x = Gr.joins (but es i) id e.1 then 1 else 0).map V.int)) → Q (.ref q) H'

theorem ok_first_side (T : Txt K mg) : FnOk P w K mg base CX0 2 T.f_first_side T.fd_first_side ["ends", "at"] (sp_first_side K) := by
  refine Fun.ok T.F_first_side sc_first_side (fun vs H Q E h => ?_) (fun cdv A outer s H vs Q E hr h => ?_)
  · obtain ⟨_, _, _, _, _, rfl, _⟩ := h; rfl
  · refine ⟨_, (pss_cut (ps_set (i := 2) sc_first_side.nd rfl (by first | exact Or.inl rfl | exact Or.inr rfl) (pe_listRg rfl (by rfl) T.n_list (prg_1 (by rfl) T.n_range (pe_op op_add (pe_callB (id := "len") (r := rLenS K) call_len_seq (by rfl) T.n_len PySem.boot_len (pa_cons (pv 0) pa_nil)) pe_int))))
      (pss_cons (ps_for PassesOwn.never rfl (pi_list (pe_op op_cat (pe_slice (r := rSlL K) sl_list (pv 0) po_none (po_some (pv 1))) (pe_slice (r := rSlL K) sl_list (pv 0) (po_some (pe_op op_add (pv 1) pe_int)) po_none))) (pg_tup rfl (pgs_cons (pg_name (i := 3) sc_first_side.nd rfl (by first | exact Or.inl rfl | exact Or.inr rfl)) (pgs_cons (pg_name (i := 4) sc_first_side.nd rfl (by first | exact Or.inl rfl | exact Or.inr rfl)) pgs_nil)))
        (pss_one (ps_set (i := 2) sc_first_side.nd rfl (by first | exact Or.inl rfl | exact Or.inr rfl) (pe_call (ok_joined T) hr (by rfl) T.g_joined T.k_joined T.b_joined .nil pass0 (pa_cons (pv 2) (pa_cons (pv 3) (pa_cons (pv 4) pa_nil)))))))
      (pss_cons (ps_asg (pe_ix (r := rIxL K) ix_list (pv 0) (pv 1) (fun _ _ => rfl)) (pg_tup rfl (pgs_cons (pg_name (i := 3) sc_first_side.nd rfl (by first | exact Or.inl rfl | exact Or.inr rfl)) (pgs_cons (pg_name (i := 5) sc_first_side.nd rfl (by first | exact Or.inl rfl | exact Or.inr rfl)) pgs_nil))))
      (pss_one (ps_ret (pe_lc (own := [("group", 6)]) (wi := iList K _) (g := gName 6) (tt := tYes) rfl sc_first_side.nd (pi_list (pv 2)) (blkOk_by (N := ["ends", "at", "groups", "start", "stop", "_", "group"]) (sc := (defScope s_first_side)) (by decide +kernel)) (fun _ _ _ _ _ => pg_name (i := 6) sc_first_side.nd rfl (Or.inl rfl)) (fun _ _ _ _ _ => pts_nil) (fun _ _ _ _ _ => (pe_ifExp (pt_cmpR op_eq (pv 6) (pe_ix (r := rIxL K) ix_list (pv 2) (pv 3) (fun _ _ => rfl)) (nomark _)) pe_int pe_int)))))))), ?_⟩
    obtain ⟨p, as, es, i, e, rfl, hp, hE, h8, hb, hi, k⟩ := h
    have hlt := (List.getElem?_eq_some_iff.mp hi).1
    have al : as.length = es.length := Paired.length hE
    have hbut : EdgesAt H (but as i) (but es i) := paired_app (paired_take i hE) (paired_drop (i + 1) hE)
    have bsub : ∀ f ∈ but es i, f ∈ es := fun f hf => (List.mem_append.mp hf).elim List.mem_of_mem_take List.mem_of_mem_drop
    refine ⟨fun σ' H' => ∃ pg, σ' = [some (.ref p), some (.int i), some (.ref pg), none, none, none, none] ∧ Ex H H' ∧ H' pg = some (.lst ((grpL (es.length + 1) id).map V.int)), ?_, ?_⟩
    · refine s_asgL (el_rgL (k := es.length + 1) (ev_is (ev_op (ev_len (ev_var rfl) (SqL.of hp)) ev_c rv_I0) (by rw [List.length_map, al, Int.natCast_add]; rfl)) (by omega)) fun pg H1 _ e1 h1 => ⟨pg, rfl, e1, ?_⟩
      rw [h1]
      unfold grpL
      rw [List.map_id]
    rintro σ' H1 ⟨pg, rfl, e1, hg⟩
    have lst := el_cat (ta := tSl (rSlL K) (tVar 0) tNoPart (tPart (tVar 1))) (tb := tSl (rSlL K) (tVar 0) (tPart (tOp (rI0 fun i j => .int (i + j)) (tVar 1) (tC (.int 1)))) tNoPart) (σ := [some (.ref p), some (.int i), some (.ref pg), none, none, none, none]) (H := H1) (el_sl (K := K) (ev_var rfl) eo_none (eo_some (ev_var rfl)) (SqL.of (e1 _ _ hp))) (el_sl (K := K) (ev_var rfl) (eo_some (ev_op (ev_var rfl) ev_c rv_I0)) eo_none (SqL.of (e1 _ _ hp))) (by
      have c1 := cutV_length (as.map V.ref) none (some (i : Int))
      have c2 := cutV_length (as.map V.ref) (some ((i : Int) + 1)) none
      rw [List.length_map] at c1 c2
      omega)
    rw [cut_outR as (by omega) (by omega)] at lst
    refine q_forNL lst (fun pl n σ' H' => ∃ (pg : Addr) (y3 y4 : Option V), σ' = [some (.ref p), some (.int i), some (.ref pg), y3, y4, none, none] ∧ Ex H H' ∧ H' pl = some (.lst ((but as i).map V.ref)) ∧ H' pg = some (.lst ((grpL (es.length + 1) (Gr.joins ((but es i).take n) id)).map V.int))) (fun pl H2 _ e2 h2 => ⟨pg, _, _, rfl, e1.trans e2, h2, e2 _ _ hg⟩) (fun pl n σ' H' _ ⟨_, _, _, _, _, h, _⟩ => SqL.of h) (fun pl n x σ' H2 hx hP => ?_) (fun pl σ' H2 hP => ?_)
    · obtain ⟨pg, y3, y4, rfl, e2, hl, hg2⟩ := hP
      rw [List.getElem?_map] at hx
      obtain ⟨a, ha, rfl⟩ := Option.map_eq_some_iff.mp hx
      obtain ⟨f, hf, ht⟩ := paired_get hbut ha
      have bf := hb f (bsub f (List.mem_of_getElem? hf))
      refine ⟨a, _, rfl, SqT.of (tups_E e2 _ _ ht), rfl, _, _, rfl, _, _, rfl, rfl, ?_⟩
      refine ⟨_, rfl, _, rfl, _, rfl, pg, es.length + 1, _, f.1, f.2, rfl, hg2, by omega, by omega, by omega, by omega, by omega, fun q H3 nq e3 hq => ⟨q, _, _, rfl, e2.trans e3, e3 _ _ hl, ?_⟩⟩
      rw [hq, take_snoc hf, Gr.joins_snoc]
    · obtain ⟨pg, y3, y4, rfl, e2, hl, hg2⟩ := hP
      have lb : (List.take i as ++ List.drop (i + 1) as).length = (but es i).length := Paired.length hbut
      rw [List.length_map, lb, List.take_length] at hg2
      have hia : i < as.length := by omega
      obtain ⟨f, hf, ht⟩ := paired_get hE (List.getElem?_eq_getElem hia)
      rw [hi] at hf
      cases hf
      have be := hb e (List.mem_of_getElem? hi)
      have at1 : atI (as.map V.ref) (i : Int) = some (.ref as[i]) := atI_nat (by rw [List.getElem?_map, List.getElem?_eq_getElem hia]; rfl)
      refine ⟨_, rfl, _, rfl, p, _, _, _, rfl, rfl, SqL.of (e2 _ _ hp), at1, ?_⟩
      refine ⟨as[i], _, rfl, SqT.of (tups_E e2 _ _ ht), rfl, _, _, rfl, _, _, rfl, rfl, ?_⟩
      refine s_retL (el_mapI (K := K) (n := 2) (fun y => if y = Gr.joins (but es i) id e.1 then 1 else 0) rfl hg2 (by rw [grp_len]; omega) (fun u => rfl) fun y H3 hy e3 => ?_) fun q H3 nq e3 hq => k q H3 (fresh_back e2 nq) (e2.trans e3) ?_
      · refine ev_if (b := decide (y = Gr.joins (but es i) id e.1)) (et_is (et_test (ev_op (ev_var rfl) (ev_op (ev_var rfl) (ev_var rfl) (rv_ixL (SqL.of (e3 _ _ hg2)) (grp_at (by omega) (by omega)))) (rv_eq rfl))) ?_) (fun z => ?_) (fun z => ?_)
        · by_cases c : y = Gr.joins (but es i) id e.1
          · rw [c, decide_eq_true rfl, decide_eq_true rfl]
          · rw [decide_eq_false c, decide_eq_false (fun z => c (V.int.inj z))]
        · rw [if_pos (of_decide_eq_true z)]
          exact ev_c
        · rw [if_neg (of_decide_eq_false z)]
          exact ev_c
      · have e4 : (grpL (es.length + 1) (Gr.joins (but es i) id)).map (fun y => if y = Gr.joins (but es i) id e.1 then 1 else 0) = grpL (es.length + 1) fun x => if Gr.joins (but es i) id x = Gr.joins (but es i) id e.1 then 1 else 0 := by
          unfold grpL
          rw [List.map_map]
          rfl
        rw [hq, e4]
-- DEF _law_due

theorem sd_turns {es : Gr.Edges} {i : Nat} {e : Int × Int} (h : es[i]? = some e) (x : Int) : sd es i x = if (Gr.turns (but es i) [e.1] (but es i).length).contains x = true then 1 else 0 := by
  unfold sd
  rw [h]
  show (if Gr.joins (but es i) id x = Gr.joins (but es i) id e.1 then (1 : Int) else 0) = _
  by_cases c : x ∈ Gr.turns (but es i) [e.1] (but es i).length
  · rw [if_pos ((Gr.joins_same _ _ rfl x e.1).mpr (Gr.turns_all.mp c).symm), if_pos (List.contains_iff_mem.mpr c)]
  · rw [if_neg (fun z => c (Gr.turns_all.mpr ((Gr.joins_same _ _ rfl x e.1).mp z).symm)), if_neg (fun z => c (List.contains_iff_mem.mp z))]
def sp__law_due (K : PySem.W.Frag) : Sp := fun vs H Q _ => ∃ (p q : Addr) (as bs : List Addr) (es qs : Gr.Edges), vs = [.ref p, .ref q] ∧ H p = some (.lst (as.map V.ref)) ∧ EdgesAt H as es ∧ H q = some (.lst (bs.map V.ref)) ∧ EdgesAt H bs qs ∧ es.length ≤ 8 ∧ qs.length ≤ 8 ∧
  ∀ c cs H', Ex H H' → Tab H' c cs (netT es qs) → Q (.ref c) H'

theorem ok__law_due (T : Txt K mg) : FnOk P w K mg base CX0 2 T.f__law_due T.fd__law_due ["_law_ends_here", "_law_arcs"] (sp__law_due K) := by
  refine Fun.ok T.F__law_due sc__law_due (fun vs H Q E h => ?_) (fun cdv A outer s H vs Q E hr h => ?_)
  · obtain ⟨_, _, _, _, _, _, rfl, _⟩ := h; rfl
  · refine ⟨_, (pss_cut (ps_set (i := 2) sc__law_due.nd rfl (by first | exact Or.inl rfl | exact Or.inr rfl) (pe_lst pa_nil))
      (pss_cons (ps_for PassesOwn.never rfl (pi_enum (by rfl) T.n_enumerate (pa_cons (pv 0) pa_nil)) (pg_tup rfl (pgs_cons (pg_name (i := 3) sc__law_due.nd rfl (by first | exact Or.inl rfl | exact Or.inr rfl)) (pgs_cons (pg_tup rfl (pgs_cons (pg_name (i := 4) sc__law_due.nd rfl (by first | exact Or.inl rfl | exact Or.inr rfl)) (pgs_cons (pg_name (i := 5) sc__law_due.nd rfl (by first | exact Or.inl rfl | exact Or.inr rfl)) pgs_nil))) pgs_nil)))
        (pss_cut (ps_set (i := 6) sc__law_due.nd rfl (by first | exact Or.inl rfl | exact Or.inr rfl) (pe_call (ok__law_side T) hr (by rfl) T.g__law_side T.k__law_side T.b__law_side .nil pass0 (pa_cons (pe_op op_cat (pe_slice (r := rSlL K) sl_list (pv 0) po_none (po_some (pv 3))) (pe_slice (r := rSlL K) sl_list (pv 0) (po_some (pe_op op_add (pv 3) pe_int)) po_none)) (pa_cons (pv 4) pa_nil))))
          (pss_one (ps_expr (pe_bm PySem.F.plainAttrs_list PySem.F.slot_list_append PySem.F.type_list_append mt_append (pv 2) (pa_cons (pe_lc (own := [("_law_one", 7), ("_law_two", 8)]) (wi := iList K _) (g := gTup K 2 (gCons (gName 7) (gCons (gName 8) gNil))) (tt := tYes) rfl sc__law_due.nd (pi_list (pv 1)) (blkOk_by (N := ["_law_ends_here", "_law_arcs", "_law_found", "_law_at", "_law_begin", "_law_goal", "_law_near", "_law_one", "_law_two"]) (sc := (defScope s__law_due)) (by decide +kernel)) (fun _ _ _ _ _ => (pg_tup rfl (pgs_cons (pg_name (i := 7) sc__law_due.nd rfl (Or.inl rfl)) (pgs_cons (pg_name (i := 8) sc__law_due.nd rfl (Or.inl rfl)) pgs_nil)))) (fun _ _ _ _ _ => pts_nil) (fun _ _ _ _ _ => (pe_op op_sub (pe_callTy (T := "int") call_int1 (by rfl) T.n_int (by decide +kernel) (pa_cons (pe_cmpR (r := rIn K false) op_in_seq (pv 7) (pv 6) (by rfl)) pa_nil)) (pe_callTy (T := "int") call_int1 (by rfl) T.n_int (by decide +kernel) (pa_cons (pe_cmpR (r := rIn K false) op_in_seq (pv 8) (pv 6) (by rfl)) pa_nil))))) pa_nil))))))
      (pss_one (ps_ret (pv 2))))), ?_⟩
    obtain ⟨p, q, as, bs, es, qs, rfl, hp, hE, hq, hA, l8, m8, k⟩ := h
    have al : as.length = es.length := Paired.length hE
    refine ⟨fun σ' H' => ∃ pt, σ' = [some (.ref p), some (.ref q), some (.ref pt), none, none, none, none, none, none] ∧ Ex H H' ∧ H pt = none ∧ H' pt = some (.lst []), ?_, ?_⟩
    · exact s_asgL (el_lst (vs := []) ea_nil (Nat.le_of_ble_eq_true rfl)) fun pt H3 nt e3 h3 => ⟨pt, rfl, e3, nt, h3⟩
    rintro σ' H3 ⟨pt, rfl, e3, nt, h3⟩
    refine ⟨_, rfl, p, _, rfl, SqL.of (e3 _ _ hp), ?_⟩
    refine for_enum (K := K) (a := p) (xs := as.map V.ref) (fun i σ H' => ∃ (cs : List Addr) (y3 y4 y5 y6 y7 y8 : Option V), σ = [some (.ref p), some (.ref q), some (.ref pt), y3, y4, y5, y6, y7, y8] ∧ Ex H H' ∧ H' pt = some (.lst (cs.map V.ref)) ∧ RowsAt H' cs ((List.range i).map fun i => qs.map fun f => sd es i f.1 - sd es i f.2) ∧ pt ∉ cs) ⟨[], _, _, _, _, _, _, rfl, e3, h3, .nil, by simp⟩ (fun i σ H' ⟨_, _, _, _, _, _, _, _, h, _⟩ => SqL.of (h _ _ hp)) (fun i x t σ H4 hx hP nt4 => ?_) (fun σ H4 hP => ?_)
    rotate_left
    · obtain ⟨cs, y3, y4, y5, y6, y7, y8, rfl, e4, h4, hr, npt⟩ := hP
      rw [List.length_map, al] at hr
      exact ⟨_, rfl, k pt cs H4 e4 ⟨h4, hr⟩⟩
    obtain ⟨cs, y3, y4, y5, y6, y7, y8, rfl, e4, h4, hr, npt⟩ := hP
    rw [List.getElem?_map] at hx
    obtain ⟨a, ha, rfl⟩ := Option.map_eq_some_iff.mp hx
    obtain ⟨e, he, ht⟩ := paired_get hE ha
    have hia := (List.getElem?_eq_some_iff.mp ha).1
    have xt : Ex H4 (upd H4 t (.tup [.int (i : Nat), .ref a])) := Ex.new nt4
    refine ⟨t, _, rfl, SqT.of upd_same, rfl, _, _, rfl, _, _, rfl, a, _, rfl, SqT.of (tups_E (e4.trans xt) _ _ ht), rfl, _, _, rfl, _, _, rfl, rfl, rfl, ?_⟩
    have hbut : EdgesAt H (but as i) (but es i) := paired_app (paired_take i hE) (paired_drop (i + 1) hE)
    have blen : (but es i).length ≤ 8 := by
      unfold but
      rw [List.length_append, List.length_take, List.length_drop]
      omega
    have e4t := e4.trans xt
    have ptt : pt ≠ t := fun z => by rw [z, nt4] at h4; cases h4
    have h4t := xt _ _ h4
    have hrt := hr.ex xt
    clear xt h4 hr e4 nt4
    revert e4t h4t hrt
    generalize upd H4 t (.tup [.int (i : Nat), .ref a]) = G
    intro e4t h4t hrt
    refine ⟨fun σ' H' => ∃ pn, σ' = [some (.ref p), some (.ref q), some (.ref pt), some (.int (i : Nat)), some (.int e.1), some (.int e.2), some (.ref pn), y7, y8] ∧ Ex G H' ∧ H' pn = some (.lst ((Gr.turns (but es i) [e.1] (but es i).length).map V.int)), ?_, ?_⟩
    · have lst := el_cat (ta := tSl (rSlL K) (tVar 0) tNoPart (tPart (tVar 3))) (tb := tSl (rSlL K) (tVar 0) (tPart (tOp (rI0 fun i j => .int (i + j)) (tVar 3) (tC (.int 1)))) tNoPart) (σ := [some (.ref p), some (.ref q), some (.ref pt), some (.int (i : Nat)), some (.int e.1), some (.int e.2), y6, y7, y8]) (H := G) (el_sl (K := K) (ev_var rfl) eo_none (eo_some (ev_var rfl)) (SqL.of (e4t _ _ hp))) (el_sl (K := K) (ev_var rfl) (eo_some (ev_op (ev_var rfl) ev_c rv_I0)) eo_none (SqL.of (e4t _ _ hp))) (by
        have c1 := cutV_length (as.map V.ref) none (some (i : Int))
        have c2 := cutV_length (as.map V.ref) (some ((i : Int) + 1)) none
        rw [List.length_map] at c1 c2
        omega)
      rw [cut_outR as hia (by omega)] at lst
      exact lst G (Ex.refl _) _ fun pl H5 npl e5 hl => ⟨_, rfl, pl, but as i, but es i, e.1, rfl, hl, EdgesAt.mono (tups_E (e4t.trans e5)) hbut, blen, fun pn H6 nn e6 h6 => ⟨pn, rfl, e5.trans e6, h6⟩⟩
    rintro σ' H5 ⟨pn, rfl, e5, h5⟩
    have fl : ∀ F : List Int, (F.map V.int).all flatV = true := fun F => by
      rw [List.all_eq_true]
      intro y hy
      obtain ⟨z, _, rfl⟩ := List.mem_map.mp hy
      rfl
    refine s_appL (l := pt) (ys := (qs.map fun f => sd es i f.1 - sd es i f.2).map V.int) (e5 _ _ h4t) (ev_var rfl) (el_pairs (K := K) (n := 1) (fun f => sd es i f.1 - sd es i f.2) rfl ((e4t.trans e5) _ _ hq) (EdgesAt.mono (tups_E (e4t.trans e5)) hA) (by omega) (fun u v => rfl) fun f H6 hf e6 => ?_) ?_ fun u H6 nu e6 hu => ?_
    · rw [sd_turns he, sd_turns he]
      exact ev_op (ev_int1 (ev_is (ev_op (ev_var rfl) (ev_var rfl) (rv_inL (neg := false) (SqL.of (e6 _ _ h5)) rfl (fl _))) (by show V.bl (inV _ _) = _; rw [inV_has]))) (ev_int1 (ev_is (ev_op (ev_var rfl) (ev_var rfl) (rv_inL (neg := false) (SqL.of (e6 _ _ h5)) rfl (fl _))) (by show V.bl (inV _ _) = _; rw [inV_has]))) rv_I0
    · have := Paired.length hrt
      rw [List.length_map, List.length_range] at this
      rw [List.length_map]
      omega
    · have e46 := e5.trans e6
      have nupt : u ≠ pt := fun z => by
        have := e5 _ _ h4t
        rw [← z, nu] at this
        cases this
      refine ⟨cs ++ [u], _, _, _, _, _, _, rfl, Ex.mut (e4t.trans e46) nt, ?_, ?_, fun ha => ?_⟩
      · rw [upd_same, List.map_append]
        rfl
      · rw [List.range_succ, List.map_append]
        have npt2 : ∀ a ∈ cs ++ [u], a ≠ pt := fun a ha => by
          rcases List.mem_append.mp ha with h | h
          · exact fun z => npt (by rw [← z]; exact h)
          · rw [List.mem_singleton.mp h]
            exact nupt
        refine rows_but (paired_snoc (hrt.ex e46) hu) fun a ha o h => ?_
        rw [upd_ne (npt2 a ha)]
        exact h
      · rcases List.mem_append.mp ha with h | h
        · exact npt h
        · exact nupt (List.mem_singleton.mp h).symm
-- DEF is_arc
theorem el_yesT {K : PySem.W.Frag} {n j : Nat} {a : Addr} {xs : List V} {te : TE} {vs : List Nat} {σ : L2.St} {H : Hp} (hσ : σ[n]? = some (some (.ref a))) (hx : H a = some (.tup xs)) (hl : xs.length ≤ 1000)
    (hs : ∀ x H', x ∈ xs → Ex H H' → Ev te ((wipe σ vs).set j (some x)) H' (.bl true)) (hw : ∀ x, wipe ((wipe σ vs).set j (some x)) vs = wipe σ vs) : EvL (tLc (iTup K (tVar n)) (gName j) tYes te vs) σ H ((List.replicate xs.length true).map V.bl) := by
  intro H0 e0 Q0 q0
  have hx0 := e0 _ _ hx
  refine ⟨_, hσ, a, rfl, ⟨_, SqT.of hx0⟩, fun D hD => ?_⟩
  refine lc_tup (K := K) (a := a) (xs := xs) (fun i H' => Ex H0 H' ∧ H' D = some (.lst ((List.replicate i true).map V.bl))) ⟨Ex.new hD, upd_same⟩ (fun i H' _ p => SqT.of (p.1 _ _ hx0)) (fun i x H' gx p => ?_) (fun H' p => ?_)
  · obtain ⟨p1, p2⟩ := p
    have hi := (List.getElem?_eq_some_iff.mp gx).1
    refine ⟨hw _, ?_⟩
    show te _ _ _
    refine hs x H (List.mem_of_getElem? gx) (Ex.refl H) _ (e0.trans p1) _ fun H4 e4 => ?_
    refine ⟨_, e4 _ _ p2, ?_, Ex.mut (p1.trans e4) hD, ?_⟩
    · rw [List.length_map, List.length_replicate]
      exact small1000 (by omega)
    · rw [upd_same, List.replicate_succ', List.map_append]
      rfl
  · obtain ⟨p1, p2⟩ := p
    exact q0 D H' hD p1 p2

theorem ev_lenT {K : PySem.W.Frag} {ta : TE} {σ : L2.St} {H : Hp} {p : Addr} {xs : List V} (ha : Ev ta σ H (.ref p)) (h : SqT K H p xs) : Ev (tCB (rLenS K) (tCons ta tNil)) σ H (.int (xs.length : Int)) := fun H1 e Q q =>
  ha H1 e _ fun H2 e2 => ⟨p, xs, rfl, Or.inr (ex_t (e.trans e2) h), q H2 e2⟩
def sp_is_arc (K : PySem.W.Frag) : Sp := fun vs H Q _ => ∃ (t : Addr) (a b n : Int), vs = [.ref t, .int n] ∧ H t = some (.tup [.int a, .int b]) ∧ 0 ≤ a ∧ a < n ∧ 0 ≤ b ∧ b < n ∧ ∀ H', Ex H H' → Q (.bl true) H'

theorem ok_is_arc (T : Txt K mg) : FnOk P w K mg base CX0 3 T.f_is_arc T.fd_is_arc ["thing", "many"] (sp_is_arc K) := by
  refine Fun.ok T.F_is_arc sc_is_arc (fun vs H Q E h => ?_) (fun cdv A outer s H vs Q E hr h => ?_)
  · obtain ⟨_, _, _, _, rfl, _⟩ := h; rfl
  · refine ⟨_, (pss_one (ps_ret (pe_and (pe_callB (id := "isinstance") (r := rIsi K) call_isi (by rfl) T.n_isinstance (by decide +kernel) (pa_cons (pv 0) (pa_cons (pe_bltn (v := .ty "tuple") (by rfl) T.n_tuple (by decide +kernel) rfl) pa_nil))) (pe_and (pe_cmpR op_eq (pe_callB (id := "len") (r := rLenS K) call_len_seq (by rfl) T.n_len PySem.boot_len (pa_cons (pv 0) pa_nil)) pe_int (nomark _)) (pe_one (pe_callB (id := "all") (r := rAll K) (cr_all rfl) (by rfl) T.n_all (by decide +kernel) (pa_cons (pe_lc (own := [("place", 2)]) (wi := iTup K _) (g := gName 2) (tt := tYes) rfl sc_is_arc.nd (pi_tup (pv 0)) (blkOk_by (N := ["thing", "many", "place"]) (sc := (defScope s_is_arc)) (by decide +kernel)) (fun _ _ _ _ _ => pg_name (i := 2) sc_is_arc.nd rfl (Or.inl rfl)) (fun _ _ _ _ _ => pts_nil) (fun _ _ _ _ _ => (pe_call (ok_is_place T) hr (by rfl) T.g_is_place T.k_is_place T.b_is_place .nil pass0 (pa_cons (pv 2) (pa_cons (pv 1) pa_nil))))) pa_nil))))))), ?_⟩
    obtain ⟨t, a, b, n, rfl, ht, a0, a1, b0, b1, k⟩ := h
    refine s_ret (ev_andV (a := true) (b := true) (ev_isi (t := "tuple") (b := true) (ev_var rfl) ev_c (fun H1 e => .base (.tup (e _ _ ht))) (by decide +kernel)) (fun _ => ev_andV (a := true) (b := true) (ev_is (ev_op (ev_lenT (ev_var rfl) (SqT.of ht)) ev_c (rv_eq rfl)) rfl) (fun _ => ev_all (el_yesT (a := t) rfl ht (by show 2 ≤ 1000; decide) (fun x H' hx e => ?_) (fun x => rfl))))) fun H2 e2 => k H2 e2
    rcases List.mem_cons.mp hx with rfl | hx
    · exact ev_fn (sp := sp_is_place K) (ea_cons (ev_var rfl) (ea_cons (ev_var rfl) ea_nil)) fun H3 e3 Q3 q3 => ⟨a, n, rfl, fun H4 e4 => by rw [decide_eq_true a0, decide_eq_true a1]; exact q3 H4 e4⟩
    · rw [List.mem_singleton.mp hx]
      exact ev_fn (sp := sp_is_place K) (ea_cons (ev_var rfl) (ea_cons (ev_var rfl) ea_nil)) fun H3 e3 Q3 q3 => ⟨b, n, rfl, fun H4 e4 => by rw [decide_eq_true b0, decide_eq_true b1]; exact q3 H4 e4⟩
-- DEF check_ends

theorem s_callN {sp : Sp} {E : XK} {ta : TA} {vs : List V} {D : Ends} {σ : L2.St} {H : Hp} {i : Nat} (ha : EvA ta σ H vs) (h : ∀ H1, Ex H H1 → sp vs H1 (fun v H2 => D.nx (σ.set i (some v)) H2) E) : tAsg (tCall sp [] E ta) (gName i) D σ H := ha H (Ex.refl H) _ fun H1 e => by
  rw [List.append_nil]
  exact h H1 e
def sp_check_ends (K : PySem.W.Frag) : Sp := fun vs H Q _ => ∃ (p : Addr) (as : List Addr) (es : Gr.Edges), vs = [.ref p] ∧ H p = some (.lst (as.map V.ref)) ∧ EdgesAt H as es ∧ 1 ≤ es.length ∧ es.length ≤ 8 ∧ (∀ e ∈ es, 0 ≤ e.1 ∧ e.1 ≤ es.length ∧ 0 ≤ e.2 ∧ e.2 ≤ es.length) ∧ (∀ a ∈ numsTo (es.length + 1), ∀ b ∈ numsTo (es.length + 1), Gr.Same es a b) ∧ ∀ H', Ex H H' → Q .non H'

theorem ok_check_ends (T : Txt K mg) : FnOk P w K mg base CX0 4 T.f_check_ends T.fd_check_ends ["thing"] (sp_check_ends K) := by
  refine Fun.ok T.F_check_ends sc_check_ends (fun vs H Q E h => ?_) (fun cdv A outer s H vs Q E hr h => ?_)
  · obtain ⟨_, _, _, rfl, _⟩ := h; rfl
  · refine ⟨_, (pss_cons (ps_if (PW.pt (pw_or (pt_not (pt_val (pe_callB (id := "isinstance") (r := rIsi K) call_isi (by rfl) T.n_isinstance (by decide +kernel) (pa_cons (pv 0) (pa_cons (pe_bltn (v := .ty "list") (by rfl) T.n_list (by decide +kernel) rfl) pa_nil))))) (pw_or1 (pt_not (pt_chain op_le op_le pe_int (pe_callB (id := "len") (r := rLenS K) call_len_seq (by rfl) T.n_len PySem.boot_len (pa_cons (pv 0) pa_nil)) (pe_glob (v := .int 8) (by rfl) T.g_MOST ⟨_, rfl⟩))))))
        (pss_one ps_never)
        pss_nil)
      (pss_cut (ps_set (i := 1) sc_check_ends.nd rfl (by first | exact Or.inl rfl | exact Or.inr rfl) (pe_listRg rfl (by rfl) T.n_list (prg_1 (by rfl) T.n_range (pe_op op_add (pe_callB (id := "len") (r := rLenS K) call_len_seq (by rfl) T.n_len PySem.boot_len (pa_cons (pv 0) pa_nil)) pe_int))))
      (pss_one (ps_for PassesOwn.never rfl (pi_enum (by rfl) T.n_enumerate (pa_cons (pv 0) pa_nil)) (pg_tup rfl (pgs_cons (pg_name (i := 2) sc_check_ends.nd rfl (by first | exact Or.inl rfl | exact Or.inr rfl)) (pgs_cons (pg_name (i := 3) sc_check_ends.nd rfl (by first | exact Or.inl rfl | exact Or.inr rfl)) pgs_nil)))
        (pss_cons (ps_if (PW.pt (pw_or (pt_not (pt_val (pe_call (ok_is_arc T) hr (by rfl) T.g_is_arc T.k_is_arc T.b_is_arc .nil pass0 (pa_cons (pv 3) (pa_cons (pe_callB (id := "len") (r := rLenS K) call_len_seq (by rfl) T.n_len PySem.boot_len (pa_cons (pv 1) pa_nil)) pa_nil))))) (pw_or1 (pt_cmpR op_eq (pe_ix (r := rIxL K) ix_list (pv 1) (pe_ix (r := rIxT K) ix_tup (pv 3) pe_int (fun _ _ => rfl)) (fun _ _ => rfl)) (pe_ix (r := rIxL K) ix_list (pv 1) (pe_ix (r := rIxT K) ix_tup (pv 3) pe_int (fun _ _ => rfl)) (fun _ _ => rfl)) (nomark _)))))
            (pss_one ps_never)
            pss_nil)
          (pss_one (ps_set (i := 1) sc_check_ends.nd rfl (by first | exact Or.inl rfl | exact Or.inr rfl) (pe_call (ok_joined T) (hr.mono (by decide)) (by rfl) T.g_joined T.k_joined T.b_joined .nil pass0 (pa_cons (pv 1) (pa_cons (pe_ix (r := rIxT K) ix_tup (pv 3) pe_int (fun _ _ => rfl)) (pa_cons (pe_ix (r := rIxT K) ix_tup (pv 3) pe_int (fun _ _ => rfl)) pa_nil))))))))))), ?_⟩
    obtain ⟨p, as, es, rfl, hp, hE, l1, l8, hb, hT, k⟩ := h
    have al : as.length = es.length := Paired.length hE
    refine q_when (b := false) (et_is (et_or (et_not (et_B (ev_isi (t := "list") (b := true) (ev_var rfl) ev_c (fun H1 e => .base (.lst (e _ _ hp))) (by decide +kernel)))) (fun _ => et_not (et_test (ev_chain ev_c (ev_is (ev_len (ev_var rfl) (SqL.of hp)) (by rw [List.length_map, al])) ev_c rv_le rv_le)))) ?_) (fun z => nomatch z) (fun _ H1 e1 => ?_)
    · rw [decide_eq_true (show (1 : Int) ≤ (es.length : Int) by omega), decide_eq_true (show (es.length : Int) ≤ 8 by omega)]
      rfl
    refine ⟨fun σ' H' => ∃ pg, σ' = [some (.ref p), some (.ref pg), none, none] ∧ Ex H H' ∧ H' pg = some (.lst ((grpL (es.length + 1) id).map V.int)), ?_, ?_⟩
    · refine s_asgL (el_rgL (k := es.length + 1) (ev_is (ev_op (ev_len (ev_var rfl) (SqL.of (e1 _ _ hp))) ev_c rv_I0) (by rw [List.length_map, al, Int.natCast_add]; rfl)) (by omega)) fun pg H2 _ e2 h2 => ⟨pg, rfl, e1.trans e2, ?_⟩
      rw [h2]
      unfold grpL
      rw [List.map_id]
    rintro σ' H2 ⟨pg, rfl, e2, hg⟩
    refine ⟨_, rfl, p, _, rfl, SqL.of (e2 _ _ hp), ?_⟩
    refine for_enum (K := K) (a := p) (xs := as.map V.ref) (fun i σ H' => ∃ (pg : Addr) (y2 y3 : Option V), σ = [some (.ref p), some (.ref pg), y2, y3] ∧ Ex H H' ∧ H' pg = some (.lst ((grpL (es.length + 1) (Gr.joins (es.take i) id)).map V.int))) ⟨pg, _, _, rfl, e2, hg⟩ (fun i σ H' ⟨_, _, _, _, h, _⟩ => SqL.of (h _ _ hp)) (fun i x t σ H3 hx hP nt => ?_) (fun σ H3 ⟨_, _, _, _, h, _⟩ => k H3 h)
    obtain ⟨pg, y2, y3, rfl, e3, hg3⟩ := hP
    rw [List.getElem?_map] at hx
    obtain ⟨a, ha, rfl⟩ := Option.map_eq_some_iff.mp hx
    obtain ⟨f, hf, hft⟩ := paired_get hE ha
    have bf := hb f (List.mem_of_getElem? hf)
    have xt : Ex H3 (upd H3 t (.tup [.int (i : Nat), .ref a])) := Ex.new nt
    have nr : Gr.joins (es.take i) id f.1 ≠ Gr.joins (es.take i) id f.2 := fun z => Gr.no_round (R0 := numsTo (es.length + 1)) (nodup_nums _) hT (by rw [numsTo_length]) hf ((Gr.joins_same _ _ rfl f.1 f.2).mp z)
    refine ⟨t, _, rfl, SqT.of upd_same, rfl, _, _, rfl, _, _, rfl, rfl, ?_⟩
    have hgx := xt _ _ hg3
    have htx := tups_E (e3.trans xt) _ _ hft
    have ix0 : ∀ {G : Hp}, Ex (upd H3 t (.tup [.int (i : Nat), .ref a])) G → Ev (tOp (rIxT K) (tVar 3) (tC (.int 0))) [some (.ref p), some (.ref pg), some (.int (i : Nat)), some (.ref a)] G (.int f.1) := fun {G} e => ev_op (ev_var rfl) ev_c (rv_ixT (SqT.of (tups_E e _ _ htx)) rfl)
    have ix1 : ∀ {G : Hp}, Ex (upd H3 t (.tup [.int (i : Nat), .ref a])) G → Ev (tOp (rIxT K) (tVar 3) (tC (.int 1))) [some (.ref p), some (.ref pg), some (.int (i : Nat)), some (.ref a)] G (.int f.2) := fun {G} e => ev_op (ev_var rfl) ev_c (rv_ixT (SqT.of (tups_E e _ _ htx)) rfl)
    refine q_when (σ := [some (.ref p), some (.ref pg), some (.int (i : Nat)), some (.ref a)]) (b := false) (et_is (et_or (a := false) (b := false) (et_is (et_not (et_B (b := true) (ev_fn (sp := sp_is_arc K) (ea_cons (ev_var rfl) (ea_cons (ev_is (ev_len (ev_var rfl) (SqL.of hgx)) (by rw [List.length_map, grp_len])) ea_nil)) fun H4 e4 Q4 q4 => ⟨a, f.1, f.2, ((es.length + 1 : Nat) : Int), rfl, tups_E e4 _ _ htx, bf.1, by omega, bf.2.2.1, by omega, q4⟩))) rfl) (fun _ => et_is (et_test (ev_op (ev_op (ev_var rfl) (ix0 (Ex.refl _)) (rv_ixL (SqL.of hgx) (grp_at bf.1 (by omega)))) (ev_op (ev_var rfl) (ix1 (Ex.refl _)) (rv_ixL (SqL.of hgx) (grp_at bf.2.2.1 (by omega)))) (rv_eq rfl))) (decide_eq_false fun z => nr (V.int.inj z)))) rfl) (fun z => nomatch z) (fun _ H4 e4 => ?_)
    refine s_callN (ea_cons (ev_var (i := 1) rfl) (ea_cons (ix0 e4) (ea_cons (ix1 e4) ea_nil))) fun H5 e5 => ⟨pg, es.length + 1, _, f.1, f.2, rfl, (e4.trans e5) _ _ hgx, by omega, bf.1, by omega, bf.2.2.1, by omega, fun q H6 nq e6 hq => ⟨q, _, _, rfl, (e3.trans xt).trans ((e4.trans e5).trans e6), ?_⟩⟩
    rw [hq, take_snoc hf, Gr.joins_snoc]
-- DEF check_arcs

def sp_check_arcs (K : PySem.W.Frag) : Sp := fun vs H Q _ => ∃ (p : Addr) (as : List Addr) (es : Gr.Edges) (n : Int), vs = [.ref p, .int n] ∧ H p = some (.lst (as.map V.ref)) ∧ EdgesAt H as es ∧ 1 ≤ es.length ∧ es.length ≤ 8 ∧ (∀ e ∈ es, 0 ≤ e.1 ∧ e.1 < n ∧ 0 ≤ e.2 ∧ e.2 < n) ∧ ∀ H', Ex H H' → Q .non H'

theorem ok_check_arcs (T : Txt K mg) : FnOk P w K mg base CX0 4 T.f_check_arcs T.fd_check_arcs ["thing", "many"] (sp_check_arcs K) := by
  refine Fun.ok T.F_check_arcs sc_check_arcs (fun vs H Q E h => ?_) (fun cdv A outer s H vs Q E hr h => ?_)
  · obtain ⟨_, _, _, _, rfl, _⟩ := h; rfl
  · refine ⟨_, (pss_cons (ps_if (PW.pt (pw_or (pt_not (pt_val (pe_callB (id := "isinstance") (r := rIsi K) call_isi (by rfl) T.n_isinstance (by decide +kernel) (pa_cons (pv 0) (pa_cons (pe_bltn (v := .ty "list") (by rfl) T.n_list (by decide +kernel) rfl) pa_nil))))) (pw_or1 (pt_not (pt_chain op_le op_le pe_int (pe_callB (id := "len") (r := rLenS K) call_len_seq (by rfl) T.n_len PySem.boot_len (pa_cons (pv 0) pa_nil)) (pe_glob (v := .int 8) (by rfl) T.g_MOST ⟨_, rfl⟩))))))
        (pss_one ps_never)
        pss_nil)
      (pss_one (ps_for PassesOwn.never rfl (pi_enum (by rfl) T.n_enumerate (pa_cons (pv 0) pa_nil)) (pg_tup rfl (pgs_cons (pg_name (i := 2) sc_check_arcs.nd rfl (by first | exact Or.inl rfl | exact Or.inr rfl)) (pgs_cons (pg_name (i := 3) sc_check_arcs.nd rfl (by first | exact Or.inl rfl | exact Or.inr rfl)) pgs_nil)))
        (pss_one (ps_if (pt_not (pt_val (pe_call (ok_is_arc T) hr (by rfl) T.g_is_arc T.k_is_arc T.b_is_arc .nil pass0 (pa_cons (pv 3) (pa_cons (pv 1) pa_nil)))))
            (pss_one ps_never)
            pss_nil))))), ?_⟩
    obtain ⟨p, as, es, n, rfl, hp, hE, l1, l8, hb, k⟩ := h
    have al : as.length = es.length := Paired.length hE
    refine q_when (b := false) (et_is (et_or (et_not (et_B (ev_isi (t := "list") (b := true) (ev_var rfl) ev_c (fun H1 e => .base (.lst (e _ _ hp))) (by decide +kernel)))) (fun _ => et_not (et_test (ev_chain ev_c (ev_is (ev_len (ev_var rfl) (SqL.of hp)) (by rw [List.length_map, al])) ev_c rv_le rv_le)))) ?_) (fun z => nomatch z) (fun _ H1 e1 => ?_)
    · rw [decide_eq_true (show (1 : Int) ≤ (es.length : Int) by omega), decide_eq_true (show (es.length : Int) ≤ 8 by omega)]
      rfl
    refine ⟨_, rfl, p, _, rfl, SqL.of (e1 _ _ hp), ?_⟩
    refine for_enum (K := K) (a := p) (xs := as.map V.ref) (fun i σ H' => ∃ y2 y3 : Option V, σ = [some (.ref p), some (.int n), y2, y3] ∧ Ex H H') ⟨_, _, rfl, e1⟩ (fun i σ H' ⟨_, _, _, h⟩ => SqL.of (h _ _ hp)) (fun i x t σ H2 hx hP nt => ?_) (fun σ H2 ⟨_, _, _, h⟩ => k H2 h)
    obtain ⟨y2, y3, rfl, e2⟩ := hP
    rw [List.getElem?_map] at hx
    obtain ⟨a, ha, rfl⟩ := Option.map_eq_some_iff.mp hx
    obtain ⟨f, hf, hft⟩ := paired_get hE ha
    have bf := hb f (List.mem_of_getElem? hf)
    have xt : Ex H2 (upd H2 t (.tup [.int (i : Nat), .ref a])) := Ex.new nt
    refine ⟨t, _, rfl, SqT.of upd_same, rfl, _, _, rfl, _, _, rfl, rfl, ?_⟩
    refine s_when (b := false) (et_is (et_not (et_B (b := true) (ev_fn (sp := sp_is_arc K) (ea_cons (ev_var rfl) (ea_cons (ev_var rfl) ea_nil)) fun H3 e3 Q3 q3 => ⟨a, f.1, f.2, n, rfl, tups_E ((e2.trans xt).trans e3) _ _ hft, bf.1, bf.2.1, bf.2.2.1, bf.2.2.2, q3⟩))) rfl) (fun z => nomatch z) (fun _ H3 e3 => ⟨_, _, rfl, (e2.trans xt).trans e3⟩)
-- DEF net_table

def sp_net_table (K : PySem.W.Frag) : Sp := fun vs H Q _ => ∃ (p q : Addr) (as bs : List Addr) (es qs : Gr.Edges), vs = [.ref p, .ref q] ∧ H p = some (.lst (as.map V.ref)) ∧ EdgesAt H as es ∧ H q = some (.lst (bs.map V.ref)) ∧ EdgesAt H bs qs ∧ Tree es ∧ 1 ≤ qs.length ∧ qs.length ≤ 8 ∧ (∀ e ∈ qs, 0 ≤ e.1 ∧ e.1 ≤ es.length ∧ 0 ≤ e.2 ∧ e.2 ≤ es.length) ∧
  ∀ c cs H', H c = none → (∀ a ∈ cs, H a = none) → c ∉ cs → Ex H H' → Tab H' c cs (netT es qs) → Q (.ref c) H'

theorem ok_net_table (T : Txt K mg) : FnOk P w K mg base CX0 5 T.f_net_table T.fd_net_table ["ends", "arcs"] (sp_net_table K) := by
  refine Fun.ok T.F_net_table sc_net_table (fun vs H Q E h => ?_) (fun cdv A outer s H vs Q E hr h => ?_)
  · obtain ⟨_, _, _, _, _, _, rfl, _⟩ := h; rfl
  · refine ⟨_, (pss_cons (ps_expr (pe_call (ok_check_ends T) hr (by rfl) T.g_check_ends T.k_check_ends T.b_check_ends .nil pass0 (pa_cons (pv 0) pa_nil)))
      (pss_cons (ps_expr (pe_call (ok_check_arcs T) hr (by rfl) T.g_check_arcs T.k_check_arcs T.b_check_arcs .nil pass0 (pa_cons (pv 1) (pa_cons (pe_op op_add (pe_callB (id := "len") (r := rLenS K) call_len_seq (by rfl) T.n_len PySem.boot_len (pa_cons (pv 0) pa_nil)) pe_int) pa_nil))))
      (pss_cut (ps_set (i := 2) sc_net_table.nd rfl (by first | exact Or.inl rfl | exact Or.inr rfl) (pe_lst pa_nil))
      (pss_cons (ps_for PassesOwn.never rfl (pi_range1 (by rfl) T.n_range (pa_cons (pe_callB (id := "len") (r := rLenS K) call_len_seq (by rfl) T.n_len PySem.boot_len (pa_cons (pv 0) pa_nil)) pa_nil)) (pg_name (i := 3) sc_net_table.nd rfl (by first | exact Or.inl rfl | exact Or.inr rfl))
        (pss_cut (ps_set (i := 4) sc_net_table.nd rfl (by first | exact Or.inl rfl | exact Or.inr rfl) (pe_call (ok_first_side T) (hr.mono (by decide)) (by rfl) T.g_first_side T.k_first_side T.b_first_side .nil pass0 (pa_cons (pv 0) (pa_cons (pv 3) pa_nil))))
          (pss_one (ps_expr (pe_bm PySem.F.plainAttrs_list PySem.F.slot_list_append PySem.F.type_list_append mt_append (pv 2) (pa_cons (pe_lc (own := [("start", 5), ("stop", 6)]) (wi := iList K _) (g := gTup K 2 (gCons (gName 5) (gCons (gName 6) gNil))) (tt := tYes) rfl sc_net_table.nd (pi_list (pv 1)) (blkOk_by (N := ["ends", "arcs", "told", "at", "sides", "start", "stop"]) (sc := (defScope s_net_table)) (by decide +kernel)) (fun _ _ _ _ _ => (pg_tup rfl (pgs_cons (pg_name (i := 5) sc_net_table.nd rfl (Or.inl rfl)) (pgs_cons (pg_name (i := 6) sc_net_table.nd rfl (Or.inl rfl)) pgs_nil)))) (fun _ _ _ _ _ => pts_nil) (fun _ _ _ _ _ => (pe_op op_sub (pe_ix (r := rIxL K) ix_list (pv 4) (pv 5) (fun _ _ => rfl)) (pe_ix (r := rIxL K) ix_list (pv 4) (pv 6) (fun _ _ => rfl))))) pa_nil))))))
      (pss_one (ps_ret (pv 2))))))), ?_⟩
    obtain ⟨p, q, as, bs, es, qs, rfl, hp, hE, hq, hA, ⟨l1, l8, hb, hT⟩, m1, m8, hqb, k⟩ := h
    have al : as.length = es.length := Paired.length hE
    refine ⟨_, rfl, p, as, es, rfl, hp, hE, l1, l8, hb, hT, fun H1 e1 => ?_⟩
    refine q_drop (σ := [some (.ref p), some (.ref q), none, none, none, none, none]) (v := .non) (ev_fn (sp := sp_check_arcs K) (E := E0) (ea_cons (ev_var (i := 1) rfl) (ea_cons (ev_is (ev_op (ev_len (ev_var (i := 0) rfl) (SqL.of (e1 _ _ hp))) ev_c rv_I0) (show _ = V.int ((es.length + 1 : Nat) : Int) by rw [List.length_map, al, Int.natCast_add]; rfl)) ea_nil)) fun H2 e2 Q2 q2 => ⟨q, bs, qs, ((es.length + 1 : Nat) : Int), rfl, (e1.trans e2) _ _ hq, EdgesAt.mono (tups_E (e1.trans e2)) hA, m1, m8, fun f hf => by have := hqb f hf; omega, fun H3 e3 => q2 H3 e3⟩) fun H2 e2 => ?_
    have e12 := e1.trans e2
    refine ⟨fun σ' H' => ∃ pt, σ' = [some (.ref p), some (.ref q), some (.ref pt), none, none, none, none] ∧ Ex H H' ∧ H pt = none ∧ H' pt = some (.lst []), ?_, ?_⟩
    · exact s_asgL (el_lst (vs := []) ea_nil (Nat.le_of_ble_eq_true rfl)) fun pt H3 nt e3 h3 => ⟨pt, rfl, e12.trans e3, fresh_back e12 nt, h3⟩
    rintro σ' H3 ⟨pt, rfl, e3, nt, h3⟩
    refine q_forR1 (n := (es.length : Int)) (ea_cons (ev_is (ev_len (ev_var (i := 0) rfl) (SqL.of (e3 _ _ hp))) (by rw [List.length_map, al])) ea_nil) (by omega) (fun i σ H' => ∃ (cs : List Addr) (y3 y4 y5 y6 : Option V), σ = [some (.ref p), some (.ref q), some (.ref pt), y3, y4, y5, y6] ∧ Ex H H' ∧ H' pt = some (.lst (cs.map V.ref)) ∧ RowsAt H' cs ((List.range i).map fun i => qs.map fun f => sd es i f.1 - sd es i f.2) ∧ (∀ a ∈ cs, H a = none) ∧ pt ∉ cs) (fun H4 e4 => ⟨[], _, _, _, _, rfl, e3.trans e4, e4 _ _ h3, .nil, fun a ha => by simp at ha, by simp⟩) (fun i σ H4 hi hP => ?_) (fun σ H4 hP => ?_)
    rotate_left
    · obtain ⟨cs, y3, y4, y5, y6, rfl, e4, h4, hr, nc, npt⟩ := hP
      rw [Int.toNat_natCast] at hr
      exact ⟨_, rfl, k pt cs H4 nt nc npt e4 ⟨h4, hr⟩⟩
    obtain ⟨cs, y3, y4, y5, y6, rfl, e4, h4, hr, nc, npt⟩ := hP
    have hin : i < es.length := by omega
    have hie : es[i]? = some es[i] := List.getElem?_eq_getElem hin
    refine ⟨fun σ' H' => ∃ ps, σ' = [some (.ref p), some (.ref q), some (.ref pt), some (.int (i : Int)), some (.ref ps), y5, y6] ∧ Ex H4 H' ∧ H' ps = some (.lst ((grpL (es.length + 1) (sd es i)).map V.int)), ?_, ?_⟩
    · refine ⟨_, rfl, _, rfl, p, as, es, i, es[i], rfl, e4 _ _ hp, EdgesAt.mono (tups_E e4) hE, l8, hb, hie, fun ps H5 _ e5 h5 => ⟨ps, rfl, e5, ?_⟩⟩
      rw [h5]
      unfold sd
      rw [hie]
      rfl
    rintro σ' H5 ⟨ps, rfl, e5, h5⟩
    refine s_appL (l := pt) (ys := (qs.map fun f => sd es i f.1 - sd es i f.2).map V.int) (e5 _ _ h4) (ev_var rfl) (el_pairs (K := K) (n := 1) (fun f => sd es i f.1 - sd es i f.2) rfl ((e4.trans e5) _ _ hq) (EdgesAt.mono (tups_E (e4.trans e5)) hA) (by omega) (fun u v => rfl) fun f H6 hf e6 => ?_) ?_ fun u H6 nu e6 hu => ?_
    · have bf := hqb f hf
      exact ev_op (ev_op (ev_var rfl) (ev_var rfl) (rv_ixL (SqL.of (e6 _ _ h5)) (grp_at bf.1 (by omega)))) (ev_op (ev_var rfl) (ev_var rfl) (rv_ixL (SqL.of (e6 _ _ h5)) (grp_at bf.2.2.1 (by omega)))) rv_I0
    · have := Paired.length hr
      rw [List.length_map, List.length_range] at this
      rw [List.length_map]
      omega
    · have e46 := e5.trans e6
      have nupt : u ≠ pt := fun z => by
        have := e5 _ _ h4
        rw [← z, nu] at this
        cases this
      refine ⟨cs ++ [u], _, _, _, _, rfl, Ex.mut (e4.trans e46) nt, ?_, ?_, fun a ha => ?_, fun ha => ?_⟩
      · rw [upd_same, List.map_append]
        rfl
      · rw [List.range_succ, List.map_append]
        have npt2 : ∀ a ∈ cs ++ [u], a ≠ pt := fun a ha => by
          rcases List.mem_append.mp ha with h | h
          · exact fun z => npt (by rw [← z]; exact h)
          · rw [List.mem_singleton.mp h]
            exact nupt
        refine rows_but (paired_snoc (hr.ex e46) hu) fun a ha o h => ?_
        rw [upd_ne (npt2 a ha)]
        exact h
      · rcases List.mem_append.mp ha with h | h
        · exact nc a h
        · rw [List.mem_singleton.mp h]
          exact fresh_back (e4.trans e5) nu
      · rcases List.mem_append.mp ha with h | h
        · exact npt h
        · exact nupt (List.mem_singleton.mp h).symm
-- DEF law
theorem dp_rows {K : PySem.W.Frag} {H : Hp} : ∀ {as : List Addr} {rows : List (List Int)}, RowsAt H as rows → DpAll K H (as.map V.ref) (rows.map fun r => PyData.list (r.map PyData.int))
  | _, _, .nil => .nil
  | _, _, .cons h t => .cons (.lst (SqL.of h) (dpAll_ints _)) (dp_rows t)
theorem canLay_rows : ∀ rows : List (List Int), PyData.canLayAll0 (rows.map fun r => PyData.list (r.map PyData.int)) = true
  | [] => rfl
  | r :: rs => by
    show (PyData.canLayAll0 (r.map PyData.int) && PyData.canLayAll0 (rs.map fun r => PyData.list (r.map PyData.int))) = true
    rw [canLay_ints, canLay_rows rs]
    rfl
theorem depth_rows : ∀ rows : List (List Int), PyData.depthAll (rows.map fun r => PyData.list (r.map PyData.int)) ≤ 1
  | [] => Nat.zero_le _
  | r :: rs => by
    show max (PyData.depthAll (r.map PyData.int) + 1) (PyData.depthAll (rs.map fun r => PyData.list (r.map PyData.int))) ≤ 1
    have := depth_rows rs
    rw [depth_ints]
    omega
theorem rv_neT {K : PySem.W.Frag} {H : Hp} {p q : Addr} {as bs : List Addr} {rows : List (List Int)} (hp : Tab H p as rows) (hq : Tab H q bs rows) : RV (rNeD K) (.ref p) (.ref q) H (.bl false) := fun H1 e Q k => by
  have sh : SeqAt.shaped (.list (rows.map fun r => PyData.list (r.map PyData.int))) = true := shaped_list (canLay_rows rows) (Nat.le_trans (depth_rows rows) (by decide))
  refine ⟨_, _, .lst (SqL.of (e _ _ hp.1)) (dp_rows (hp.2.ex e)), .lst (SqL.of (e _ _ hq.1)) (dp_rows (hq.2.ex e)), sh, sh, ?_⟩
  rw [SeqAt.eqv_refl _ (SeqAt.canLay_of_shaped sh)]
  exact k H1 (Ex.refl _)
theorem cutV_ints (ns : List Int) (lo hi : Option Int) : ∃ zs : List Int, cutV (ns.map V.int) lo hi = zs.map V.int := by
  refine ⟨(ns.drop (HT.sIx (ns.map V.int).length 0 lo)).take (HT.sIx (ns.map V.int).length (ns.map V.int).length hi - HT.sIx (ns.map V.int).length 0 lo), ?_⟩
  unfold cutV
  rw [List.map_take, List.map_drop]
def EvR (te : TE) (σ : L2.St) (H : Hp) (rows : List (List Int)) : Prop := ∀ H1, Ex H H1 → ∀ Q : VK, (∀ p as H2, Ex H1 H2 → Tab H2 p as rows → Q (.ref p) H2) → te σ H1 Q
theorem rv_eqT {K : PySem.W.Frag} {H : Hp} {p q : Addr} {as bs : List Addr} {rows : List (List Int)} (hp : Tab H p as rows) (hq : Tab H q bs rows) : RV (rEqD K) (.ref p) (.ref q) H (.bl true) := fun H1 e Q k => by
  have sh : SeqAt.shaped (.list (rows.map fun r => PyData.list (r.map PyData.int))) = true := shaped_list (canLay_rows rows) (Nat.le_trans (depth_rows rows) (by decide))
  refine ⟨_, _, .lst (SqL.of (e _ _ hp.1)) (dp_rows (hp.2.ex e)), .lst (SqL.of (e _ _ hq.1)) (dp_rows (hq.2.ex e)), sh, sh, ?_⟩
  rw [SeqAt.eqv_refl _ (SeqAt.canLay_of_shaped sh)]
  exact k H1 (Ex.refl _)
theorem ev_eqR {K : PySem.W.Frag} {ta tb : TE} {σ : L2.St} {H : Hp} {rows : List (List Int)} (ha : EvR ta σ H rows) (hb : EvR tb σ H rows) : Ev (tOp (rEqD K) ta tb) σ H (.bl true) := fun H1 e Q k =>
  ha H1 e _ fun p as H2 e2 hp => hb H2 (e.trans e2) _ fun q bs H3 e3 hq => rv_eqT (hp.ex e3) hq H3 (Ex.refl _) Q fun H4 e4 => k H4 ((e2.trans e3).trans e4)

def EvE (te : TE) (σ : L2.St) (H : Hp) (es : Gr.Edges) : Prop := ∀ H1, Ex H H1 → ∀ Q : VK, (∀ p as H2, Ex H1 H2 → H2 p = some (.lst (as.map V.ref)) → EdgesAt H2 as es → Q (.ref p) H2) → te σ H1 Q
theorem ee_two {t1 t2 : TE} {σ : L2.St} {H : Hp} {a b c d : Int} (h1 : EvU t1 σ H [.int a, .int b]) (h2 : EvU t2 σ H [.int c, .int d]) : EvE (tLst (tCons t1 (tCons t2 tNil))) σ H [(a, b), (c, d)] := fun H1 e Q k =>
  h1 H1 e _ fun x G nx ex hx => h2 G (e.trans ex) _ fun y G2 ny ey hy => ⟨(by show 2 ≤ sizeLine; decide), fun L nL => k L [x, y] _ ((ex.trans ey).trans (Ex.new nL)) upd_same (.cons ((ey.trans (Ex.new nL)) _ _ hx) (.cons (Ex.new nL _ _ hy) .nil))⟩
theorem ee_three {t1 t2 t3 : TE} {σ : L2.St} {H : Hp} {a b c d f g : Int} (h1 : EvU t1 σ H [.int a, .int b]) (h2 : EvU t2 σ H [.int c, .int d]) (h3 : EvU t3 σ H [.int f, .int g]) : EvE (tLst (tCons t1 (tCons t2 (tCons t3 tNil)))) σ H [(a, b), (c, d), (f, g)] := fun H1 e Q k =>
  h1 H1 e _ fun x G nx ex hx => h2 G (e.trans ex) _ fun y G2 ny ey hy => h3 G2 ((e.trans ex).trans ey) _ fun z G3 nz ez hz => ⟨(by show 3 ≤ sizeLine; decide), fun L nL => k L [x, y, z] _ (((ex.trans ey).trans ez).trans (Ex.new nL)) upd_same (.cons (((ey.trans ez).trans (Ex.new nL)) _ _ hx) (.cons ((ez.trans (Ex.new nL)) _ _ hy) (.cons (Ex.new nL _ _ hz) .nil)))⟩
theorem er_rows2 {t1 t2 : TE} {σ : L2.St} {H : Hp} {r1 r2 : List Int} (h1 : EvL t1 σ H (r1.map V.int)) (h2 : EvL t2 σ H (r2.map V.int)) : EvR (tLst (tCons t1 (tCons t2 tNil))) σ H [r1, r2] := fun H1 e Q k =>
  h1 H1 e _ fun x G nx ex hx => h2 G (e.trans ex) _ fun y G2 ny ey hy => ⟨(by show 2 ≤ sizeLine; decide), fun L nL => k L [x, y] _ ((ex.trans ey).trans (Ex.new nL)) ⟨upd_same, .cons ((ey.trans (Ex.new nL)) _ _ hx) (.cons (Ex.new nL _ _ hy) .nil)⟩⟩
theorem er_net {K : PySem.W.Frag} {E : XK} {ta tb : TE} {σ : L2.St} {H : Hp} {es qs : Gr.Edges} (h : EvE ta σ H es) (g : EvE tb σ H qs) (hT : Tree es) (q1 : 1 ≤ qs.length) (q8 : qs.length ≤ 8) (hb : ∀ e ∈ qs, 0 ≤ e.1 ∧ e.1 ≤ es.length ∧ 0 ≤ e.2 ∧ e.2 ≤ es.length) : EvR (tCall (sp_net_table K) [] E (tCons ta (tCons tb tNil))) σ H (netT es qs) := fun H1 e Q k =>
  h H1 e _ fun p as H2 e2 hp hE => g H2 (e.trans e2) _ fun q bs H3 e3 hq hA => ⟨p, q, as, bs, es, qs, rfl, e3 _ _ hp, EdgesAt.mono (tups_E e3) hE, hq, hA, hT, q1, q8, hb, fun c cs H4 _ _ _ e4 h4 => k c cs H4 ((e2.trans e3).trans e4) h4⟩
theorem tree0 : Tree [(0, 1), (2, 1)] := by
  refine ⟨by decide, by decide, by decide, fun a ha b hb S hS => ?_⟩
  have h1 : S 0 = S 1 := hS (0, 1) (.head _)
  have h2 : S 2 = S 1 := hS (2, 1) (.tail _ (.head _))
  have ha := mem_numsTo.mp ha
  have hb := mem_numsTo.mp hb
  have all : ∀ x : Int, 0 ≤ x → x < 3 → S x = S 1 := fun x x0 x1 => by
    rcases (show x = 0 ∨ x = 1 ∨ x = 2 by omega) with rfl | rfl | rfl
    · exact h1
    · rfl
    · exact h2
  rw [all a ha.1 ha.2, all b hb.1 hb.2]
theorem net0 : netT [(0, 1), (2, 1)] [(0, 2), (2, 0), (1, 1)] = [[1, -1, 0], [-1, 1, 0]] := by decide
def edgesD (es : Gr.Edges) : List PyData := es.map fun e => .tuple [.int e.1, .int e.2]
theorem dp_edges {K : PySem.W.Frag} {H : Hp} : ∀ {as : List Addr} {es : Gr.Edges}, EdgesAt H as es → DpAll K H (as.map V.ref) (edgesD es)
  | _, _, .nil => .nil
  | _, _, .cons h t => .cons (.tup (SqT.of h) (.cons (.int _) (.cons (.int _) .nil))) (dp_edges t)
theorem lay_edges : ∀ es : Gr.Edges, PyData.canLayAll0 (edgesD es) = true
  | [] => rfl
  | e :: es => by
    show ((PyData.tuple [.int e.1, .int e.2]).canLay0 && PyData.canLayAll0 (edgesD es)) = true
    rw [lay_edges es]
    rfl
theorem depth_edges : ∀ es : Gr.Edges, PyData.depthAll (edgesD es) ≤ 1
  | [] => Nat.zero_le _
  | e :: es => by
    have := depth_edges es
    show max (PyData.tuple [.int e.1, .int e.2]).depth (PyData.depthAll (edgesD es)) ≤ 1
    have h : (PyData.tuple [.int e.1, .int e.2]).depth = 1 := rfl
    omega
def sp_law (K : PySem.W.Frag) : Sp := fun vs H Q _ => ∃ (a : Addr) (ns : List Int), vs = [.ref a] ∧ SqL K H a (ns.map V.int) ∧ ns.length ≤ 63 ∧ ∀ H', Q (.bl true) H'

theorem ok_law (T : Txt K mg) : FnOk P w K mg base CX0 6 T.f_law T.fd_law ["_law_script"] (sp_law K) := by
  refine Fun.ok T.F_law sc_law (fun vs H Q E h => ?_) (fun cdv A outer s H vs Q E hr h => ?_)
  · obtain ⟨_, _, rfl, _⟩ := h; rfl
  · refine ⟨_, (pss_cons (ps_for PassesOwn.never rfl (pi_list (pe_op op_cat (pe_lst (pa_cons (pe_call (ok__law_cell_at T) (hr.mono (by decide)) (by rfl) T.g__law_cell_at T.k__law_cell_at T.b__law_cell_at .nil pass0 (pa_cons (pv 0) (pa_cons pe_int pa_nil))) pa_nil)) (pe_slice (r := rSlL K) sl_list (pv 0) (po_some pe_int) (po_some pe_int)))) (pg_name (i := 1) sc_law.nd rfl (by first | exact Or.inl rfl | exact Or.inr rfl))
        (pss_cons (ps_set (i := 2) sc_law.nd rfl (by first | exact Or.inl rfl | exact Or.inr rfl) (pe_call (ok__law_source_of T) (hr.mono (by decide)) (by rfl) T.g__law_source_of T.k__law_source_of T.b__law_source_of .nil pass0 (pa_cons (pv 1) pa_nil)))
          (pss_cut (ps_set (i := 3) sc_law.nd rfl (by first | exact Or.inl rfl | exact Or.inr rfl) (pe_op op_add pe_int (pe_call (ok__law_next T) (hr.mono (by decide)) (by rfl) T.g__law_next T.k__law_next T.b__law_next .nil pass0 (pa_cons (pv 2) (pa_cons pe_int pa_nil)))))
          (pss_cut (ps_set (i := 4) sc_law.nd rfl (by first | exact Or.inl rfl | exact Or.inr rfl) (pe_call (ok__law_ends T) (hr.mono (by decide)) (by rfl) T.g__law_ends T.k__law_ends T.b__law_ends .nil pass0 (pa_cons (pv 2) (pa_cons (pv 3) pa_nil))))
          (pss_cut (ps_setLc (i := 5) (own := [("_law_k", 10)]) (g := gName 10) (tt := tYes) rfl sc_law.nd rfl rfl (sw_true rfl rfl rfl (by decide +kernel)) (pi_range1 (by rfl) T.n_range (pa_cons (pe_op op_add pe_int (pe_call (ok__law_next T) (hr.mono (by decide)) (by rfl) T.g__law_next T.k__law_next T.b__law_next .nil pass0 (pa_cons (pv 2) (pa_cons pe_int pa_nil)))) pa_nil)) (blkOk_by (N := ["_law_script", "_law_cell", "_law_source", "_law_many", "_law_ends_here", "_law_arcs", "_law_handed", "_law_due_here", "_law_turn", "_law_said", "_law_k", "_law_row"]) (sc := (defScope s_law)) (by decide +kernel)) (fun _ _ _ _ _ => pg_name (i := 10) sc_law.nd rfl (Or.inl rfl)) (fun _ _ _ _ _ => pts_nil) (fun _ _ _ _ _ => (pe_tup (pa_cons (pe_call (ok__law_next T) (hr.mono (by decide)) (by rfl) T.g__law_next T.k__law_next T.b__law_next .nil pass0 (pa_cons (pv 2) (pa_cons (pe_op op_add (pv 3) pe_int) pa_nil))) (pa_cons (pe_call (ok__law_next T) (hr.mono (by decide)) (by rfl) T.g__law_next T.k__law_next T.b__law_next .nil pass0 (pa_cons (pv 2) (pa_cons (pe_op op_add (pv 3) pe_int) pa_nil))) pa_nil)))))
          (pss_cut (ps_set (i := 6) sc_law.nd rfl (by first | exact Or.inl rfl | exact Or.inr rfl) (pe_lst (pa_cons (pe_callTy (T := "list") (r := rListS K) call_list_of (by rfl) T.n_list (by decide +kernel) (pa_cons (pv 4) pa_nil)) (pa_cons (pe_callTy (T := "list") (r := rListS K) call_list_of (by rfl) T.n_list (by decide +kernel) (pa_cons (pv 5) pa_nil)) pa_nil))))
          (pss_cut (ps_set (i := 7) sc_law.nd rfl (by first | exact Or.inl rfl | exact Or.inr rfl) (pe_call (ok__law_due T) (hr.mono (by decide)) (by rfl) T.g__law_due T.k__law_due T.b__law_due .nil pass0 (pa_cons (pv 4) (pa_cons (pv 5) pa_nil))))
          (pss_one (ps_for PassesOwn.never rfl (pi_range1 (by rfl) T.n_range (pa_cons pe_int pa_nil)) (pg_name (i := 8) sc_law.nd rfl (by first | exact Or.inl rfl | exact Or.inr rfl))
            (pss_cut (ps_set (i := 9) sc_law.nd rfl (by first | exact Or.inl rfl | exact Or.inr rfl) (pe_call (ok_net_table T) hr (by rfl) T.g_net_table T.k_net_table T.b_net_table .nil pass0 (pa_cons (pe_ix (r := rIxL K) ix_list (pv 6) pe_int (fun _ _ => rfl)) (pa_cons (pe_ix (r := rIxL K) ix_list (pv 6) pe_int (fun _ _ => rfl)) pa_nil))))
              (pss_cons (ps_if (PW.pt (pw_or (pt_cmpR (r := rNeD K) (op_neD hr.units) (pv 9) (pv 7) (nomark _)) (pw_or (pt_cmpR (r := rNeD K) (op_neD hr.units) (pv 6) (pe_lst (pa_cons (pv 4) (pa_cons (pv 5) pa_nil))) (nomark _)) (pw_or1 (pt_not (pt_val (pe_callB (id := "all") (r := rAll K) (cr_all rfl) (by rfl) T.n_all (by decide +kernel) (pa_cons (pe_lc (own := [("_law_row", 11)]) (wi := iList K _) (g := gName 11) (tt := tYes) rfl sc_law.nd (pi_list (pv 9)) (blkOk_by (N := ["_law_script", "_law_cell", "_law_source", "_law_many", "_law_ends_here", "_law_arcs", "_law_handed", "_law_due_here", "_law_turn", "_law_said", "_law_k", "_law_row"]) (sc := (defScope s_law)) (by decide +kernel)) (fun _ _ _ _ _ => pg_name (i := 11) sc_law.nd rfl (Or.inl rfl)) (fun _ _ _ _ _ => pts_nil) (fun _ _ _ _ _ => (pe_callB (id := "isinstance") (r := rIsi K) call_isi (by rfl) T.n_isinstance (by decide +kernel) (pa_cons (pv 11) (pa_cons (pe_bltn (v := .ty "list") (by rfl) T.n_list (by decide +kernel) rfl) pa_nil))))) pa_nil))))))))
                (pss_one (ps_ret pe_bl))
                pss_nil)
              (pss_cons (ps_if (pt_not (pt_val (pe_callB (id := "all") (r := rAll K) (cr_all rfl) (by rfl) T.n_all (by decide +kernel) (pa_cons (pe_lc (own := [("_law_row", 11)]) (wi := iList K _) (g := gName 11) (tt := tYes) rfl sc_law.nd (pi_list (pv 9)) (blkOk_by (N := ["_law_script", "_law_cell", "_law_source", "_law_many", "_law_ends_here", "_law_arcs", "_law_handed", "_law_due_here", "_law_turn", "_law_said", "_law_k", "_law_row"]) (sc := (defScope s_law)) (by decide +kernel)) (fun _ _ _ _ _ => pg_name (i := 11) sc_law.nd rfl (Or.inl rfl)) (fun _ _ _ _ _ => pts_nil) (fun _ _ _ _ _ => (pe_call (ok__law_plain T) (hr.mono (by decide)) (by rfl) T.g__law_plain T.k__law_plain T.b__law_plain .nil pass0 (pa_cons (pv 11) pa_nil)))) pa_nil))))
                (pss_one (ps_ret pe_bl))
                pss_nil)
              (pss_one (ps_expr (pe_bm PySem.F.plainAttrs_list PySem.F.slot_list_append PySem.F.type_list_append mt_append (pe_ix (r := rIxL K) ix_list (pv 9) pe_int (fun _ _ => rfl)) (pa_cons pe_int pa_nil))))))))))))))))
      (pss_one (ps_ret (pe_cmpR (r := rEqD K) (op_eqD hr.units) (pe_call (ok_net_table T) hr (by rfl) T.g_net_table T.k_net_table T.b_net_table .nil pass0 (pa_cons (pe_lst (pa_cons (pe_tup (pa_cons pe_int (pa_cons pe_int pa_nil))) (pa_cons (pe_tup (pa_cons pe_int (pa_cons pe_int pa_nil))) pa_nil))) (pa_cons (pe_lst (pa_cons (pe_tup (pa_cons pe_int (pa_cons pe_int pa_nil))) (pa_cons (pe_tup (pa_cons pe_int (pa_cons pe_int pa_nil))) (pa_cons (pe_tup (pa_cons pe_int (pa_cons pe_int pa_nil))) pa_nil)))) pa_nil))) (pe_lst (pa_cons (pe_lst (pa_cons pe_int (pa_cons (pe_un un_neg pe_int) (pa_cons pe_int pa_nil)))) (pa_cons (pe_lst (pa_cons (pe_un un_neg pe_int) (pa_cons pe_int (pa_cons pe_int pa_nil)))) pa_nil))) (nomark _))))), ?_⟩
    obtain ⟨a0, ns, rfl, hS, hlen, q⟩ := h
    refine ⟨_, rfl, a0, ns, 0, rfl, hS, by decide, fun c0 => ⟨(by show 1 ≤ sizeLine; decide), fun p0 np0 => ⟨_, rfl, ?_⟩⟩⟩
    have x0 := Ex.new (o := .lst [V.int c0]) np0
    refine ⟨1, rfl, 8, rfl, a0, _, rfl, ex_l x0 hS, fun p1 np1 => ?_⟩
    obtain ⟨ys, hys⟩ := cutV_ints ns (some 1) (some 8)
    have hyl : ys.length ≤ 63 := by
      have h1 := cutV_length (ns.map V.int) (some 1) (some 8)
      rw [hys, List.length_map, List.length_map] at h1
      omega
    rw [hys]
    have x1 := Ex.new (o := .lst (ys.map V.int)) np1
    refine ⟨p0, p1, _, _, rfl, rfl, x1 _ _ upd_same, upd_same, ?_, fun p2 np2 => ?_⟩
    · have : ([V.int c0].length + (ys.map V.int).length) ≤ 1000 := by
        rw [List.length_map]
        show 1 + ys.length ≤ 1000
        omega
      exact Nat.le_trans this (by decide)
    refine ⟨p2, rfl, ⟨_, SqL.of upd_same⟩, for_list (K := K) (a := p2) (xs := [V.int c0] ++ ys.map V.int) (fun i σ H' => ∃ y1 y2 y3 y4 y5 y6 y7 y8 y9 y10 y11 : Option V, σ = [some (.ref a0), y1, y2, y3, y4, y5, y6, y7, y8, y9, y10, y11] ∧ H' p2 = some (.lst ([V.int c0] ++ ys.map V.int)))
      ⟨_, _, _, _, _, _, _, _, _, _, _, rfl, upd_same⟩ (fun i σ H' _ ⟨_, _, _, _, _, _, _, _, _, _, _, _, h⟩ => SqL.of h) ?_ (fun σ H' _ => ?_)⟩
    rotate_left
    · have tp : ∀ {a b : Int} {σ : L2.St} {H : Hp}, EvU (tTup (tCons (tC (.int a)) (tCons (tC (.int b)) tNil))) σ H [.int a, .int b] := eu_tup (ea_cons ev_c (ea_cons ev_c ea_nil)) (Nat.le_of_ble_eq_true rfl)
      have nt := er_net (K := K) (E := E0) (σ := σ) (H := H') (ee_two (tp (a := 0) (b := 1)) (tp (a := 2) (b := 1))) (ee_three (tp (a := 0) (b := 2)) (tp (a := 2) (b := 0)) (tp (a := 1) (b := 1))) tree0 (by decide) (by decide) (by decide)
      rw [net0] at nt
      exact s_ret (ev_eqR nt (er_rows2 (r1 := [1, -1, 0]) (r2 := [-1, 1, 0]) (el_lst (ea_cons ev_c (ea_cons (ev_un ev_c ru_neg) (ea_cons ev_c ea_nil))) (Nat.le_of_ble_eq_true rfl)) (el_lst (ea_cons (ev_un ev_c ru_neg) (ea_cons ev_c (ea_cons ev_c ea_nil))) (Nat.le_of_ble_eq_true rfl)))) fun H2 _ => q H2
    rintro i x σ H0 hi ⟨y1, y2, y3, y4, y5, y6, y7, y8, y9, y10, y11, rfl, hp2⟩
    obtain ⟨c, rfl⟩ : ∃ c : Int, x = .int c := by
      rcases List.mem_append.mp (List.mem_of_getElem? hi) with h | h
      · exact ⟨c0, by simpa using h⟩
      · obtain ⟨c, _, rfl⟩ := List.mem_map.mp h
        exact ⟨c, rfl⟩
    generalize p2 = pL at hp2 ⊢
    clear hi hyl hys hS hlen x0 x1 np2 np1 np0 p2
    refine ⟨_, rfl, c, rfl, fun s H1 n1 e1 s1 => ?_⟩
    refine ⟨fun σ' H' => ∃ m : Nat, σ' = [some (.ref a0), some (.int c), some (.ref s), some (.int m), y4, y5, y6, y7, y8, y9, y10, y11] ∧ 1 ≤ m ∧ m ≤ 8 ∧ ExB s H1 H' ∧ SrcAt H' s (0 + 1), ?_, ?_⟩
    · refine ⟨_, rfl, s, 8, _, rfl, s1, by decide, by decide, (by unfold Bd; decide), fun f H2 f0 f1 e2 s2 => ⟨_, _, rfl, rfl, (1 + f).toNat, ?_, by omega, by omega, e2, s2⟩⟩
      exact congrArg (fun z : Int => [some (.ref a0), some (.int c), some (.ref s), some (.int z), y4, y5, y6, y7, y8, y9, y10, y11]) (show (1 + f) = ((1 + f).toNat : Int) by omega)
    rintro σ' H2 ⟨m, rfl, m1, m8, e2, s2⟩
    -- ends
    refine ⟨fun σ' H' => ∃ (pe : Addr) (as : List Addr) (es : Gr.Edges), σ' = [some (.ref a0), some (.int c), some (.ref s), some (.int m), some (.ref pe), y5, y6, y7, y8, y9, y10, y11] ∧ es.length = m ∧ Tree es ∧ EdgesAt H' as es ∧ H' pe = some (.lst (as.map V.ref)) ∧ ExB s H2 H' ∧ SrcAt H' s (0 + 1 + 300) ∧ pe ≠ s, ?_, ?_⟩
    · refine ⟨_, rfl, _, rfl, s, _, m, rfl, s2, by omega, by omega, by omega, fun as es p H3 hl hb hc hE hp np e3 s3 => ⟨p, as, es, rfl, by omega, ⟨by omega, by omega, fun e he => by have := hb e he; omega, fun a ha b hb S hS => ?_⟩, hE, hp, e3, s3, s2.ne np⟩⟩
      have ha := mem_numsTo.mp ha
      have hb := mem_numsTo.mp hb
      exact hc S hS a b ha.1 (by omega) hb.1 (by omega)
    rintro σ' H3 ⟨pe, as, es, rfl, el, hTr, hE, hp, e3, s3, nps⟩
    have E3 : Ex H0 H3 := e3.ex n1 (e2.ex n1 e1)
    have hL3 := E3 _ _ hp2
    have nL : pL ≠ s := fun z => by rw [z, n1] at hp2; cases hp2
    clear e1 e2 e3 s1 s2 E3 hp2 n1
    -- arcs
    refine ⟨fun σ' H' => ∃ (pq : Addr) (bs : List Addr) (qs : Gr.Edges), σ' = [some (.ref a0), some (.int c), some (.ref s), some (.int m), some (.ref pe), some (.ref pq), y6, y7, y8, y9, y10, y11] ∧ 1 ≤ qs.length ∧ qs.length ≤ 8 ∧ (∀ e ∈ qs, 0 ≤ e.1 ∧ e.1 ≤ (m : Int) ∧ 0 ≤ e.2 ∧ e.2 ≤ (m : Int)) ∧ EdgesAt H' bs qs ∧ H' pq = some (.lst (bs.map V.ref)) ∧ ExB s H3 H', ?_, ?_⟩
    · refine ⟨_, rfl, s, 8, _, rfl, s3, by omega, by decide, (by unfold Bd; decide), fun f H4 f0 f1 e4 s4 => ⟨_, _, rfl, rfl, ?_⟩⟩
      obtain ⟨w, hw⟩ : ∃ w : Nat, 1 + f = (w : Int) := ⟨(1 + f).toNat, by omega⟩
      refine ⟨(w : Int), (by show [V.int (1 + f)] = _; rw [hw]), by omega, by omega, fun D hD => ?_⟩
      have hDs : D ≠ s := s4.ne hD
      refine lc_range (lo := 0) (n := (w : Int).toNat) (fun i H' => ∃ (bs : List Addr) (qs : List (Int × Int)), H' D = some (.lst (bs.map V.ref)) ∧ EdgesAt H' bs qs ∧ qs.length = i ∧ ExB s H4 H' ∧ SrcAt H' s (0 + 1 + 300 + 1 + 2 * i) ∧ ∀ e ∈ qs, 0 ≤ e.1 ∧ e.1 ≤ (m : Int) ∧ 0 ≤ e.2 ∧ e.2 ≤ (m : Int))
        ⟨[], [], upd_same, .nil, rfl, ExB.of (Ex.new hD), (s4.ex (Ex.new hD)).le (by omega), fun e he => by simp at he⟩ (fun i H5 hi p => ?_) (fun H5 p => ?_)
      · obtain ⟨bs, qs, h1, h2, h3, h4, h5, h6⟩ := p
        have bm : Bd 8000 ((m : Int) + 1) := by
          unfold Bd
          exact Nat.lt_of_lt_of_le (show ((m : Int) + 1).natAbs < 1024 by omega) (by decide +kernel)
        refine ⟨rfl, ?_⟩
        refine ⟨_, rfl, _, rfl, _, _, rfl, rfl, s, _, _, rfl, h5, by omega, by omega, bm, fun f H2 f0 f1 e2 s2 => ?_⟩
        refine ⟨_, rfl, _, rfl, _, _, rfl, rfl, s, _, _, rfl, s2, by omega, by omega, bm, fun g H3 g0 gl e3 s3 => ?_⟩
        refine ⟨(by show 2 ≤ sizeLine; decide), fun t nt => ?_⟩
        have xt : Ex H3 (upd H3 t (.tup [.int f, .int g])) := Ex.new nt
        have e13 := e2.trans e3
        have hD3 := e13 _ _ hDs h1
        have el : bs.length = i := by rw [Paired.length h2, h3]
        refine ⟨_, xt _ _ hD3, small1000 (by rw [List.length_map]; omega), bs ++ [t], qs ++ [(f, g)], ?_, ?_, ?_, ?_, ?_, ?_⟩
        · rw [upd_same, List.map_append]
          rfl
        · exact paired_imp (fun c d h => tups_U (xt _ _ hD3) _ _ h) (paired_snoc (EdgesAt.mono (fun c xs h => xt _ _ (tups_B h5 e13 _ _ h)) h2) (upd_same : upd H3 t (.tup [.int f, .int g]) t = some (.tup [.int f, .int g])))
        · rw [List.length_append, h3]
          rfl
        · refine fun b o nb h => ?_
          rw [upd_ne (ne_of_none h hD)]
          exact xt _ _ (e13 _ _ nb (h4 _ _ nb h))
        · obtain ⟨a1, a2, a3, a4, a5, a6, a7, a8⟩ := s3.ex xt
          exact ⟨a1, a2, a3, by rw [upd_ne hDs.symm]; exact a4, a5, a6, a7, by omega⟩
        · intro e he
          rcases List.mem_append.mp he with q | q
          · exact h6 e q
          · rw [List.mem_singleton.mp q]
            exact ⟨f0, by show f ≤ (m : Int); omega, g0, by show g ≤ (m : Int); omega⟩
      · obtain ⟨bs, qs, h1, h2, h3, h4, h5, h6⟩ := p
        exact ⟨D, bs, qs, rfl, by omega, by omega, h6, h2, h1, e4.trans h4⟩
    rintro σ' H4 ⟨pq, bs, qs, rfl, q1, q8, hqb, hA, hq, e4⟩
    replace hL3 := e4 _ _ nL hL3
    replace hp := e4 _ _ nps hp
    replace hE := EdgesAt.mono (tups_B s3 e4) hE
    clear e4 s3 nps nL
    -- handed
    refine ⟨fun σ' H' => ∃ ph h1 h2, σ' = [some (.ref a0), some (.int c), some (.ref s), some (.int m), some (.ref pe), some (.ref pq), some (.ref ph), y7, y8, y9, y10, y11] ∧ Ex H4 H' ∧ H' ph = some (.lst [.ref h1, .ref h2]) ∧ H' h1 = some (.lst (as.map V.ref)) ∧ H' h2 = some (.lst (bs.map V.ref)), ?_, ?_⟩
    · refine ⟨_, rfl, pe, _, rfl, .inl (SqL.of hp), fun h1 n1 => ⟨_, rfl, pq, _, rfl, .inl (SqL.of (Ex.new n1 _ _ hq)), fun h2 n2 => ⟨(by show 2 ≤ sizeLine; decide), fun ph np => ?_⟩⟩⟩
      have x1 := Ex.new (o := .lst (as.map V.ref)) n1
      have x2 := Ex.new (o := .lst (bs.map V.ref)) n2
      have x3 := Ex.new (o := .lst [V.ref h1, .ref h2]) np
      exact ⟨ph, h1, h2, rfl, (x1.trans x2).trans x3, upd_same, x3 _ _ (x2 _ _ upd_same), x3 _ _ upd_same⟩
    rintro σ' H5 ⟨ph, h1, h2, rfl, e5, hph, hh1, hh2⟩
    have hp5 := e5 _ _ hp
    have hq5 := e5 _ _ hq
    have hE5 := EdgesAt.mono (tups_E e5) hE
    have hA5 := EdgesAt.mono (tups_E e5) hA
    replace hL3 := e5 _ _ hL3
    clear hp hq hE hA e5
    -- due
    refine ⟨fun σ' H' => ∃ pd ds, σ' = [some (.ref a0), some (.int c), some (.ref s), some (.int m), some (.ref pe), some (.ref pq), some (.ref ph), some (.ref pd), y8, y9, y10, y11] ∧ Ex H5 H' ∧ Tab H' pd ds (netT es qs), ?_, ?_⟩
    · exact ⟨_, rfl, _, rfl, pe, pq, as, bs, es, qs, rfl, hp5, hE5, hq5, hA5, by omega, q8, fun c cs H6 e6 h6 => ⟨c, cs, rfl, e6, h6⟩⟩
    rintro σ' H6 ⟨pd, ds, rfl, e6, hD⟩
    refine s_forR1 (n := 2) (ea_cons ev_c ea_nil) (by decide) (fun i σ' H' => ∃ y8 y9 y10 y11 : Option V, σ' = [some (.ref a0), some (.int c), some (.ref s), some (.int m), some (.ref pe), some (.ref pq), some (.ref ph), some (.ref pd), y8, y9, y10, y11] ∧ Ex H6 H') (fun H7 e7 => ⟨_, _, _, _, rfl, e7⟩) (fun i σ' H7 hi hP => ?_) (fun σ' H7 ⟨_, _, _, _, h, e7⟩ => ⟨_, _, _, _, _, _, _, _, _, _, _, h, (e6.trans e7) _ _ hL3⟩)
    obtain ⟨y8, y9, y10, y11, rfl, e7⟩ := hP
    have e57 := e6.trans e7
    have hph7 := e57 _ _ hph
    have TT : netT es qs = netT es qs := rfl
    -- said
    refine ⟨fun σ' H' => ∃ pt ts, σ' = [some (.ref a0), some (.int c), some (.ref s), some (.int m), some (.ref pe), some (.ref pq), some (.ref ph), some (.ref pd), some (.int i), some (.ref pt), y10, y11] ∧ Ex H7 H' ∧ H7 pt = none ∧ (∀ a ∈ ts, H7 a = none) ∧ pt ∉ ts ∧ Tab H' pt ts (netT es qs), ?_, ?_⟩
    · refine s_callN (σ := [some (.ref a0), some (.int c), some (.ref s), some (.int m), some (.ref pe), some (.ref pq), some (.ref ph), some (.ref pd), some (.int i), y9, y10, y11]) (ea_cons (ev_op (ev_var (i := 6) rfl) ev_c (rv_ixL (SqL.of hph7) rfl)) (ea_cons (ev_op (ev_var (i := 6) rfl) ev_c (rv_ixL (SqL.of hph7) rfl)) ea_nil)) fun H8 e8 => ?_
      exact ⟨h1, h2, as, bs, es, qs, rfl, (e57.trans e8) _ _ hh1, EdgesAt.mono (tups_E (e57.trans e8)) hE5, (e57.trans e8) _ _ hh2, EdgesAt.mono (tups_E (e57.trans e8)) hA5, hTr, q1, q8, fun e he => by have := hqb e he; omega, fun t ts H9 nt nts ntt e9 h9 => ⟨t, ts, rfl, e8.trans e9, fresh_back e8 nt, fun a ha => fresh_back e8 (nts a ha), ntt, h9⟩⟩
    rintro σ' H8 ⟨pt, ts, rfl, e8, npt, nts, ntt, hT8⟩
    have lN : (netT es qs).length = es.length := by unfold netT; rw [List.length_map, List.length_range]
    have lR : ∀ r ∈ netT es qs, r.length ≤ 100 := fun r hr => by
      unfold netT at hr
      obtain ⟨j, _, rfl⟩ := List.mem_map.mp hr
      rw [List.length_map]
      omega
    have lt : ts.length = es.length := by rw [Paired.length hT8.2, lN]
    have l8 := hTr.2.1
    have l1 := hTr.1
    have e58 := e57.trans e8
    have ne1 : Ev (tOp (rNeD K) (tVar 6) (tLst (tCons (tVar 4) (tCons (tVar 5) tNil)))) [some (.ref a0), some (.int c), some (.ref s), some (.int m), some (.ref pe), some (.ref pq), some (.ref ph), some (.ref pd), some (.int i), some (.ref pt), y10, y11] H8 (.bl false) := fun G g Q1 k1 => ⟨_, rfl, _, rfl, _, rfl, (by show 2 ≤ sizeLine; decide), fun L nL => by
      have xL := Ex.new (o := .lst [V.ref pe, .ref pq]) nL
      have eG := (e58.trans g).trans xL
      have sh : SeqAt.shaped (.list [PyData.list (edgesD es), .list (edgesD qs)]) = true := shaped_list (by
        show (PyData.canLayAll0 (edgesD es) && (PyData.canLayAll0 (edgesD qs) && true)) = true
        rw [lay_edges, lay_edges]
        rfl) (by
        have d1 := depth_edges es
        have d2 := depth_edges qs
        show max (PyData.depthAll (edgesD es) + 1) (max (PyData.depthAll (edgesD qs) + 1) 0) ≤ 60
        omega)
      refine ⟨_, _, .lst (SqL.of (eG _ _ hph)) (.cons (.lst (SqL.of (eG _ _ hh1)) (dp_edges (EdgesAt.mono (tups_E eG) hE5))) (.cons (.lst (SqL.of (eG _ _ hh2)) (dp_edges (EdgesAt.mono (tups_E eG) hA5))) .nil)), .lst (SqL.of upd_same) (.cons (.lst (SqL.of (eG _ _ hp5)) (dp_edges (EdgesAt.mono (tups_E eG) hE5))) (.cons (.lst (SqL.of (eG _ _ hq5)) (dp_edges (EdgesAt.mono (tups_E eG) hA5))) .nil)), sh, sh, ?_⟩
      rw [SeqAt.eqv_refl _ (SeqAt.canLay_of_shaped sh)]
      exact k1 _ xL⟩
    refine q_when (b := false) (et_is (et_or (a := false) (b := false) (et_test (ev_op (ev_var rfl) (ev_var rfl) (rv_neT hT8 (hD.ex (e7.trans e8))))) (fun _ => et_is (et_or (a := false) (b := false) (et_test ne1) (fun _ => et_is (et_not (et_B (b := true) (ev_all (el_yes (a := pt) rfl hT8.1 (by rw [List.length_map]; omega) (fun x G hx g => by
      obtain ⟨a, ha, rfl⟩ := List.mem_map.mp hx
      obtain ⟨r, hr, hh⟩ := paired_mem hT8.2 ha
      exact ev_isi (t := "list") (b := true) (ev_var rfl) ev_c (fun G2 g2 => .base (.lst (g2 _ _ (g _ _ hh)))) (by decide +kernel)) (fun x => rfl))))) rfl)) rfl)) rfl) (fun z => nomatch z) (fun _ H9 e9 => ?_)
    have hT9 := hT8.ex e9
    refine q_when (b := false) (et_is (et_not (et_B (b := true) (ev_all (el_yes (a := pt) rfl hT9.1 (by rw [List.length_map]; omega) (fun x G hx g => by
      obtain ⟨a, ha, rfl⟩ := List.mem_map.mp hx
      obtain ⟨r, hr, hh⟩ := paired_mem hT9.2 ha
      exact ev_fn (sp := sp__law_plain K) (ea_cons (ev_var rfl) ea_nil) fun G2 g2 Q2 q2 => ⟨a, r, rfl, (g.trans g2) _ _ hh, lR r hr, q2⟩) (fun x => rfl))))) rfl) (fun z => nomatch z) (fun _ H10 e10 => ?_)
    have hT10 := hT9.ex e10
    have h0 : 0 < ts.length := by omega
    obtain ⟨r0, hr0, ht0⟩ := paired_get hT10.2 (List.getElem?_eq_getElem h0)
    refine s_app (l := ts[0]) ht0 (ev_op (ev_var rfl) ev_c (rv_ixL (SqL.of hT10.1) (atI_nat (j := 0) (by rw [List.getElem?_map, List.getElem?_eq_getElem h0]; rfl)))) ev_c (by rw [List.length_map]; have := lR r0 (List.mem_of_getElem? hr0); omega) fun H11 e11 => ?_
    exact ⟨_, _, _, _, rfl, e7.trans (Ex.mut (((e8.trans e9).trans e10).trans e11) (nts _ (List.getElem_mem h0)))⟩
end
/-! ### what the top has written; the end -/
theorem all_mk {P : Program} {w : World} {K : PySem.W.Frag} {h : Heap} {mg : Str → Option Value} {fa : Addr} (X : K.In h) (G : h.Ns mainGlobals mg) (hfa : mg "law" = some (.ref fa))
    {f1 : Addr} {od1 an1 : Option Addr} {sl1 : Array (Option Value)} {oc1 kV1 dc1 pm1 cd1 ct1 : Value}
    (a1 : PySem.W.nsIn K mainGlobals "is_whole" = some (some (.ref f1))) (l1 : K.lookup f1 = some ⟨oc1, od1, .func (PySem.W.fnOf "is_whole" "is_whole" (defArgs s_is_whole) (defBody s_is_whole) (defScope s_is_whole) (.none) kV1 dc1 pm1 an1 cd1 ct1), sl1⟩) (c1 : PySem.W.codeIn K cd1 "is_whole" = true) (k1 : PySem.W.keepIn K (.ref f1) = true)
    {f2 : Addr} {od2 an2 : Option Addr} {sl2 : Array (Option Value)} {oc2 kV2 dc2 pm2 cd2 ct2 : Value}
    (a2 : PySem.W.nsIn K mainGlobals "is_place" = some (some (.ref f2))) (l2 : K.lookup f2 = some ⟨oc2, od2, .func (PySem.W.fnOf "is_place" "is_place" (defArgs s_is_place) (defBody s_is_place) (defScope s_is_place) (.none) kV2 dc2 pm2 an2 cd2 ct2), sl2⟩) (c2 : PySem.W.codeIn K cd2 "is_place" = true) (k2 : PySem.W.keepIn K (.ref f2) = true)
    {f3 : Addr} {od3 an3 : Option Addr} {sl3 : Array (Option Value)} {oc3 kV3 dc3 pm3 cd3 ct3 : Value}
    (a3 : PySem.W.nsIn K mainGlobals "net_table" = some (some (.ref f3))) (l3 : K.lookup f3 = some ⟨oc3, od3, .func (PySem.W.fnOf "net_table" "net_table" (defArgs s_net_table) (defBody s_net_table) (defScope s_net_table) (.none) kV3 dc3 pm3 an3 cd3 ct3), sl3⟩) (c3 : PySem.W.codeIn K cd3 "net_table" = true) (k3 : PySem.W.keepIn K (.ref f3) = true)
    {f4 : Addr} {od4 an4 : Option Addr} {sl4 : Array (Option Value)} {oc4 kV4 dc4 pm4 cd4 ct4 : Value}
    (a4 : PySem.W.nsIn K mainGlobals "check_ends" = some (some (.ref f4))) (l4 : K.lookup f4 = some ⟨oc4, od4, .func (PySem.W.fnOf "check_ends" "check_ends" (defArgs s_check_ends) (defBody s_check_ends) (defScope s_check_ends) (.none) kV4 dc4 pm4 an4 cd4 ct4), sl4⟩) (c4 : PySem.W.codeIn K cd4 "check_ends" = true) (k4 : PySem.W.keepIn K (.ref f4) = true)
    {f5 : Addr} {od5 an5 : Option Addr} {sl5 : Array (Option Value)} {oc5 kV5 dc5 pm5 cd5 ct5 : Value}
    (a5 : PySem.W.nsIn K mainGlobals "check_arcs" = some (some (.ref f5))) (l5 : K.lookup f5 = some ⟨oc5, od5, .func (PySem.W.fnOf "check_arcs" "check_arcs" (defArgs s_check_arcs) (defBody s_check_arcs) (defScope s_check_arcs) (.none) kV5 dc5 pm5 an5 cd5 ct5), sl5⟩) (c5 : PySem.W.codeIn K cd5 "check_arcs" = true) (k5 : PySem.W.keepIn K (.ref f5) = true)
    {f6 : Addr} {od6 an6 : Option Addr} {sl6 : Array (Option Value)} {oc6 kV6 dc6 pm6 cd6 ct6 : Value}
    (a6 : PySem.W.nsIn K mainGlobals "is_arc" = some (some (.ref f6))) (l6 : K.lookup f6 = some ⟨oc6, od6, .func (PySem.W.fnOf "is_arc" "is_arc" (defArgs s_is_arc) (defBody s_is_arc) (defScope s_is_arc) (.none) kV6 dc6 pm6 an6 cd6 ct6), sl6⟩) (c6 : PySem.W.codeIn K cd6 "is_arc" = true) (k6 : PySem.W.keepIn K (.ref f6) = true)
    {f7 : Addr} {od7 an7 : Option Addr} {sl7 : Array (Option Value)} {oc7 kV7 dc7 pm7 cd7 ct7 : Value}
    (a7 : PySem.W.nsIn K mainGlobals "joined" = some (some (.ref f7))) (l7 : K.lookup f7 = some ⟨oc7, od7, .func (PySem.W.fnOf "joined" "joined" (defArgs s_joined) (defBody s_joined) (defScope s_joined) (.none) kV7 dc7 pm7 an7 cd7 ct7), sl7⟩) (c7 : PySem.W.codeIn K cd7 "joined" = true) (k7 : PySem.W.keepIn K (.ref f7) = true)
    {f8 : Addr} {od8 an8 : Option Addr} {sl8 : Array (Option Value)} {oc8 kV8 dc8 pm8 cd8 ct8 : Value}
    (a8 : PySem.W.nsIn K mainGlobals "first_side" = some (some (.ref f8))) (l8 : K.lookup f8 = some ⟨oc8, od8, .func (PySem.W.fnOf "first_side" "first_side" (defArgs s_first_side) (defBody s_first_side) (defScope s_first_side) (.none) kV8 dc8 pm8 an8 cd8 ct8), sl8⟩) (c8 : PySem.W.codeIn K cd8 "first_side" = true) (k8 : PySem.W.keepIn K (.ref f8) = true)
    {f9 : Addr} {od9 an9 : Option Addr} {sl9 : Array (Option Value)} {oc9 kV9 dc9 pm9 cd9 ct9 : Value}
    (a9 : PySem.W.nsIn K mainGlobals "_law_source_of" = some (some (.ref f9))) (l9 : K.lookup f9 = some ⟨oc9, od9, .func (PySem.W.fnOf "_law_source_of" "_law_source_of" (defArgs s__law_source_of) (defBody s__law_source_of) (defScope s__law_source_of) (.none) kV9 dc9 pm9 an9 cd9 ct9), sl9⟩) (c9 : PySem.W.codeIn K cd9 "_law_source_of" = true) (k9 : PySem.W.keepIn K (.ref f9) = true)
    {f10 : Addr} {od10 an10 : Option Addr} {sl10 : Array (Option Value)} {oc10 kV10 dc10 pm10 cd10 ct10 : Value}
    (a10 : PySem.W.nsIn K mainGlobals "_law_next" = some (some (.ref f10))) (l10 : K.lookup f10 = some ⟨oc10, od10, .func (PySem.W.fnOf "_law_next" "_law_next" (defArgs s__law_next) (defBody s__law_next) (defScope s__law_next) (.none) kV10 dc10 pm10 an10 cd10 ct10), sl10⟩) (c10 : PySem.W.codeIn K cd10 "_law_next" = true) (k10 : PySem.W.keepIn K (.ref f10) = true)
    {f11 : Addr} {od11 an11 : Option Addr} {sl11 : Array (Option Value)} {oc11 kV11 dc11 pm11 cd11 ct11 : Value}
    (a11 : PySem.W.nsIn K mainGlobals "_law_cell_at" = some (some (.ref f11))) (l11 : K.lookup f11 = some ⟨oc11, od11, .func (PySem.W.fnOf "_law_cell_at" "_law_cell_at" (defArgs s__law_cell_at) (defBody s__law_cell_at) (defScope s__law_cell_at) (.none) kV11 dc11 pm11 an11 cd11 ct11), sl11⟩) (c11 : PySem.W.codeIn K cd11 "_law_cell_at" = true) (k11 : PySem.W.keepIn K (.ref f11) = true)
    {f12 : Addr} {od12 an12 : Option Addr} {sl12 : Array (Option Value)} {oc12 kV12 dc12 pm12 cd12 ct12 : Value}
    (a12 : PySem.W.nsIn K mainGlobals "_law_mixed" = some (some (.ref f12))) (l12 : K.lookup f12 = some ⟨oc12, od12, .func (PySem.W.fnOf "_law_mixed" "_law_mixed" (defArgs s__law_mixed) (defBody s__law_mixed) (defScope s__law_mixed) (.none) kV12 dc12 pm12 an12 cd12 ct12), sl12⟩) (c12 : PySem.W.codeIn K cd12 "_law_mixed" = true) (k12 : PySem.W.keepIn K (.ref f12) = true)
    {f13 : Addr} {od13 an13 : Option Addr} {sl13 : Array (Option Value)} {oc13 kV13 dc13 pm13 cd13 ct13 : Value}
    (a13 : PySem.W.nsIn K mainGlobals "_law_ends" = some (some (.ref f13))) (l13 : K.lookup f13 = some ⟨oc13, od13, .func (PySem.W.fnOf "_law_ends" "_law_ends" (defArgs s__law_ends) (defBody s__law_ends) (defScope s__law_ends) (.none) kV13 dc13 pm13 an13 cd13 ct13), sl13⟩) (c13 : PySem.W.codeIn K cd13 "_law_ends" = true) (k13 : PySem.W.keepIn K (.ref f13) = true)
    {f14 : Addr} {od14 an14 : Option Addr} {sl14 : Array (Option Value)} {oc14 kV14 dc14 pm14 cd14 ct14 : Value}
    (a14 : PySem.W.nsIn K mainGlobals "_law_side" = some (some (.ref f14))) (l14 : K.lookup f14 = some ⟨oc14, od14, .func (PySem.W.fnOf "_law_side" "_law_side" (defArgs s__law_side) (defBody s__law_side) (defScope s__law_side) (.none) kV14 dc14 pm14 an14 cd14 ct14), sl14⟩) (c14 : PySem.W.codeIn K cd14 "_law_side" = true) (k14 : PySem.W.keepIn K (.ref f14) = true)
    {f15 : Addr} {od15 an15 : Option Addr} {sl15 : Array (Option Value)} {oc15 kV15 dc15 pm15 cd15 ct15 : Value}
    (a15 : PySem.W.nsIn K mainGlobals "_law_plain" = some (some (.ref f15))) (l15 : K.lookup f15 = some ⟨oc15, od15, .func (PySem.W.fnOf "_law_plain" "_law_plain" (defArgs s__law_plain) (defBody s__law_plain) (defScope s__law_plain) (.none) kV15 dc15 pm15 an15 cd15 ct15), sl15⟩) (c15 : PySem.W.codeIn K cd15 "_law_plain" = true) (k15 : PySem.W.keepIn K (.ref f15) = true)
    {f16 : Addr} {od16 an16 : Option Addr} {sl16 : Array (Option Value)} {oc16 kV16 dc16 pm16 cd16 ct16 : Value}
    (a16 : PySem.W.nsIn K mainGlobals "_law_due" = some (some (.ref f16))) (l16 : K.lookup f16 = some ⟨oc16, od16, .func (PySem.W.fnOf "_law_due" "_law_due" (defArgs s__law_due) (defBody s__law_due) (defScope s__law_due) (.none) kV16 dc16 pm16 an16 cd16 ct16), sl16⟩) (c16 : PySem.W.codeIn K cd16 "_law_due" = true) (k16 : PySem.W.keepIn K (.ref f16) = true)
    {f17 : Addr} {od17 an17 : Option Addr} {sl17 : Array (Option Value)} {oc17 kV17 dc17 pm17 cd17 ct17 : Value}
    (a17 : PySem.W.nsIn K mainGlobals "law" = some (some (.ref f17))) (l17 : K.lookup f17 = some ⟨oc17, od17, .func (PySem.W.fnOf "law" "law" (defArgs s_law) (defBody s_law) (defScope s_law) (.none) kV17 dc17 pm17 an17 cd17 ct17), sl17⟩) (c17 : PySem.W.codeIn K cd17 "law" = true) (k17 : PySem.W.keepIn K (.ref f17) = true)
    (z_all : PySem.W.nsIn K mainGlobals "all" = some none)
    (z_bool : PySem.W.nsIn K mainGlobals "bool" = some none)
    (z_enumerate : PySem.W.nsIn K mainGlobals "enumerate" = some none)
    (z_int : PySem.W.nsIn K mainGlobals "int" = some none)
    (z_isinstance : PySem.W.nsIn K mainGlobals "isinstance" = some none)
    (z_len : PySem.W.nsIn K mainGlobals "len" = some none)
    (z_list : PySem.W.nsIn K mainGlobals "list" = some none)
    (z_range : PySem.W.nsIn K mainGlobals "range" = some none)
    (z_tuple : PySem.W.nsIn K mainGlobals "tuple" = some none)
    {tk_MOST : Tok} (x_MOST : PySem.W.nsIn K mainGlobals "MOST" = some (some (.int 8 tk_MOST)))
    : ∃ fd : FuncData, (∀ (s : Shared) (v : Value), BindsTo s fd ⟨[v], []⟩ [("_law_script", v)]) ∧ ∀ base : Heap, K.In base → base.Ns mainGlobals mg → FnOk P w K mg base CX0 6 fa fd ["_law_script"] (sp_law K) := by
  have e := hfa.symm.trans (PySem.W.mg_of X G a17)
  cases e
  have F1 := fun_mk (st := s_is_whole) l1 c1 k1
  have b1 := F1.binds (ps := ["thing"]) fun _ _ _ _ _ _ us hl => match us, hl with | [_], _ => rfl
  have F2 := fun_mk (st := s_is_place) l2 c2 k2
  have b2 := F2.binds (ps := ["thing", "many"]) fun _ _ _ _ _ _ us hl => match us, hl with | [_, _], _ => rfl
  have F3 := fun_mk (st := s_net_table) l3 c3 k3
  have b3 := F3.binds (ps := ["ends", "arcs"]) fun _ _ _ _ _ _ us hl => match us, hl with | [_, _], _ => rfl
  have F4 := fun_mk (st := s_check_ends) l4 c4 k4
  have b4 := F4.binds (ps := ["thing"]) fun _ _ _ _ _ _ us hl => match us, hl with | [_], _ => rfl
  have F5 := fun_mk (st := s_check_arcs) l5 c5 k5
  have b5 := F5.binds (ps := ["thing", "many"]) fun _ _ _ _ _ _ us hl => match us, hl with | [_, _], _ => rfl
  have F6 := fun_mk (st := s_is_arc) l6 c6 k6
  have b6 := F6.binds (ps := ["thing", "many"]) fun _ _ _ _ _ _ us hl => match us, hl with | [_, _], _ => rfl
  have F7 := fun_mk (st := s_joined) l7 c7 k7
  have b7 := F7.binds (ps := ["groups", "one", "other"]) fun _ _ _ _ _ _ us hl => match us, hl with | [_, _, _], _ => rfl
  have F8 := fun_mk (st := s_first_side) l8 c8 k8
  have b8 := F8.binds (ps := ["ends", "at"]) fun _ _ _ _ _ _ us hl => match us, hl with | [_, _], _ => rfl
  have F9 := fun_mk (st := s__law_source_of) l9 c9 k9
  have b9 := F9.binds (ps := ["_law_cell"]) fun _ _ _ _ _ _ us hl => match us, hl with | [_], _ => rfl
  have F10 := fun_mk (st := s__law_next) l10 c10 k10
  have b10 := F10.binds (ps := ["_law_source", "_law_many"]) fun _ _ _ _ _ _ us hl => match us, hl with | [_, _], _ => rfl
  have F11 := fun_mk (st := s__law_cell_at) l11 c11 k11
  have b11 := F11.binds (ps := ["_law_script", "_law_k"]) fun _ _ _ _ _ _ us hl => match us, hl with | [_, _], _ => rfl
  have F12 := fun_mk (st := s__law_mixed) l12 c12 k12
  have b12 := F12.binds (ps := ["_law_source", "_law_some"]) fun _ _ _ _ _ _ us hl => match us, hl with | [_, _], _ => rfl
  have F13 := fun_mk (st := s__law_ends) l13 c13 k13
  have b13 := F13.binds (ps := ["_law_source", "_law_many"]) fun _ _ _ _ _ _ us hl => match us, hl with | [_, _], _ => rfl
  have F14 := fun_mk (st := s__law_side) l14 c14 k14
  have b14 := F14.binds (ps := ["_law_ends_here", "_law_place"]) fun _ _ _ _ _ _ us hl => match us, hl with | [_, _], _ => rfl
  have F15 := fun_mk (st := s__law_plain) l15 c15 k15
  have b15 := F15.binds (ps := ["_law_row"]) fun _ _ _ _ _ _ us hl => match us, hl with | [_], _ => rfl
  have F16 := fun_mk (st := s__law_due) l16 c16 k16
  have b16 := F16.binds (ps := ["_law_ends_here", "_law_arcs"]) fun _ _ _ _ _ _ us hl => match us, hl with | [_, _], _ => rfl
  have F17 := fun_mk (st := s_law) l17 c17 k17
  have b17 := F17.binds (ps := ["_law_script"]) fun _ _ _ _ _ _ us hl => match us, hl with | [_], _ => rfl
  let T : Txt K mg := {
    f_is_whole := f1, fd_is_whole := _, F_is_whole := F1, g_is_whole := PySem.W.mg_of X G a1, k_is_whole := k1, b_is_whole := b1,
    f_is_place := f2, fd_is_place := _, F_is_place := F2, g_is_place := PySem.W.mg_of X G a2, k_is_place := k2, b_is_place := b2,
    f_net_table := f3, fd_net_table := _, F_net_table := F3, g_net_table := PySem.W.mg_of X G a3, k_net_table := k3, b_net_table := b3,
    f_check_ends := f4, fd_check_ends := _, F_check_ends := F4, g_check_ends := PySem.W.mg_of X G a4, k_check_ends := k4, b_check_ends := b4,
    f_check_arcs := f5, fd_check_arcs := _, F_check_arcs := F5, g_check_arcs := PySem.W.mg_of X G a5, k_check_arcs := k5, b_check_arcs := b5,
    f_is_arc := f6, fd_is_arc := _, F_is_arc := F6, g_is_arc := PySem.W.mg_of X G a6, k_is_arc := k6, b_is_arc := b6,
    f_joined := f7, fd_joined := _, F_joined := F7, g_joined := PySem.W.mg_of X G a7, k_joined := k7, b_joined := b7,
    f_first_side := f8, fd_first_side := _, F_first_side := F8, g_first_side := PySem.W.mg_of X G a8, k_first_side := k8, b_first_side := b8,
    f__law_source_of := f9, fd__law_source_of := _, F__law_source_of := F9, g__law_source_of := PySem.W.mg_of X G a9, k__law_source_of := k9, b__law_source_of := b9,
    f__law_next := f10, fd__law_next := _, F__law_next := F10, g__law_next := PySem.W.mg_of X G a10, k__law_next := k10, b__law_next := b10,
    f__law_cell_at := f11, fd__law_cell_at := _, F__law_cell_at := F11, g__law_cell_at := PySem.W.mg_of X G a11, k__law_cell_at := k11, b__law_cell_at := b11,
    f__law_mixed := f12, fd__law_mixed := _, F__law_mixed := F12, g__law_mixed := PySem.W.mg_of X G a12, k__law_mixed := k12, b__law_mixed := b12,
    f__law_ends := f13, fd__law_ends := _, F__law_ends := F13, g__law_ends := PySem.W.mg_of X G a13, k__law_ends := k13, b__law_ends := b13,
    f__law_side := f14, fd__law_side := _, F__law_side := F14, g__law_side := PySem.W.mg_of X G a14, k__law_side := k14, b__law_side := b14,
    f__law_plain := f15, fd__law_plain := _, F__law_plain := F15, g__law_plain := PySem.W.mg_of X G a15, k__law_plain := k15, b__law_plain := b15,
    f__law_due := f16, fd__law_due := _, F__law_due := F16, g__law_due := PySem.W.mg_of X G a16, k__law_due := k16, b__law_due := b16,
    f_law := fa, fd_law := _, F_law := F17, g_law := PySem.W.mg_of X G a17, k_law := k17, b_law := b17,
    n_all := PySem.W.mg_none_of X G z_all,
    n_bool := PySem.W.mg_none_of X G z_bool,
    n_enumerate := PySem.W.mg_none_of X G z_enumerate,
    n_int := PySem.W.mg_none_of X G z_int,
    n_isinstance := PySem.W.mg_none_of X G z_isinstance,
    n_len := PySem.W.mg_none_of X G z_len,
    n_list := PySem.W.mg_none_of X G z_list,
    n_range := PySem.W.mg_none_of X G z_range,
    n_tuple := PySem.W.mg_none_of X G z_tuple,
    t_MOST := tk_MOST, g_MOST := PySem.W.mg_of X G x_MOST }
  exact ⟨_, fun s v => .of_eq rfl, fun base _ _ => ok_law (base := base) T⟩
end SbE49
open PySem PySem.W PyProof.Rows
set_option maxRecDepth 100000 in
set_option maxHeartbeats 0 in
theorem PySem.Challenge.cw_signbook_k49_tables_of_nets_holds : PySem.Challenge.rw_signbook_k49_tables_of_nets.Holds := by
  w_on; o_law; k_head; (case hw => w_witness2)
  k_fill
  refine L2.walk_of (l := PySem.Challenge.rw_signbook_k49_tables_of_nets) (n := 63) (k := 6) (x := "_law_script") (CX := fun _ => L2.CX0) (sp := fun w => SbE49.sp_law _) rfl (by decide) rfl ⟨rfl, by decide, by decide⟩ (fun w h Y => PySem.W.kIn_of Y) ?F (fun _ _ a ns hl _ hS => ⟨a, ns, rfl, hS, hl, fun _ => rfl⟩) (fun _ _ _ _ _ h => h)
  case F =>
    intro w mg fa h KX G hmg
    refine' SbE49.all_mk KX G hmg ?a1 ?l1 ?c1 ?k1 ?a2 ?l2 ?c2 ?k2 ?a3 ?l3 ?c3 ?k3 ?a4 ?l4 ?c4 ?k4 ?a5 ?l5 ?c5 ?k5 ?a6 ?l6 ?c6 ?k6 ?a7 ?l7 ?c7 ?k7 ?a8 ?l8 ?c8 ?k8 ?a9 ?l9 ?c9 ?k9 ?a10 ?l10 ?c10 ?k10 ?a11 ?l11 ?c11 ?k11 ?a12 ?l12 ?c12 ?k12 ?a13 ?l13 ?c13 ?k13 ?a14 ?l14 ?c14 ?k14 ?a15 ?l15 ?c15 ?k15 ?a16 ?l16 ?c16 ?k16 ?a17 ?l17 ?c17 ?k17 ?z_all ?z_bool ?z_enumerate ?z_int ?z_isinstance ?z_len ?z_list ?z_range ?z_tuple ?x_MOST
    (case a1 => k_is)
    (case l1 => k_is)
    (case c1 => k_is)
    (case k1 => k_is)
    (case a2 => k_is)
    (case l2 => k_is)
    (case c2 => k_is)
    (case k2 => k_is)
    (case a3 => k_is)
    (case l3 => k_is)
    (case c3 => k_is)
    (case k3 => k_is)
    (case a4 => k_is)
    (case l4 => k_is)
    (case c4 => k_is)
    (case k4 => k_is)
    (case a5 => k_is)
    (case l5 => k_is)
    (case c5 => k_is)
    (case k5 => k_is)
    (case a6 => k_is)
    (case l6 => k_is)
    (case c6 => k_is)
    (case k6 => k_is)
    (case a7 => k_is)
    (case l7 => k_is)
    (case c7 => k_is)
    (case k7 => k_is)
    (case a8 => k_is)
    (case l8 => k_is)
    (case c8 => k_is)
    (case k8 => k_is)
    (case a9 => k_is)
    (case l9 => k_is)
    (case c9 => k_is)
    (case k9 => k_is)
    (case a10 => k_is)
    (case l10 => k_is)
    (case c10 => k_is)
    (case k10 => k_is)
    (case a11 => k_is)
    (case l11 => k_is)
    (case c11 => k_is)
    (case k11 => k_is)
    (case a12 => k_is)
    (case l12 => k_is)
    (case c12 => k_is)
    (case k12 => k_is)
    (case a13 => k_is)
    (case l13 => k_is)
    (case c13 => k_is)
    (case k13 => k_is)
    (case a14 => k_is)
    (case l14 => k_is)
    (case c14 => k_is)
    (case k14 => k_is)
    (case a15 => k_is)
    (case l15 => k_is)
    (case c15 => k_is)
    (case k15 => k_is)
    (case a16 => k_is)
    (case l16 => k_is)
    (case c16 => k_is)
    (case k16 => k_is)
    (case a17 => k_is)
    (case l17 => k_is)
    (case c17 => k_is)
    (case k17 => k_is)
    (case z_all => k_is)
    (case z_bool => k_is)
    (case z_enumerate => k_is)
    (case z_int => k_is)
    (case z_isinstance => k_is)
    (case z_len => k_is)
    (case z_list => k_is)
    (case z_range => k_is)
    (case z_tuple => k_is)
    (case x_MOST => k_is)
