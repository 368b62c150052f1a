import PyProof.Rows.All
import Wide.All
import OpenK.AllK
import Wide.FinOn
import PyProof.EqAt
import PyProof.EqKinds
import PyProof.TupleCall
import HandS.ForMost
import HandS.Evl
import HandS.Wide
import HandS.Gcd
import HandS.IsInst
import HandS.Defaults
import HandS.Zip
import HandS.Conv
import HandS.Style
import HandS.TryOnly
import PyProof.ReprRoads
import HandS.Lambda
import HandS.Ends
import HandS.Words
import HandS.Flow
import HandS.Set
import HandS.SetFor
import HandS.Strs
import HandS.SetKeys
import KE.KDictList
import PySem.Challenge.RW_signbook_k68_blocks
set_option Elab.async false
set_option linter.all false
set_option maxRecDepth 100000
set_option maxHeartbeats 2000000
namespace Own
open PySem PySem.Spec PyProof.Rows L2
/-! str and repr of nested lists: where nothing is being shown around (the law's own def, called by the caller) -/
def rShown (K : PySem.W.Frag) : List V → Hp → VK → Prop := fun xs H Q => ∃ a d, xs = [V.ref a] ∧ Dp K H (.ref a) d ∧ d.showable = true ∧ d.hasDict = false ∧ d.depth ≤ 50 ∧ d.shown.length ≤ sizeLine ∧ Q (.str d.shown) H
section
variable {X : Cx}
theorem str_shown (free : X.A.guards = some []) (room : X.A.units + 64 < cLine) : CallR X (.type "str") (rShown X.K) := by
  intro pn s0 sl G ys ws R J rel told
  obtain ⟨b, dd, rfl, hD, showT, noD, hdep, hlen, fin⟩ := told
  obtain ⟨w1, rfl, hw1⟩ := vals1 rel
  cases hw1
  obtain ⟨cs, hreads⟩ := Dp.reads J dd _ _ hD rfl
  refine str_of_reads hreads showT (PyData.noDict_hsm noD) free (by omega) (fun _ _ z => z) (fun g2 tx tk keep => ?_) hlen
  exact ⟨.str dd.shown, G, J.kept (t' := tk) keep, ⟨tx, rfl⟩, fin⟩
theorem repr_shown (free : X.A.guards = some []) (room : X.A.units + 64 < cLine) : CallR X (.builtin "repr") (rShown X.K) := by
  intro pn s0 sl G ys ws R J rel told
  obtain ⟨b, dd, rfl, hD, showT, noD, hdep, hlen, fin⟩ := told
  obtain ⟨w1, rfl, hw1⟩ := vals1 rel
  cases hw1
  obtain ⟨cs, hreads⟩ := Dp.reads J dd _ _ hD rfl
  refine repr_of_reads' hreads showT (PyData.noDict_hsm noD) free (by omega) (fun _ _ z => z) (fun g2 tx tk keep => ?_) hlen
  exact ⟨.str dd.shown, G, J.kept (t' := tk) keep, ⟨tx, rfl⟩, fin⟩
end
/-- what the caller asks of the law's def, at the caller's own place: with that, the promise of the whole -/
def Asked (P : Program) (w : World) (K : PySem.W.Frag) (mg : Str → Option Value) (fa a : Addr) (ns : List Int) (s : Shared) : Prop :=
  ∀ (root : Heap) (G : Hp), K.In root → root.Ns mainGlobals mg → Env0 P w K mg root callerA [] s G → SqL K G a (ns.map V.int) →
    codeAny (model P w) callerA (.call (.ref fa) ⟨[.ref a], []⟩) (CR CX0 [] P w G s (fun v _ => v = .bl true) fun _ _ _ => False) s
theorem asked_all {P : Program} {w : World} {K : PySem.W.Frag} {mg bt : Str → Option Value} {fa a : Addr} {s : Shared} {us : List Value} {ns : List Int} (inK : K.In s.heap) (glob : s.heap.Ns mainGlobals mg) (blt : s.heap.Ns builtinsNs bt)
    (boot : ∀ y : Str, y ≠ "__name__" → bt y = bootBuiltins y) (nolim : s.heap.NoLimit) (gens : s.gens = #[]) (script : s.heap.get? a = some { cls := .type "list", data := .seq us.toArray }) (entries : IntsAre us ns) (len : ns.length ≤ sizeLine)
    (ask : Asked P w K mg fa a ns s) : codeAny (model P w) callerA (.call (.ref fa) ⟨[.ref a], []⟩) (fun r t => r = .ok (.ret (.bool true)) ∧ OldK s.heap t.heap ∧ t.os = s.os ∧ AllBare t.gens) s := by
  -- the heap of what is followed: the script alone, or nothing where the module holds it
  obtain ⟨G, lone, seen, okG, frozen, apart⟩ : ∃ G : Hp, (∀ b, G b ≠ none → b = a) ∧ SqL K G a (ns.map V.int) ∧ HOk P w G s.heap ∧ (∀ b u, G b = some u → ∃ o xs, u = .frz o (.lst xs)) ∧ (G a ≠ none → K.lookup a = none) := by
    cases look : K.lookup a with
    | some o =>
      have here := inK a o look
      rw [script] at here
      cases here
      exact ⟨fun _ => none, fun b z => absurd rfl z, .inr ⟨_, us.toArray, _, look, rfl, rfl, rfl, by rw [List.size_toArray, entries.length]; exact len, by simpa using vals_ints entries⟩, fun b u z => absurd (show (none : Option HO) = some u from z) (by simp), fun b u z => absurd (show (none : Option HO) = some u from z) (by simp), fun z => absurd rfl z⟩
    | none =>
      have only : ∀ b u, (if b = a then some (HO.frz { cls := .type "list", data := .seq us.toArray } (.lst (ns.map V.int))) else none) = some u → b = a ∧ u = .frz { cls := .type "list", data := .seq us.toArray } (.lst (ns.map V.int)) := fun b u z => by
        by_cases same : b = a
        · rw [if_pos same] at z
          exact ⟨same, (Option.some.inj z).symm⟩
        · rw [if_neg same] at z
          cases z
      refine ⟨fun b => if b = a then some (.frz { cls := .type "list", data := .seq us.toArray } (.lst (ns.map V.int))) else none, fun b z => ?_, .inl (.inr ⟨{ cls := .type "list", data := .seq us.toArray }, if_pos rfl⟩), fun b u z => ?_, fun b u z => ⟨_, _, (only b u z).2⟩, fun _ => rfl⟩
      · by_cases same : b = a
        · exact same
        · exact absurd (if_neg same) z
      · obtain ⟨rfl, rfl⟩ := only b u z
        exact ⟨script, by rw [List.length_map]; exact len, us, _, vals_ints entries, script⟩
  have hide : ∀ {b : Addr} {o : Obj}, s.heap.get? b = some o → G b = none → (hidT s.heap G).get? b = some o := fun there none => hidT_get there none
  have dicts : ∀ {b : Addr} {o : Obj} {es : Array DictEntry} {ep : Nat}, s.heap.get? b = some o → o.data = .dict es ep → G b = none := fun {b o es ep} there isD => by
    by_cases none : G b = none
    · exact none
    · have same := lone b none
      rw [same, script] at there
      cases there
      cases isD
  have spaces : ∀ {b : Addr} {m : Str → Option Value}, s.heap.Ns b m → (hidT s.heap G).Ns b m := fun {b m} ⟨o, es, ep, there, isD, rest⟩ => ⟨o, es, ep, hide there (dicts there isD), isD, rest⟩
  have inRoot : K.In (hidT s.heap G) := fun b o look => hide (inK b o look) (by
    by_cases none : G b = none
    · exact none
    · have same := lone b none
      rw [same] at none look
      rw [apart none] at look
      cases look)
  obtain ⟨lims, limNs, limNo⟩ := nolim
  have modOk : Mod K mg (hidT s.heap G) := ⟨inRoot, spaces glob, ⟨bt, spaces blt, boot⟩, ⟨lims, spaces limNs, limNo⟩⟩
  have env : Env0 P w K mg (hidT s.heap G) callerA [] s G := ⟨rfl, modOk, fun b o look => of_hidT look, Nat.le_of_eq (hidT_size _ _), trivial, fun b z => absurd (show b ∈ ([] : List Addr) from z) (by simp), okG, .of_eq gens⟩
  refine codeAny_mono (ask _ G inRoot (spaces glob) env seen) fun res t fin => ?_
  match res, fin with
  | .error _, fin => exact False.elim fin
  | .ok .next, fin => exact False.elim fin
  | .ok .brk, fin => exact False.elim fin
  | .ok .cont, fin => exact False.elim fin
  | .ok (.ret u), fin =>
    obtain ⟨v, G2, sameOs, bareG, unch, okG2, rel, isT⟩ := fin
    cases (show v = .bl true from isT)
    cases (show u = Value.bool true from rel)
    refine ⟨rfl, OldK.of_keep fun b o there => ?_, sameOs, bareG⟩
    cases gb : G b with
    | none => exact unch.keep b o there gb (fun z => absurd (show b ∈ ([] : List Addr) from z) (by simp)) (by simp)
    | some u =>
      obtain ⟨ob, xs, rfl⟩ := frozen b u gb
      have first := (okG b _ gb).1
      have later := (okG2 b _ (unch.frzs b ob _ gb)).1
      rw [there] at first
      cases first
      exact later
/-- in the place of a def's promise at every place: asked at the caller's -/
theorem walk_asked {l : PySem.W.OpenLaw} {n : Nat} {q : Program} {loose : List Str} {XP : (Str → Option Value) → Heap → Prop} {YP : World → Heap → Prop} {d : DefRec} {K : Params → PySem.W.Frag}
    (most : l.most = some n) (fits : n ≤ sizeLine) (plainArgs : d.params.defaults = []) (hY : ∀ (w : World) (h : Heap), YP w h → (K w.params).In h)
    (F : ∀ (w : World) (mg : Str → Option Value) (fa a : Addr) (s : Shared) (ns : List Int), (K w.params).In s.heap → s.heap.Ns mainGlobals mg → mg d.name = some (.ref fa) → ns.length ≤ n → Asked l.prog w (K w.params) mg fa a ns s) :
    PySem.W.WalkO q loose XP YP l.row.toRowW d [] (fun f vs => PySem.call f vs) := by
  refine Att.attach_call most plainArgs fun w s₀ s mg bt fa o pm cd doc a us ns Gr Yh _ _ _ named obj entries len gens => ?_
  have inK := hY w _ Yh
  exact asked_all inK Gr.T.g Gr.T.b Gr.T.builtins Gr.T.nolimit gens obj entries (Nat.le_trans len fits) (F w mg fa a s ns inK Gr.T.g named len)
end Own

/-! Determinants by the first row, over the rational numbers: what rows do to them. No library is needed. -/
namespace Dt
abbrev Mx := Nat → Nat → Rat
/-! ### sums -/
def sm : Nat → (Nat → Rat) → Rat
  | 0, _ => 0
  | n + 1, f => sm n f + f n
theorem sm_congr {f g : Nat → Rat} : ∀ {n : Nat}, (∀ j, j < n → f j = g j) → sm n f = sm n g
  | 0, _ => rfl
  | n + 1, h => by
    show sm n f + f n = sm n g + g n
    rw [sm_congr fun j hj => h j (by omega), h n (by omega)]
theorem sm_zero : ∀ n : Nat, sm n (fun _ => 0) = 0
  | 0 => rfl
  | n + 1 => by
    show sm n (fun _ => 0) + 0 = 0
    rw [sm_zero n]
    exact Rat.add_zero 0
theorem sm_add {f g : Nat → Rat} : ∀ n : Nat, sm n (fun j => f j + g j) = sm n f + sm n g
  | 0 => (Rat.add_zero 0).symm
  | n + 1 => by
    show sm n (fun j => f j + g j) + (f n + g n) = (sm n f + f n) + (sm n g + g n)
    rw [sm_add n]
    grind
theorem sm_mul {f : Nat → Rat} (c : Rat) : ∀ n : Nat, sm n (fun j => c * f j) = c * sm n f
  | 0 => by
    show (0 : Rat) = c * 0
    grind
  | n + 1 => by
    show sm n (fun j => c * f j) + c * f n = c * (sm n f + f n)
    rw [sm_mul c n]
    grind
theorem sm_comm {f : Nat → Nat → Rat} (m : Nat) : ∀ n : Nat, sm n (fun i => sm m fun j => f i j) = sm m fun j => sm n fun i => f i j
  | 0 => (sm_zero m).symm
  | n + 1 => by
    show sm n (fun i => sm m fun j => f i j) + sm m (fun j => f n j) = sm m fun j => (sm n fun i => f i j) + f n j
    rw [sm_comm m n, sm_add]
def skip (j l : Nat) : Nat := if l < j then l else l + 1
theorem skip_lt {j l : Nat} (h : l < j) : skip j l = l := if_pos h
theorem skip_ge {j l : Nat} (h : j ≤ l) : skip j l = l + 1 := if_neg (by omega)
/-- the sum over all but j -/
theorem sm_skip {g : Nat → Rat} {j : Nat} : ∀ {n : Nat}, j ≤ n → sm n (fun k => g (skip j k)) = sm (n + 1) fun m => if m = j then 0 else g m
  | 0, h => by
    have : j = 0 := by omega
    subst this
    show (0 : Rat) = 0 + (if (0 : Nat) = 0 then 0 else g 0)
    rw [if_pos rfl]
    exact (Rat.add_zero 0).symm
  | n + 1, h => by
    by_cases c : j = n + 1
    · subst c
      have e : sm (n + 1) (fun k => g (skip (n + 1) k)) = sm (n + 1) fun m => if m = n + 1 then 0 else g m := sm_congr fun k hk => by
        rw [skip_lt hk, if_neg (by omega)]
      show _ = sm (n + 1) (fun m => if m = n + 1 then 0 else g m) + (if n + 1 = n + 1 then 0 else g (n + 1))
      rw [e, if_pos rfl]
      grind
    · show sm n (fun k => g (skip j k)) + g (skip j n) = sm (n + 1) (fun m => if m = j then 0 else g m) + (if n + 1 = j then 0 else g (n + 1))
      rw [sm_skip (by omega), skip_ge (by omega), if_neg (by omega)]
/-! ### determinants -/
def sg (j : Nat) : Rat := if j % 2 = 0 then 1 else -1
theorem sg_succ (j : Nat) : sg (j + 1) = -sg j := by
  unfold sg
  by_cases c : j % 2 = 0
  · rw [if_pos c, if_neg (by omega)]
  · rw [if_neg c, if_pos (by omega)]
    rfl
theorem sg_sq (j : Nat) : sg j * sg j = 1 := by
  unfold sg
  split <;> decide +kernel
def minor (M : Mx) (j : Nat) : Mx := fun i l => M (i + 1) (skip j l)
def det : Nat → Mx → Rat
  | 0, _ => 1
  | n + 1, M => sm (n + 1) fun j => sg j * M 0 j * det n (minor M j)
theorem det_congr : ∀ {n : Nat} {M N : Mx}, (∀ i j, i < n → j < n → M i j = N i j) → det n M = det n N
  | 0, _, _, _ => rfl
  | n + 1, M, N, h => sm_congr fun j hj => by
    rw [h 0 j (by omega) hj, det_congr (n := n) (M := minor M j) (N := minor N j) fun i l hi hl => h (i + 1) (skip j l) (by omega) (by unfold skip; split <;> omega)]
/-- linear in each row -/
theorem det_lin {c : Rat} {r : Nat} : ∀ {n : Nat} {M A B : Mx}, r < n → (∀ j, j < n → M r j = A r j + c * B r j) → (∀ i j, i ≠ r → i < n → j < n → M i j = A i j ∧ M i j = B i j) → det n M = det n A + c * det n B
  | 0, _, _, _, h, _, _ => by omega
  | n + 1, M, A, B, hr, h1, h2 => by
    show sm (n + 1) _ = sm (n + 1) _ + c * sm (n + 1) _
    rw [← sm_mul, ← sm_add]
    refine sm_congr fun j hj => ?_
    by_cases c0 : r = 0
    · subst c0
      have e1 : det n (minor M j) = det n (minor A j) := det_congr fun i l hi hl => (h2 (i + 1) (skip j l) (by omega) (by omega) (by unfold skip; split <;> omega)).1
      have e2 : det n (minor M j) = det n (minor B j) := det_congr fun i l hi hl => (h2 (i + 1) (skip j l) (by omega) (by omega) (by unfold skip; split <;> omega)).2
      rw [h1 j hj, ← e1, ← e2]
      grind
    · have e := det_lin (c := c) (r := r - 1) (n := n) (M := minor M j) (A := minor A j) (B := minor B j) (by omega) (fun l hl => by
        have := h1 (skip j l) (by unfold skip; split <;> omega)
        unfold minor
        rw [show r - 1 + 1 = r by omega]
        exact this) (fun i l hi hi2 hl => h2 (i + 1) (skip j l) (by omega) (by omega) (by unfold skip; split <;> omega))
      have g := h2 0 j (fun z => c0 z.symm) (by omega) hj
      rw [e, ← g.1, ← g.2]
      grind
/-! ### two rows exchanged -/
/-- the columns but j and m -/
def skip2 (j m l : Nat) : Nat := if m < j then skip j (skip m l) else skip j (skip (m - 1) l)
theorem skip_skip {j m : Nat} (h : m < j) (l : Nat) : skip j (skip m l) = skip m (skip (j - 1) l) := by
  by_cases a : l < m
  · rw [skip_lt a, skip_lt (show l < j by omega), skip_lt (show l < j - 1 by omega), skip_lt a]
  · by_cases b : l < j - 1
    · rw [skip_ge (show m ≤ l by omega), skip_lt (show l + 1 < j by omega), skip_lt b, skip_ge (show m ≤ l by omega)]
    · rw [skip_ge (show m ≤ l by omega), skip_ge (show j ≤ l + 1 by omega), skip_ge (show j - 1 ≤ l by omega), skip_ge (show m ≤ l + 1 by omega)]
theorem skip2_comm {j m : Nat} (h : j ≠ m) (l : Nat) : skip2 j m l = skip2 m j l := by
  unfold skip2
  by_cases c : m < j
  · rw [if_pos c, if_neg (by omega)]
    exact skip_skip c l
  · rw [if_neg c, if_pos (by omega)]
    exact (skip_skip (by omega) l).symm
def s2 (j m : Nat) : Rat := if m < j then sg j * sg m else -(sg j * sg m)
theorem s2_comm {j m : Nat} (h : j ≠ m) : s2 j m = -s2 m j := by
  unfold s2
  by_cases c : m < j
  · rw [if_pos c, if_neg (by omega)]
    grind
  · rw [if_neg c, if_pos (by omega)]
    grind
def D2 (n : Nat) (M : Mx) (j m : Nat) : Rat := det n fun i l => M (i + 2) (skip2 j m l)
theorem det_two (n : Nat) (M : Mx) : det (n + 2) M = sm (n + 2) fun j => sm (n + 2) fun m => if m = j then 0 else s2 j m * M 0 j * M 1 m * D2 n M j m := by
  show sm (n + 2) _ = _
  refine sm_congr fun j hj => ?_
  show sg j * M 0 j * sm (n + 1) (fun k => sg k * (minor M j) 0 k * det n (minor (minor M j) k)) = _
  rw [← sm_mul, ← sm_skip (g := fun m => s2 j m * M 0 j * M 1 m * D2 n M j m) (n := n + 1) (j := j) (by omega)]
  refine sm_congr fun k hk => ?_
  have e1 : (minor M j) 0 k = M 1 (skip j k) := rfl
  have e2 : det n (minor (minor M j) k) = D2 n M j (skip j k) := by
    refine det_congr fun i l _ _ => ?_
    show M (i + 2) (skip j (skip k l)) = M (i + 2) (skip2 j (skip j k) l)
    congr 1
    unfold skip2
    by_cases c : k < j
    · rw [skip_lt c, if_pos c]
    · have hs : skip j k = k + 1 := skip_ge (by omega)
      rw [hs, if_neg (by omega), Nat.add_sub_cancel]
  have e3 : s2 j (skip j k) = sg j * sg k := by
    unfold s2
    by_cases c : k < j
    · rw [skip_lt c, if_pos c]
    · rw [skip_ge (by omega), if_neg (by omega), sg_succ]
      grind
  rw [e1, e2, e3]
  grind
/-- rows r and r + 1 exchanged -/
def sw (r : Nat) (M : Mx) : Mx := fun i j => M (if i = r then r + 1 else if i = r + 1 then r else i) j
theorem det_sw : ∀ {n r : Nat} {M : Mx}, r + 1 < n → det n (sw r M) = -det n M
  | n + 2, 0, M, _ => by
    rw [det_two, det_two, sm_comm]
    have : ∀ x : Rat, -x = (-1) * x := fun x => by grind
    rw [this, ← sm_mul]
    refine sm_congr fun j hj => ?_
    rw [← sm_mul]
    refine sm_congr fun m hm => ?_
    by_cases c : j = m
    · subst c
      rw [if_pos rfl]
      grind
    · rw [if_neg c, if_neg (fun z => c z.symm)]
      have e : D2 n (sw 0 M) m j = D2 n M j m := by
        refine det_congr fun i l _ _ => ?_
        show M (if i + 2 = 0 then 1 else if i + 2 = 0 + 1 then 0 else i + 2) _ = M (i + 2) _
        rw [if_neg (by omega), if_neg (by omega), skip2_comm (fun z => c z.symm)]
      have e0 : (sw 0 M) 0 m = M 1 m := rfl
      have e1 : (sw 0 M) 1 j = M 0 j := rfl
      rw [e, e0, e1, s2_comm c]
      grind
  | 1, 0, _, h => by omega
  | 0, _, _, h => by omega
  | n + 1, r + 1, M, h => by
    have : ∀ x : Rat, -x = (-1) * x := fun x => by grind
    show sm (n + 1) _ = -sm (n + 1) _
    rw [this, ← sm_mul]
    refine sm_congr fun j hj => ?_
    have e : det n (minor (sw (r + 1) M) j) = -det n (minor M j) := by
      rw [← det_sw (n := n) (r := r) (M := minor M j) (by omega)]
      refine det_congr fun i l _ _ => ?_
      show M (if i + 1 = r + 1 then r + 1 + 1 else if i + 1 = r + 1 + 1 then r + 1 else i + 1) _ = M ((if i = r then r + 1 else if i = r + 1 then r else i) + 1) _
      congr 1
      repeat' split
      all_goals omega
    have e0 : (sw (r + 1) M) 0 j = M 0 j := rfl
    rw [e, e0]
    grind

/-! ### equal rows, rows added -/
theorem neg_self {x : Rat} (h : x = -x) : x = 0 := by grind
theorem det_eq1 {n r : Nat} {M : Mx} (h : r + 1 < n) (e : ∀ j, j < n → M r j = M (r + 1) j) : det n M = 0 := by
  have h1 := det_sw (M := M) h
  have h2 : det n (sw r M) = det n M := det_congr fun i j _ hj => by
    show M (if i = r then r + 1 else if i = r + 1 then r else i) j = M i j
    by_cases c1 : i = r
    · rw [if_pos c1, c1, e j hj]
    · rw [if_neg c1]
      by_cases c2 : i = r + 1
      · rw [if_pos c2, c2, e j hj]
      · rw [if_neg c2]
  rw [h2] at h1
  exact neg_self h1
theorem det_eq {n r : Nat} : ∀ {d : Nat} {M : Mx}, r + d + 1 < n → (∀ j, j < n → M r j = M (r + d + 1) j) → det n M = 0
  | 0, M, h, e => det_eq1 h e
  | d + 1, M, h, e => by
    have h1 := det_sw (n := n) (r := r + d + 1) (M := M) (by omega)
    have h2 : det n (sw (r + d + 1) M) = 0 := det_eq (r := r) (d := d) (by omega) fun j hj => by
      show M (if r = r + d + 1 then r + d + 1 + 1 else if r = r + d + 1 + 1 then r + d + 1 else r) j = M (if r + d + 1 = r + d + 1 then r + d + 1 + 1 else _) j
      rw [if_neg (by omega), if_neg (by omega), if_pos rfl]
      exact e j hj
    rw [h2] at h1
    grind
/-- c times row p added to row r -/
def ad (r p : Nat) (c : Rat) (M : Mx) : Mx := fun i j => if i = r then M r j + c * M p j else M i j
theorem det_ad {n r p : Nat} {c : Rat} {M : Mx} (hr : r < n) (hp : p < n) (ne : p ≠ r) : det n (ad r p c M) = det n M := by
  have h := det_lin (c := c) (r := r) (n := n) (M := ad r p c M) (A := M) (B := fun i j => if i = r then M p j else M i j) hr
    (fun j _ => by
      show (if r = r then M r j + c * M p j else M r j) = M r j + c * (if r = r then M p j else M r j)
      rw [if_pos rfl, if_pos rfl])
    (fun i j hi _ _ => by
      show (if i = r then _ else M i j) = M i j ∧ (if i = r then _ else M i j) = (if i = r then M p j else M i j)
      rw [if_neg hi]
      exact ⟨rfl, (if_neg hi).symm⟩)
  have z : det n (fun i j => if i = r then M p j else M i j) = 0 := by
    rcases Nat.lt_or_gt_of_ne ne with l | l
    · refine det_eq (r := p) (d := r - p - 1) (by omega) fun j _ => ?_
      show (if p = r then _ else M p j) = (if p + (r - p - 1) + 1 = r then M p j else _)
      rw [if_neg ne, if_pos (by omega)]
    · refine det_eq (r := r) (d := p - r - 1) (by omega) fun j _ => ?_
      show (if r = r then M p j else _) = (if r + (p - r - 1) + 1 = r then _ else M (r + (p - r - 1) + 1) j)
      rw [if_pos rfl, if_neg (by omega), show r + (p - r - 1) + 1 = p by omega]
  rw [h, z]
  grind
/-! ### a step of the clearing -/
theorem det_col0 : ∀ {n : Nat} {M : Mx}, 0 < n → (∀ i, i < n → M i 0 = 0) → det n M = 0
  | 0, _, h, _ => by omega
  | n + 1, M, _, h => by
    have : sm (n + 1) (fun j => sg j * M 0 j * det n (minor M j)) = sm (n + 1) fun _ => 0 := sm_congr fun j hj => by
      by_cases c : j = 0
      · rw [c, h 0 (by omega)]
        grind
      · have e : det n (minor M j) = 0 := det_col0 (by omega) fun i hi => by
          show M (i + 1) (skip j 0) = 0
          rw [skip_lt (by omega)]
          exact h (i + 1) (by omega)
        rw [e]
        grind
    show sm (n + 1) _ = 0
    rw [this, sm_zero]
/-- the first column has its first entry alone -/
theorem det_col1 {n : Nat} {M : Mx} (h : ∀ i, i < n → M (i + 1) 0 = 0) : det (n + 1) M = M 0 0 * det n (fun i j => M (i + 1) (j + 1)) := by
  have e : sm (n + 1) (fun j => sg j * M 0 j * det n (minor M j)) = sm (n + 1) fun j => if j = 0 then M 0 0 * det n (fun i j => M (i + 1) (j + 1)) else 0 := sm_congr fun j hj => by
    by_cases c : j = 0
    · subst c
      have e1 : det n (minor M 0) = det n (fun i j => M (i + 1) (j + 1)) := det_congr fun i l _ _ => by
        show M (i + 1) (skip 0 l) = _
        rw [skip_ge (by omega)]
      rw [if_pos rfl, e1]
      have : sg 0 = 1 := rfl
      rw [this]
      grind
    · have z : det n (minor M j) = 0 := det_col0 (by omega) fun i hi => by
        show M (i + 1) (skip j 0) = 0
        rw [skip_lt (by omega)]
        exact h i hi
      rw [if_neg c, z]
      grind
  show sm (n + 1) _ = _
  rw [e]
  have one : ∀ (m : Nat) (x : Rat), sm (m + 1) (fun j => if j = 0 then x else 0) = x := fun m x => by
    induction m with
    | zero =>
      show (0 : Rat) + (if (0 : Nat) = 0 then x else 0) = x
      rw [if_pos rfl]
      grind
    | succ m ih =>
      show sm (m + 1) (fun j => if j = 0 then x else 0) + (if m + 1 = 0 then x else 0) = x
      rw [ih, if_neg (by omega)]
      grind
  exact one n _
/-- the rest behind the first row and column, cleared by them -/
def ga (M : Mx) : Mx := fun i j => M (i + 1) (j + 1) - M (i + 1) 0 / M 0 0 * M 0 (j + 1)
/-- rows 1 to k cleared -/
def el (M : Mx) (k : Nat) : Mx := fun i j => if 0 < i ∧ i ≤ k then M i j - M i 0 / M 0 0 * M 0 j else M i j
theorem det_el {n : Nat} {M : Mx} : ∀ k, k < n → det n (el M k) = det n M
  | 0, h => det_congr fun i j _ _ => if_neg (by omega)
  | k + 1, h => by
    have ih := det_el (n := n) (M := M) k (by omega)
    rw [← ih, ← det_ad (r := k + 1) (p := 0) (c := -(M (k + 1) 0 / M 0 0)) (M := el M k) h (by omega) (by omega)]
    refine det_congr fun i j _ _ => ?_
    show (if 0 < i ∧ i ≤ k + 1 then M i j - M i 0 / M 0 0 * M 0 j else M i j) = if i = k + 1 then (if 0 < k + 1 ∧ k + 1 ≤ k then _ else M (k + 1) j) + _ * (if 0 < 0 ∧ 0 ≤ k then _ else M 0 j) else (if 0 < i ∧ i ≤ k then M i j - M i 0 / M 0 0 * M 0 j else M i j)
    by_cases c : i = k + 1
    · rw [if_pos ⟨by omega, by omega⟩, if_pos c, if_neg (by omega), if_neg (by omega), c]
      grind
    · rw [if_neg c]
      by_cases c2 : 0 < i ∧ i ≤ k
      · rw [if_pos c2, if_pos ⟨c2.1, by omega⟩]
      · rw [if_neg c2, if_neg (by omega)]
theorem det_ga {n : Nat} {M : Mx} (h : M 0 0 ≠ 0) : det (n + 1) M = M 0 0 * det n (ga M) := by
  rw [← det_el n (by omega), det_col1]
  · have e : (el M n) 0 0 = M 0 0 := if_neg (by omega)
    rw [e]
    congr 1
    refine det_congr fun i j hi _ => ?_
    show (if 0 < i + 1 ∧ i + 1 ≤ n then _ else _) = _
    rw [if_pos ⟨by omega, by omega⟩]
    rfl
  · intro i hi
    show (if 0 < i + 1 ∧ i + 1 ≤ n then M (i + 1) 0 - M (i + 1) 0 / M 0 0 * M 0 0 else _) = 0
    rw [if_pos ⟨by omega, by omega⟩, Rat.div_mul_cancel h]
    grind
/-- so many steps -/
def gas : Nat → Mx → Mx
  | 0, M => M
  | k + 1, M => gas k (ga M)
/-- the product of the first leading entries -/
def cor : Nat → Mx → Rat
  | 0, _ => 1
  | k + 1, M => M 0 0 * cor k (ga M)
def leads : Nat → Mx → Prop
  | 0, _ => True
  | k + 1, M => M 0 0 ≠ 0 ∧ leads k (ga M)
theorem det_gas {n : Nat} : ∀ {k : Nat} {M : Mx}, leads k M → det (n + k) M = cor k M * det n (gas k M)
  | 0, M, _ => by
    show det n M = 1 * det n M
    grind
  | k + 1, M, h => by
    show det ((n + k) + 1) M = M 0 0 * cor k (ga M) * det n (gas k (ga M))
    rw [det_ga h.1, det_gas h.2]
    grind

/-! ### two rows exchanged, whichever -/
theorem det_neg {n r : Nat} {M : Mx} (hr : r < n) : det n (fun i j => if i = r then -(M r j) else M i j) = -det n M := by
  have h := det_lin (c := -2) (r := r) (n := n) (M := fun i j => if i = r then -(M r j) else M i j) (A := M) (B := M) hr
    (fun j _ => by
      show (if r = r then -(M r j) else M r j) = _
      rw [if_pos rfl]
      grind)
    (fun i j hi _ _ => by
      show (if i = r then _ else M i j) = M i j ∧ (if i = r then _ else M i j) = M i j
      rw [if_neg hi]
      exact ⟨rfl, rfl⟩)
  rw [h]
  grind
def xch (r t : Nat) (M : Mx) : Mx := fun i j => M (if i = r then t else if i = t then r else i) j
theorem det_xch {n r t : Nat} {M : Mx} (hr : r < n) (ht : t < n) (ne : r ≠ t) : det n (xch r t M) = -det n M := by
  have a1 := det_ad (c := 1) (M := M) hr ht (fun z => ne z.symm)
  have a2 := det_ad (c := -1) (M := ad r t 1 M) ht hr ne
  have a3 := det_ad (c := 1) (M := ad t r (-1) (ad r t 1 M)) hr ht (fun z => ne z.symm)
  have e : det n (ad r t 1 (ad t r (-1) (ad r t 1 M))) = det n (fun i j => if i = t then -((xch r t M) t j) else (xch r t M) i j) := det_congr fun i j _ _ => by
    unfold ad xch
    by_cases c1 : i = r
    · subst c1
      simp only [if_pos rfl, if_neg ne, if_neg (fun z => ne z.symm : ¬ t = i)]
      grind
    · by_cases c2 : i = t
      · subst c2
        simp only [if_neg c1, if_pos rfl, if_neg ne]
        grind
      · simp only [if_neg c1, if_neg c2]
  rw [e, det_neg ht] at a3
  grind
/-! ### whole numbers -/
def Wh (x : Rat) : Prop := ∃ z : Int, x = (z : Rat)
theorem wh_int (z : Int) : Wh (z : Rat) := ⟨z, rfl⟩
theorem wh_add {x y : Rat} (h : Wh x) (g : Wh y) : Wh (x + y) := by
  obtain ⟨a, rfl⟩ := h
  obtain ⟨b, rfl⟩ := g
  exact ⟨a + b, (Rat.intCast_add a b).symm⟩
theorem wh_mul {x y : Rat} (h : Wh x) (g : Wh y) : Wh (x * y) := by
  obtain ⟨a, rfl⟩ := h
  obtain ⟨b, rfl⟩ := g
  exact ⟨a * b, (Rat.intCast_mul a b).symm⟩
theorem wh_sg (j : Nat) : Wh (sg j) := by
  unfold sg
  split
  · exact ⟨1, rfl⟩
  · exact ⟨-1, by decide +kernel⟩
theorem wh_sm {f : Nat → Rat} : ∀ {n : Nat}, (∀ j, j < n → Wh (f j)) → Wh (sm n f)
  | 0, _ => ⟨0, rfl⟩
  | n + 1, h => wh_add (wh_sm fun j hj => h j (by omega)) (h n (by omega))
theorem wh_det : ∀ {n : Nat} {M : Mx}, (∀ i j, i < n → j < n → Wh (M i j)) → Wh (det n M)
  | 0, _, _ => ⟨1, rfl⟩
  | n + 1, M, h => wh_sm fun j hj => wh_mul (wh_mul (wh_sg j) (h 0 j (by omega) hj)) (wh_det fun i l hi hl => h (i + 1) (skip j l) (by omega) (by unfold skip; split <;> omega))
/-! ### the rest is a determinant over the corner -/
/-- rows 0 to k - 1 and from k + i on, columns likewise -/
def sel (k i j : Nat) (M : Mx) : Mx := fun a b => M (if a < k then a else i + a) (if b < k then b else j + b)
theorem sel_ga (k i j : Nat) (M : Mx) : ga (sel (k + 1) i j M) = sel k i j (ga M) := by
  funext a b
  have h1 : (if a + 1 < k + 1 then a + 1 else i + (a + 1)) = (if a < k then a else i + a) + 1 := by split <;> split <;> omega
  have h2 : (if b + 1 < k + 1 then b + 1 else j + (b + 1)) = (if b < k then b else j + b) + 1 := by split <;> split <;> omega
  have h0 : (if 0 < k + 1 then 0 else i + 0) = 0 := if_pos (by omega)
  have h0' : (if 0 < k + 1 then 0 else j + 0) = 0 := if_pos (by omega)
  unfold ga sel
  simp only [h1, h2, h0, h0']
theorem sel_zero (i j : Nat) (M : Mx) : (sel 0 i j M) 0 0 = M i j := rfl
theorem sel_top (k i j : Nat) (M : Mx) : (sel (k + 1) i j M) 0 0 = M 0 0 := by
  unfold sel
  rw [if_pos (by omega), if_pos (by omega)]
theorem sel_gas (i j : Nat) : ∀ (k : Nat) (M : Mx), (gas k (sel k i j M)) 0 0 = gas k M i j
  | 0, M => rfl
  | k + 1, M => by
    show (gas k (ga (sel (k + 1) i j M))) 0 0 = gas k (ga M) i j
    rw [sel_ga]
    exact sel_gas i j k (ga M)
theorem sel_cor (i j : Nat) : ∀ (k : Nat) (M : Mx), cor k (sel k i j M) = cor k M
  | 0, _ => rfl
  | k + 1, M => by
    show (sel (k + 1) i j M) 0 0 * cor k (ga (sel (k + 1) i j M)) = M 0 0 * cor k (ga M)
    rw [sel_top, sel_ga, sel_cor i j k]
theorem sel_leads (i j : Nat) : ∀ (k : Nat) (M : Mx), leads k M → leads k (sel k i j M)
  | 0, _, _ => trivial
  | k + 1, M, h => by
    refine ⟨by rw [sel_top]; exact h.1, ?_⟩
    rw [sel_ga]
    exact sel_leads i j k (ga M) h.2
theorem det_one (M : Mx) : det 1 M = M 0 0 := by
  show (0 : Rat) + sg 0 * M 0 0 * 1 = M 0 0
  have : sg 0 = 1 := rfl
  rw [this]
  grind
theorem rest_det {k i j : Nat} {M : Mx} (h : leads k M) : cor k M * gas k M i j = det (1 + k) (sel k i j M) := by
  rw [det_gas (n := 1) (sel_leads i j k M h), det_one, sel_gas, sel_cor]
theorem rest_wh {k i j : Nat} {M : Mx} (h : leads k M) (w : ∀ a b, Wh (M a b)) : Wh (cor k M * gas k M i j) := by
  rw [rest_det h]
  exact wh_det fun a b _ _ => w _ _
theorem gas_succ : ∀ (k : Nat) (M : Mx), gas (k + 1) M = ga (gas k M)
  | 0, _ => rfl
  | k + 1, M => gas_succ k (ga M)
theorem cor_succ : ∀ (k : Nat) (M : Mx), cor (k + 1) M = cor k M * gas k M 0 0
  | 0, M => by
    show M 0 0 * 1 = 1 * M 0 0
    grind
  | k + 1, M => by
    show M 0 0 * cor (k + 1) (ga M) = M 0 0 * cor k (ga M) * gas k (ga M) 0 0
    rw [cor_succ k (ga M)]
    grind
theorem leads_succ : ∀ {k : Nat} {M : Mx}, leads k M → gas k M 0 0 ≠ 0 → leads (k + 1) M
  | 0, _, _, h => ⟨h, trivial⟩
  | k + 1, _, h, g => ⟨h.1, leads_succ (k := k) h.2 g⟩
theorem cor_ne : ∀ {k : Nat} {M : Mx}, leads k M → cor k M ≠ 0
  | 0, _, _ => by
    show (1 : Rat) ≠ 0
    decide +kernel
  | k + 1, M, h => by
    have := cor_ne h.2
    show M 0 0 * cor k (ga M) ≠ 0
    have h1 := h.1
    grind
/-- a step of the program: exact -/
theorem bar_step {k : Nat} {M : Mx} {B : Nat → Nat → Int} {c : Int} (w : ∀ a b, Wh (M a b)) (h : leads k M) (hc : (c : Rat) = cor k M) (hB : ∀ i j, ((B i j : Int) : Rat) = cor k M * gas k M i j) (h0 : B 0 0 ≠ 0) :
    leads (k + 1) M ∧ ((B 0 0 : Int) : Rat) = cor (k + 1) M ∧ ∀ i j, (((B (i + 1) (j + 1) * B 0 0 - B (i + 1) 0 * B 0 (j + 1)).fdiv c : Int) : Rat) = cor (k + 1) M * gas (k + 1) M i j := by
  have cn := cor_ne h
  have b0 : ((B 0 0 : Int) : Rat) ≠ 0 := fun z => h0 (by exact_mod_cast z)
  have g0 : gas k M 0 0 ≠ 0 := fun z => b0 (by rw [hB, z]; grind)
  have l := leads_succ h g0
  refine ⟨l, by rw [hB, cor_succ], fun i j => ?_⟩
  obtain ⟨z, hz⟩ := rest_wh (i := i) (j := j) l w
  have key : ((c * z : Int) : Rat) = ((B (i + 1) (j + 1) * B 0 0 - B (i + 1) 0 * B 0 (j + 1) : Int) : Rat) := by
    rw [Rat.intCast_mul, ← hz, hc, Rat.intCast_sub, Rat.intCast_mul, Rat.intCast_mul, hB, hB, hB, hB, cor_succ, gas_succ]
    show cor k M * (cor k M * gas k M 0 0 * (gas k M (i + 1) (j + 1) - gas k M (i + 1) 0 / gas k M 0 0 * gas k M 0 (j + 1))) = _
    have d : gas k M (i + 1) 0 / gas k M 0 0 * gas k M 0 0 = gas k M (i + 1) 0 := Rat.div_mul_cancel g0
    grind
  have key2 : c * z = B (i + 1) (j + 1) * B 0 0 - B (i + 1) 0 * B 0 (j + 1) := by exact_mod_cast key
  have c0 : c ≠ 0 := fun q => cn (by rw [← hc, q]; rfl)
  rw [← key2, hz, Int.mul_fdiv_cancel_left _ c0]

/-! ### cleared by an entry anywhere -/
theorem det_colz {c : Nat} : ∀ {n : Nat} {M : Mx}, c < n → (∀ i, i < n → M i c = 0) → det n M = 0
  | 0, _, h, _ => by omega
  | n + 1, M, hc, h => by
    have : sm (n + 1) (fun j => sg j * M 0 j * det n (minor M j)) = sm (n + 1) fun _ => 0 := sm_congr fun j hj => by
      by_cases e : j = c
      · rw [e, h 0 (by omega)]
        grind
      · have z : det n (minor M j) = 0 := by
          by_cases l : c < j
          · refine det_colz (c := c) (by omega) fun i hi => ?_
            show M (i + 1) (skip j c) = 0
            rw [skip_lt l]
            exact h (i + 1) (by omega)
          · refine det_colz (c := c - 1) (by omega) fun i hi => ?_
            show M (i + 1) (skip j (c - 1)) = 0
            rw [skip_ge (by omega), show c - 1 + 1 = c by omega]
            exact h (i + 1) (by omega)
        rw [z]
        grind
    show sm (n + 1) _ = 0
    rw [this, sm_zero]
termination_by n => n
/-- row r at the top, the others below in their order -/
def top (r : Nat) (M : Mx) : Mx := fun i j => M (if i = 0 then r else skip r (i - 1)) j
theorem det_top {n : Nat} : ∀ {r : Nat} {M : Mx}, r < n → det n (top r M) = sg r * det n M
  | 0, M, _ => by
    have e : det n (top 0 M) = det n M := det_congr fun i j _ _ => by
      unfold top
      by_cases c : i = 0
      · rw [if_pos c, c]
      · rw [if_neg c, skip_ge (by omega), show i - 1 + 1 = i by omega]
    have : sg 0 = 1 := rfl
    rw [e, this]
    grind
  | r + 1, M, h => by
    have e : det n (top (r + 1) M) = det n (top r (sw r M)) := det_congr fun i j _ _ => by
      unfold top sw
      by_cases c : i = 0
      · rw [if_pos c, if_pos c, if_pos rfl]
      · rw [if_neg c, if_neg c]
        congr 1
        by_cases l : i - 1 < r
        · rw [skip_lt l, skip_lt (by omega), if_neg (by omega), if_neg (by omega)]
        · by_cases l2 : i - 1 = r
          · rw [l2, skip_lt (by omega), skip_ge (by omega), if_neg (by omega), if_pos rfl]
          · rw [skip_ge (by omega), skip_ge (by omega), if_neg (by omega), if_neg (by omega)]
    rw [e, det_top (by omega), det_sw (by omega), sg_succ]
    grind
/-- all rows but r cleared at column c, the first k of them -/
def cl (r c k : Nat) (M : Mx) : Mx := fun i j => if i ≠ r ∧ i < k then M i j - M i c / M r c * M r j else M i j
theorem det_cl {n r c : Nat} {M : Mx} (hr : r < n) : ∀ k, k ≤ n → det n (cl r c k M) = det n M
  | 0, _ => det_congr fun i j _ _ => if_neg (by omega)
  | k + 1, h => by
    have ih := det_cl (c := c) (M := M) hr k (by omega)
    by_cases e : k = r
    · rw [← ih]
      refine det_congr fun i j _ _ => ?_
      unfold cl
      by_cases g : i ≠ r ∧ i < k
      · rw [if_pos g, if_pos ⟨g.1, by omega⟩]
      · rw [if_neg g, if_neg (by omega)]
    · rw [← ih, ← det_ad (r := k) (p := r) (c := -(M k c / M r c)) (M := cl r c k M) (by omega) hr (fun z => e z.symm)]
      refine det_congr fun i j _ _ => ?_
      show (if i ≠ r ∧ i < k + 1 then M i j - M i c / M r c * M r j else M i j) = if i = k then (if k ≠ r ∧ k < k then _ else M k j) + -(M k c / M r c) * (if r ≠ r ∧ r < k then _ else M r j) else (if i ≠ r ∧ i < k then M i j - M i c / M r c * M r j else M i j)
      by_cases g : i = k
      · rw [if_pos ⟨by omega, by omega⟩, if_pos g, if_neg (by omega), if_neg (by omega), g]
        grind
      · rw [if_neg g]
        by_cases g2 : i ≠ r ∧ i < k
        · rw [if_pos g2, if_pos ⟨g2.1, by omega⟩]
        · rw [if_neg g2, if_neg (by omega)]
/-- the determinant by a pivot: its sign, the entry, the rest -/
theorem det_piv {n r c : Nat} {M : Mx} (hr : r < n + 1) (hc : c < n + 1) (h : M r c ≠ 0) :
    det (n + 1) M = sg r * sg c * M r c * det n (fun a b => M (skip r a) (skip c b) - M (skip r a) c / M r c * M r (skip c b)) := by
  have e1 := det_cl (c := c) (M := M) hr (n + 1) (Nat.le_refl _)
  have e2 := det_top (M := cl r c (n + 1) M) hr
  have e3 : det (n + 1) (top r (cl r c (n + 1) M)) = sg c * M r c * det n (fun a b => M (skip r a) (skip c b) - M (skip r a) c / M r c * M r (skip c b)) := by
    have row0 : ∀ j, (top r (cl r c (n + 1) M)) 0 j = M r j := fun j => by
      show (if r ≠ r ∧ r < n + 1 then _ else M r j) = M r j
      rw [if_neg (by omega)]
    have rest : ∀ a j, a < n → (top r (cl r c (n + 1) M)) (a + 1) j = M (skip r a) j - M (skip r a) c / M r c * M r j := fun a j ha => by
      show (if skip r a ≠ r ∧ skip r a < n + 1 then _ else _) = _
      rw [if_pos (by unfold skip; split <;> omega), if_neg (by omega), Nat.add_sub_cancel]
    have e : sm (n + 1) (fun j => sg j * (top r (cl r c (n + 1) M)) 0 j * det n (minor (top r (cl r c (n + 1) M)) j)) = sm (n + 1) fun j => if j = c then sg c * M r c * det n (fun a b => M (skip r a) (skip c b) - M (skip r a) c / M r c * M r (skip c b)) else 0 := sm_congr fun j hj => by
      rw [row0]
      by_cases g : j = c
      · subst g
        rw [if_pos rfl]
        congr 1
        exact det_congr fun a b ha hb => rest a (skip j b) ha
      · rw [if_neg g]
        have z : ∀ a, a < n → (top r (cl r c (n + 1) M)) (a + 1) c = 0 := fun a ha => by
          rw [rest a c ha, Rat.div_mul_cancel h]
          grind
        have z2 : det n (minor (top r (cl r c (n + 1) M)) j) = 0 := by
          by_cases l : c < j
          · refine det_colz (c := c) (by omega) fun i hi => ?_
            show (top r (cl r c (n + 1) M)) (i + 1) (skip j c) = 0
            rw [skip_lt l]
            exact z i hi
          · refine det_colz (c := c - 1) (by omega) fun i hi => ?_
            show (top r (cl r c (n + 1) M)) (i + 1) (skip j (c - 1)) = 0
            rw [skip_ge (by omega), show c - 1 + 1 = c by omega]
            exact z i hi
        rw [z2]
        grind
    show sm (n + 1) _ = _
    rw [e]
    have one : ∀ (m : Nat) (x : Rat), c < m → sm m (fun j => if j = c then x else 0) = x := fun m x => by
      induction m with
      | zero => intro h; omega
      | succ m ih =>
        intro hm
        show sm m (fun j => if j = c then x else 0) + (if m = c then x else 0) = x
        by_cases g : m = c
        · have : sm m (fun j => if j = c then x else 0) = sm m fun _ => 0 := sm_congr fun j hj => if_neg (by omega)
          rw [if_pos g, this, sm_zero]
          grind
        · rw [if_neg g, ih (by omega)]
          grind
    exact one _ _ hc
  have s2 := sg_sq r
  rw [e1] at e2
  have : det (n + 1) M = sg r * det (n + 1) (top r (cl r c (n + 1) M)) := by
    rw [e2]
    grind
  rw [this, e3]
  grind

/-! ### rows exchanged behind the cleared ones -/
theorem xch_ga {a b : Nat} (M : Mx) : ga (xch (a + 1) (b + 1) M) = xch a b (ga M) := by
  funext i j
  have h : (if i + 1 = a + 1 then b + 1 else if i + 1 = b + 1 then a + 1 else i + 1) = (if i = a then b else if i = b then a else i) + 1 := by
    by_cases c1 : i = a
    · rw [if_pos (by omega), if_pos c1]
    · rw [if_neg (by omega), if_neg c1]
      by_cases c2 : i = b
      · rw [if_pos (by omega), if_pos c2]
      · rw [if_neg (by omega), if_neg c2]
  have h0 : (if 0 = a + 1 then b + 1 else if 0 = b + 1 then a + 1 else 0) = 0 := by
    rw [if_neg (by omega), if_neg (by omega)]
  unfold ga xch
  simp only [h, h0]
theorem xch_top {a b : Nat} (M : Mx) : (xch (a + 1) (b + 1) M) 0 0 = M 0 0 := by
  unfold xch
  rw [if_neg (by omega), if_neg (by omega)]
theorem xch_gas {a b : Nat} : ∀ (k : Nat) (M : Mx), gas k (xch (k + a) (k + b) M) = xch a b (gas k M)
  | 0, M => by
    show xch (0 + a) (0 + b) M = xch a b M
    rw [Nat.zero_add, Nat.zero_add]
  | k + 1, M => by
    show gas k (ga (xch (k + 1 + a) (k + 1 + b) M)) = xch a b (gas k (ga M))
    rw [show k + 1 + a = (k + a) + 1 by omega, show k + 1 + b = (k + b) + 1 by omega, xch_ga, xch_gas k]
theorem xch_cor {a b : Nat} : ∀ (k : Nat) (M : Mx), cor k (xch (k + a) (k + b) M) = cor k M
  | 0, _ => rfl
  | k + 1, M => by
    show (xch (k + 1 + a) (k + 1 + b) M) 0 0 * cor k (ga (xch (k + 1 + a) (k + 1 + b) M)) = M 0 0 * cor k (ga M)
    rw [show k + 1 + a = (k + a) + 1 by omega, show k + 1 + b = (k + b) + 1 by omega, xch_ga, xch_top, xch_cor k]
theorem xch_leads {a b : Nat} : ∀ (k : Nat) (M : Mx), leads k M → leads k (xch (k + a) (k + b) M)
  | 0, _, _ => trivial
  | k + 1, M, h => by
    rw [show k + 1 + a = (k + a) + 1 by omega, show k + 1 + b = (k + b) + 1 by omega]
    refine ⟨by rw [xch_top]; exact h.1, ?_⟩
    rw [xch_ga]
    exact xch_leads k (ga M) h.2
theorem xch_wh {a b : Nat} {M : Mx} (w : ∀ i j, Wh (M i j)) : ∀ i j, Wh ((xch a b M) i j) := fun i j => w _ j
/-! ### the program's clearing, over lists -/
/-- the entry of a table, 0 outside -/
def at_ (R : List (List Int)) (i j : Nat) : Int := (R[i]?.getD [])[j]?.getD 0
def mx (R : List (List Int)) : Mx := fun i j => ((at_ R i j : Int) : Rat)
theorem mx_wh (R : List (List Int)) : ∀ i j, Wh (mx R i j) := fun i j => ⟨_, rfl⟩
def crow (row lead : List Int) (col : Nat) (corner : Int) : List Int := List.zipWith (fun e t => (e * lead[col]?.getD 0 - row[col]?.getD 0 * t).fdiv corner) row lead
/-- the rows behind so many steps, the row at t exchanged with the first of them -/
def others (R : List (List Int)) (s t : Nat) : List (List Int) := (List.range (R.length - (s + 1))).map fun i => if s + 1 + i = t then R[s]?.getD [] else R[s + 1 + i]?.getD []
/-- a step at a column, the row at t leading -/
def stepR (R : List (List Int)) (s t col : Nat) (corner : Int) : List (List Int) := R.take s ++ [R[t]?.getD []] ++ (others R s t).map fun row => crow row (R[t]?.getD []) col corner
structure Sq (n : Nat) (R : List (List Int)) : Prop where
  len : R.length = n
  wid : ∀ r ∈ R, r.length = n
theorem Sq.row {n : Nat} {R : List (List Int)} (h : Sq n R) {i : Nat} (hi : i < n) : (R[i]?.getD []).length = n := by
  have hl := h.len
  rw [List.getElem?_eq_getElem (by omega)]
  exact h.wid _ (List.getElem_mem _)
theorem Sq.out {n : Nat} {R : List (List Int)} (h : Sq n R) {i j : Nat} (c : n ≤ i ∨ n ≤ j) : at_ R i j = 0 := by
  unfold at_
  by_cases hi : i < n
  · have hr := h.row hi
    rw [List.getElem?_eq_none (l := R[i]?.getD []) (by omega)]
    rfl
  · rw [List.getElem?_eq_none (l := R) (by have := h.len; omega)]
    rfl
theorem step_sq {n s t col : Nat} {corner : Int} {R : List (List Int)} (h : Sq n R) (hs : s < n) (ht : t < n) : Sq n (stepR R s t col corner) := by
  have hl := h.len
  constructor
  · unfold stepR others
    rw [List.length_append, List.length_append, List.length_take, List.length_map, List.length_map, List.length_range, List.length_singleton]
    omega
  · intro r hr
    unfold stepR at hr
    rcases List.mem_append.mp hr with hr | hr
    · rcases List.mem_append.mp hr with hr | hr
      · exact h.wid r (List.mem_of_mem_take hr)
      · rw [List.mem_singleton.mp hr]
        exact h.row ht
    · obtain ⟨r', hr', rfl⟩ := List.mem_map.mp hr
      unfold others at hr'
      obtain ⟨i, hi, rfl⟩ := List.mem_map.mp hr'
      have hi := List.mem_range.mp hi
      unfold crow
      rw [List.length_zipWith, h.row ht]
      split
      · rw [h.row hs]
        omega
      · rw [h.row (by omega)]
        omega
/-- the rows with two exchanged -/
def perm (s t i : Nat) : Nat := if i = s then t else if i = t then s else i
theorem step_at {n s t : Nat} {corner : Int} {R : List (List Int)} (h : Sq n R) (hs : s < n) (ht : t < n) (hst : s ≤ t) (i j : Nat) :
    at_ (stepR R s t s corner) (s + 1 + i) (s + 1 + j) = (at_ R (perm s t (s + (i + 1))) (s + (j + 1)) * at_ R (perm s t s) s - at_ R (perm s t (s + (i + 1))) s * at_ R (perm s t s) (s + (j + 1))).fdiv corner := by
  have hl := h.len
  have hp : perm s t s = t := if_pos rfl
  rw [hp]
  by_cases c : s + 1 + i < n ∧ s + 1 + j < n
  · have e1 : (stepR R s t s corner)[s + 1 + i]? = some (crow (R[perm s t (s + (i + 1))]?.getD []) (R[t]?.getD []) s corner) := by
      unfold stepR
      have l1 : (R.take s ++ [R[t]?.getD []]).length = s + 1 := by
        rw [List.length_append, List.length_take, List.length_singleton]
        omega
      rw [List.getElem?_append_right (by omega), l1, show s + 1 + i - (s + 1) = i by omega, List.getElem?_map]
      unfold others
      rw [List.getElem?_map, List.getElem?_range (by omega)]
      show some (crow (if s + 1 + i = t then R[s]?.getD [] else R[s + 1 + i]?.getD []) _ s corner) = _
      congr 2
      unfold perm
      rw [if_neg (show ¬ s + (i + 1) = s by omega)]
      by_cases g : s + 1 + i = t
      · rw [if_pos g, if_pos (by omega)]
      · rw [if_neg g, if_neg (by omega), show s + 1 + i = s + (i + 1) by omega]
    have hpn : perm s t (s + (i + 1)) < n := by
      unfold perm
      repeat' split
      all_goals omega
    have r1 := h.row hpn
    have r2 := h.row ht
    unfold at_
    rw [e1]
    show (crow _ _ s corner)[s + 1 + j]?.getD 0 = _
    unfold crow
    rw [List.getElem?_zipWith, List.getElem?_eq_getElem (show s + 1 + j < (R[perm s t (s + (i + 1))]?.getD []).length by omega), List.getElem?_eq_getElem (show s + 1 + j < (R[t]?.getD []).length by omega)]
    show (_ * _ - _ * _ : Int).fdiv corner = _
    have ej : s + (j + 1) = s + 1 + j := by omega
    rw [ej, List.getElem?_eq_getElem (show s + 1 + j < (R[perm s t (s + (i + 1))]?.getD []).length by omega), List.getElem?_eq_getElem (show s + 1 + j < (R[t]?.getD []).length by omega)]
    rfl
  · rw [(step_sq h hs ht).out (by omega)]
    by_cases ci : n ≤ s + 1 + i
    · have hp2 : perm s t (s + (i + 1)) = s + (i + 1) := by
        unfold perm
        rw [if_neg (by omega), if_neg (by omega)]
      rw [hp2, h.out (.inl (by omega)), h.out (i := s + (i + 1)) (j := s) (.inl (by omega))]
      simp
    · rw [h.out (i := perm s t (s + (i + 1))) (j := s + (j + 1)) (.inr (by omega)), h.out (i := t) (j := s + (j + 1)) (.inr (by omega))]
      simp

/-! ### all steps -/
structure Cs where
  R : List (List Int)
  sign : Int
  corner : Int
  steps : Nat
def found (c : Cs) (col : Nat) : List Nat := (List.range (c.R.length - c.steps)).filter fun i => at_ c.R (c.steps + i) col != 0
def cstep (c : Cs) (col : Nat) : Cs := match found c col with
  | [] => c
  | i :: _ => ⟨stepR c.R c.steps (c.steps + i) col c.corner, if i = 0 then c.sign else -c.sign, at_ c.R (c.steps + i) col, c.steps + 1⟩
def clears (R : List (List Int)) : Nat → Cs
  | 0 => ⟨R, 1, 1, 0⟩
  | k + 1 => cstep (clears R k) k
structure InvC (n k : Nat) (R0 : List (List Int)) (c : Cs) : Prop where
  sq : Sq n c.R
  le : c.steps ≤ k
  cn : c.corner ≠ 0
  ss : c.sign * c.sign = 1
  good : c.steps = k → ∃ M : Mx, (∀ i j, Wh (M i j)) ∧ det n M = (c.sign : Rat) * det n (mx R0) ∧ leads k M ∧ (c.corner : Rat) = cor k M ∧ ∀ i j, ((at_ c.R (k + i) (k + j) : Int) : Rat) = cor k M * gas k M i j
  bad : c.steps < k → det n (mx R0) = 0
theorem found_mem {c : Cs} {col i : Nat} {r : List Nat} (h : found c col = i :: r) : i < c.R.length - c.steps ∧ at_ c.R (c.steps + i) col ≠ 0 := by
  have : i ∈ found c col := by rw [h]; exact List.mem_cons_self ..
  unfold found at this
  obtain ⟨h1, h2⟩ := List.mem_filter.mp this
  exact ⟨List.mem_range.mp h1, by simpa using h2⟩
theorem found_nil {c : Cs} {col i : Nat} (h : found c col = []) (hi : i < c.R.length - c.steps) : at_ c.R (c.steps + i) col = 0 := by
  unfold found at h
  have := List.filter_eq_nil_iff.mp h i (List.mem_range.mpr hi)
  simpa using this
theorem perm_add (k i a : Nat) : perm k (k + i) (k + a) = k + (if a = 0 then i else if a = i then 0 else a) := by
  unfold perm
  by_cases c1 : a = 0
  · rw [if_pos (by omega), if_pos c1]
  · rw [if_neg (by omega), if_neg c1]
    by_cases c2 : a = i
    · rw [if_pos (by omega), if_pos c2]
      rfl
    · rw [if_neg (by omega), if_neg c2]
/-- one step of the clearing as found by the program, at a width that may be another one -/
theorem inv_step {n k : Nat} {R0 : List (List Int)} {c : Cs} (h : InvC n k R0 c) (hk : k < n) : InvC n (k + 1) R0 (cstep c k) := by
  have hl := h.sq.len
  have hs := h.le
  cases e : found c k with
  | nil =>
    have ec : cstep c k = c := by unfold cstep; rw [e]
    rw [ec]
    refine ⟨h.sq, by omega, h.cn, h.ss, fun z => by omega, fun _ => ?_⟩
    by_cases g : c.steps < k
    · exact h.bad g
    have gs : c.steps = k := by omega
    obtain ⟨M, w, hd, hle, hc, hB⟩ := h.good gs
    have cn := cor_ne hle
    have z : det (n - k) (gas k M) = 0 := det_col0 (by omega) fun i hi => by
      have h1 := found_nil e (i := i) (by omega)
      rw [gs] at h1
      have h2 := hB i 0
      rw [Nat.add_zero, h1] at h2
      have h3 : cor k M * gas k M i 0 = 0 := h2.symm
      grind
    have hd2 := det_gas (n := n - k) (k := k) (M := M) hle
    rw [show n - k + k = n by omega, z] at hd2
    rw [hd2] at hd
    have s1 : ((c.sign * c.sign : Int) : Rat) = 1 := by rw [h.ss]; rfl
    rw [Rat.intCast_mul] at s1
    grind
  | cons i r =>
    obtain ⟨hi, hne⟩ := found_mem e
    have ec : cstep c k = ⟨stepR c.R c.steps (c.steps + i) k c.corner, if i = 0 then c.sign else -c.sign, at_ c.R (c.steps + i) k, c.steps + 1⟩ := by unfold cstep; rw [e]
    rw [ec]
    have s2 : (if i = 0 then c.sign else -c.sign) * (if i = 0 then c.sign else -c.sign) = 1 := by
      split
      · exact h.ss
      · rw [Int.neg_mul_neg]
        exact h.ss
    refine ⟨step_sq h.sq (by omega) (by omega), by show c.steps + 1 ≤ k + 1; omega, hne, s2, fun z => ?_, fun z => h.bad (by have : c.steps + 1 < k + 1 := z; omega)⟩
    have gs : c.steps = k := by
      have : c.steps + 1 = k + 1 := z
      omega
    obtain ⟨M, w, hd, hle, hc, hB⟩ := h.good gs
    rw [gs] at hi hne ⊢
    have hB' : ∀ a b, ((at_ c.R (perm k (k + i) (k + a)) (k + b) : Int) : Rat) = cor k (xch (k + 0) (k + i) M) * gas k (xch (k + 0) (k + i) M) a b := fun a b => by
      rw [perm_add, hB, xch_cor, xch_gas]
      rfl
    have h0 : at_ c.R (perm k (k + i) (k + 0)) (k + 0) ≠ 0 := by
      rw [perm_add, if_pos rfl]
      exact hne
    obtain ⟨b1, b2, b3⟩ := bar_step (k := k) (M := xch (k + 0) (k + i) M) (B := fun a b => at_ c.R (perm k (k + i) (k + a)) (k + b)) (c := c.corner) (xch_wh w) (xch_leads k M hle) (by rw [xch_cor]; exact hc) hB' h0
    have hp : perm k (k + i) (k + 0) = k + i := by rw [perm_add, if_pos rfl]
    refine ⟨xch (k + 0) (k + i) M, xch_wh w, ?_, b1, ?_, fun a b => ?_⟩
    · show det n (xch (k + 0) (k + i) M) = (((if i = 0 then c.sign else -c.sign) : Int) : Rat) * det n (mx R0)
      by_cases ci : i = 0
      · rw [if_pos ci, ← hd]
        refine det_congr fun a b _ _ => ?_
        unfold xch
        rw [ci]
        congr 1
        by_cases g : a = k + 0
        · rw [if_pos g, g]
        · rw [if_neg g, if_neg g]
      · rw [if_neg ci, det_xch (by omega) (by omega) (by omega), hd, Rat.intCast_neg]
        grind
    · have := b2
      rw [hp] at this
      exact this
    · have g := b3 a b
      have ss := step_at (corner := c.corner) h.sq (show k < n by omega) (show k + i < n by omega) (by omega) a b
      rw [← g, ss]
      rfl
theorem inv_zero {n : Nat} {R : List (List Int)} (h : Sq n R) : InvC n 0 R ⟨R, 1, 1, 0⟩ :=
  ⟨h, Nat.le_refl _, (by decide : (1 : Int) ≠ 0), (by decide : (1 : Int) * 1 = 1), fun _ => ⟨mx R, mx_wh R, by
    show det n (mx R) = ((1 : Int) : Rat) * det n (mx R)
    have : ((1 : Int) : Rat) = 1 := rfl
    rw [this]
    grind, trivial, rfl, fun i j => by
    rw [Nat.zero_add, Nat.zero_add]
    show mx R i j = 1 * mx R i j
    grind⟩, fun z => by omega⟩
theorem inv_all {n : Nat} {R : List (List Int)} (h : Sq n R) : ∀ k, k ≤ n → InvC n k R (clears R k)
  | 0, _ => inv_zero h
  | k + 1, hk => inv_step (inv_all h k (by omega)) (by omega)
/-- what the program tells of a square -/
theorem clears_det {n : Nat} {R : List (List Int)} (h : Sq n R) : (((if (clears R n).steps = n then (clears R n).sign * (clears R n).corner else 0) : Int) : Rat) = det n (mx R) := by
  have I := inv_all h n (Nat.le_refl _)
  by_cases c : (clears R n).steps = n
  · rw [if_pos c]
    obtain ⟨M, _, hd, hle, hc, _⟩ := I.good c
    have h1 := det_gas (n := 0) (k := n) (M := M) hle
    rw [Nat.zero_add] at h1
    have h2 : det n M = cor n M := by
      rw [h1]
      show cor n M * 1 = cor n M
      grind
    have s1 : (((clears R n).sign * (clears R n).sign : Int) : Rat) = 1 := by rw [I.ss]; rfl
    rw [Rat.intCast_mul] at s1 ⊢
    rw [hc, ← h2, hd]
    grind
  · rw [if_neg c]
    have := I.le
    exact (I.bad (by omega)).symm
/-! ### bounds of the clearing -/
def Bdz (n : Nat) (i : Int) : Prop := i.natAbs < 2 ^ n
theorem fdiv_abs (a c : Int) : (a.fdiv c).natAbs ≤ a.natAbs := by
  rcases Int.lt_trichotomy c 0 with h | h | h
  · have e : a.fdiv c = (-a).fdiv (-c) := (Int.neg_fdiv_neg a c).symm
    have e2 : (-a).fdiv (-c) = (-a) / (-c) := Int.fdiv_eq_ediv_of_nonneg _ (by omega)
    rw [e, e2]
    exact Nat.le_trans (Int.natAbs_ediv_le_natAbs _ _) (by rw [Int.natAbs_neg]; exact Nat.le_refl _)
  · rw [h, Int.fdiv_zero]
    exact Nat.zero_le _
  · rw [Int.fdiv_eq_ediv_of_nonneg _ (by omega)]
    exact Int.natAbs_ediv_le_natAbs _ _
theorem crow_one {n : Nat} {a b c d e : Int} (h1 : Bdz n a) (h2 : Bdz n b) (h3 : Bdz n c) (h4 : Bdz n d) : Bdz (2 * n + 1) ((a * b - c * d).fdiv e) := by
  unfold Bdz at *
  refine Nat.lt_of_le_of_lt (fdiv_abs _ _) ?_
  have m1 : (a * b).natAbs < 2 ^ (n + n) := by
    rw [Int.natAbs_mul, Nat.pow_add]
    exact Nat.mul_lt_mul_of_lt_of_le h1 (Nat.le_of_lt h2) (Nat.two_pow_pos _)
  have m2 : (c * d).natAbs < 2 ^ (n + n) := by
    rw [Int.natAbs_mul, Nat.pow_add]
    exact Nat.mul_lt_mul_of_lt_of_le h3 (Nat.le_of_lt h4) (Nat.two_pow_pos _)
  have e2 : (2 : Nat) ^ (2 * n + 1) = 2 ^ (n + n) + 2 ^ (n + n) := by
    rw [show 2 * n + 1 = (n + n) + 1 by omega, Nat.pow_succ]
    omega
  rw [e2]
  omega
/-- what stays of the clearing of a table of m rows and w columns, entries below 2^b -/
structure PC (m w b k : Nat) (c : Cs) : Prop where
  len : c.R.length = m
  wid : ∀ r ∈ c.R, r.length = w
  st : c.steps ≤ k
  sm_ : c.steps ≤ m
  cn : c.corner ≠ 0
  cb : Bdz ((b + 1) * 2 ^ c.steps - 1) c.corner
  eb : ∀ r ∈ c.R, ∀ y ∈ r, Bdz ((b + 1) * 2 ^ c.steps - 1) y
  sn : c.sign = 1 ∨ c.sign = -1
theorem bits_succ (b s : Nat) : 2 * ((b + 1) * 2 ^ s - 1) + 1 = (b + 1) * 2 ^ (s + 1) - 1 := by
  have h : 0 < (b + 1) * 2 ^ s := Nat.mul_pos (by omega) (Nat.two_pow_pos _)
  rw [Nat.pow_succ, ← Nat.mul_assoc]
  omega
theorem bdz_mono {a b : Nat} {i : Int} (h : Bdz a i) (hab : a ≤ b) : Bdz b i := Nat.lt_of_lt_of_le h (Nat.pow_le_pow_right (by decide) hab)
theorem PC.row {m w b k : Nat} {c : Cs} (h : PC m w b k c) {i : Nat} (hi : i < m) : (c.R[i]?.getD []) ∈ c.R ∧ (c.R[i]?.getD []).length = w := by
  have hl := h.len
  rw [List.getElem?_eq_getElem (by omega)]
  exact ⟨List.getElem_mem _, h.wid _ (List.getElem_mem _)⟩
theorem PC.entry {m w b k : Nat} {c : Cs} (h : PC m w b k c) {i j : Nat} (hi : i < m) (hj : j < w) : Bdz ((b + 1) * 2 ^ c.steps - 1) (at_ c.R i j) := by
  obtain ⟨h1, h2⟩ := h.row hi
  unfold at_
  rw [List.getElem?_eq_getElem (by omega)]
  exact h.eb _ h1 _ (List.getElem_mem _)
theorem others_mem {R : List (List Int)} {s t : Nat} (hs : s < R.length) {r : List Int} (hr : r ∈ others R s t) : r ∈ R := by
  unfold others at hr
  obtain ⟨i, hi, rfl⟩ := List.mem_map.mp hr
  have hi := List.mem_range.mp hi
  split
  · rw [List.getElem?_eq_getElem hs]
    exact List.getElem_mem _
  · rw [List.getElem?_eq_getElem (by omega)]
    exact List.getElem_mem _
theorem pc_step {m w b k : Nat} {c : Cs} (h : PC m w b k c) (hk : k < w) : PC m w b (k + 1) (cstep c k) := by
  have hl := h.len
  cases e : found c k with
  | nil =>
    have ec : cstep c k = c := by unfold cstep; rw [e]
    rw [ec]
    exact ⟨h.len, h.wid, by have := h.st; omega, h.sm_, h.cn, h.cb, h.eb, h.sn⟩
  | cons i r =>
    obtain ⟨hi, hne⟩ := found_mem e
    have ec : cstep c k = ⟨stepR c.R c.steps (c.steps + i) k c.corner, if i = 0 then c.sign else -c.sign, at_ c.R (c.steps + i) k, c.steps + 1⟩ := by unfold cstep; rw [e]
    rw [ec]
    have hb := bits_succ b c.steps
    have le : (b + 1) * 2 ^ c.steps - 1 ≤ (b + 1) * 2 ^ (c.steps + 1) - 1 := by omega
    have ld := h.row (i := c.steps + i) (by omega)
    have crw : ∀ r ∈ c.R, (crow r (c.R[c.steps + i]?.getD []) k c.corner).length = w ∧ ∀ y ∈ crow r (c.R[c.steps + i]?.getD []) k c.corner, Bdz ((b + 1) * 2 ^ (c.steps + 1) - 1) y := fun r hr => by
      have lr := h.wid r hr
      refine ⟨by unfold crow; rw [List.length_zipWith, lr, ld.2]; omega, fun y hy => ?_⟩
      unfold crow at hy
      obtain ⟨j, hj⟩ := List.mem_iff_getElem?.mp hy
      have hj2 : j < w := by
        have := (List.getElem?_eq_some_iff.mp hj).1
        rw [List.length_zipWith, lr, ld.2] at this
        omega
      rw [List.getElem?_zipWith, List.getElem?_eq_getElem (show j < r.length by omega), List.getElem?_eq_getElem (show j < (c.R[c.steps + i]?.getD []).length by omega)] at hj
      cases hj
      rw [← hb]
      refine crow_one (h.eb r hr _ (List.getElem_mem _)) ?_ ?_ (h.eb _ ld.1 _ (List.getElem_mem _))
      · rw [List.getElem?_eq_getElem (show k < (c.R[c.steps + i]?.getD []).length by omega)]
        exact h.eb _ ld.1 _ (List.getElem_mem _)
      · rw [List.getElem?_eq_getElem (show k < r.length by omega)]
        exact h.eb _ hr _ (List.getElem_mem _)
    have cases_ : ∀ r ∈ stepR c.R c.steps (c.steps + i) k c.corner, r.length = w ∧ ∀ y ∈ r, Bdz ((b + 1) * 2 ^ (c.steps + 1) - 1) y := fun r hr => by
      unfold stepR at hr
      rcases List.mem_append.mp hr with hr | hr
      · rcases List.mem_append.mp hr with hr | hr
        · have hr := List.mem_of_mem_take hr
          exact ⟨h.wid r hr, fun y hy => bdz_mono (h.eb r hr y hy) le⟩
        · rw [List.mem_singleton.mp hr]
          exact ⟨ld.2, fun y hy => bdz_mono (h.eb _ ld.1 y hy) le⟩
      · obtain ⟨r', hr', rfl⟩ := List.mem_map.mp hr
        exact crw r' (others_mem (by omega) hr')
    refine ⟨?_, fun r hr => (cases_ r hr).1, by have := h.st; show c.steps + 1 ≤ k + 1; omega, by show c.steps + 1 ≤ m; omega, hne, bdz_mono (h.entry (by omega) hk) le, fun r hr => (cases_ r hr).2, ?_⟩
    · show (stepR c.R c.steps (c.steps + i) k c.corner).length = m
      unfold stepR others
      rw [List.length_append, List.length_append, List.length_take, List.length_map, List.length_map, List.length_range, List.length_singleton]
      omega
    · show (if i = 0 then c.sign else -c.sign) = 1 ∨ (if i = 0 then c.sign else -c.sign) = -1
      have := h.sn
      split <;> omega
theorem pc_all {m w b : Nat} {R : List (List Int)} (hl : R.length = m) (hw : ∀ r ∈ R, r.length = w) (hb : ∀ r ∈ R, ∀ y ∈ r, Bdz b y) (h0 : 0 < b) : ∀ k, k ≤ w → PC m w b k (clears R k)
  | 0, _ => ⟨hl, hw, Nat.le_refl _, Nat.zero_le _, (by decide : (1 : Int) ≠ 0), by
    show (1 : Int).natAbs < 2 ^ ((b + 1) * 2 ^ 0 - 1)
    exact Nat.one_lt_two_pow (by rw [Nat.pow_zero]; omega), fun r hr y hy => bdz_mono (hb r hr y hy) (by show b ≤ (b + 1) * 2 ^ 0 - 1; rw [Nat.pow_zero]; omega), .inl rfl⟩
  | k + 1, h => pc_step (pc_all hl hw hb h0 k (by omega)) (by omega)
end Dt
/-! pivoting, entry by entry -/
namespace Dt
def pvAt (R : List (List Int)) (i j a b : Nat) : Int :=
  if a = i then (if b = j then at_ R i j else at_ R i j * at_ R i b) else if b = j then -(at_ R i j) * at_ R a j else at_ R a b - at_ R i j * at_ R a j * at_ R i b
def pivT (R : List (List Int)) (m w i j : Nat) : List (List Int) := (List.range m).map fun a => (List.range w).map fun b => pvAt R i j a b
theorem pivT_len {R : List (List Int)} {m w i j : Nat} : (pivT R m w i j).length = m := by unfold pivT; rw [List.length_map, List.length_range]
theorem pivT_wid {R : List (List Int)} {m w i j : Nat} : ∀ r ∈ pivT R m w i j, r.length = w := by
  intro r hr
  unfold pivT at hr
  obtain ⟨a, _, rfl⟩ := List.mem_map.mp hr
  rw [List.length_map, List.length_range]
theorem tab_at (f : Nat → Nat → Int) {m w a b : Nat} (ha : a < m) (hb : b < w) : at_ ((List.range m).map fun a => (List.range w).map fun b => f a b) a b = f a b := by
  unfold at_
  rw [List.getElem?_map, List.getElem?_range ha]
  show ((List.range w).map fun b => f a b)[b]?.getD 0 = _
  rw [List.getElem?_map, List.getElem?_range hb]
  rfl
theorem pivT_at {R : List (List Int)} {m w i j a b : Nat} (ha : a < m) (hb : b < w) : at_ (pivT R m w i j) a b = pvAt R i j a b := tab_at (pvAt R i j) ha hb
theorem tab_eq {R : List (List Int)} {m w : Nat} (hl : R.length = m) (hw : ∀ r ∈ R, r.length = w) : ((List.range m).map fun a => (List.range w).map fun b => at_ R a b) = R := by
  refine List.ext_getElem (by rw [List.length_map, List.length_range, hl]) fun a h1 h2 => ?_
  rw [List.getElem_map, List.getElem_range]
  have hr := hw _ (List.getElem_mem h2)
  refine List.ext_getElem (by rw [List.length_map, List.length_range, hr]) fun b h3 h4 => ?_
  rw [List.getElem_map, List.getElem_range]
  unfold at_
  rw [List.getElem?_eq_getElem h2]
  show R[a][b]?.getD 0 = _
  rw [List.getElem?_eq_getElem h4]
  rfl
theorem piv_two {R : List (List Int)} {m w i j a b : Nat} (ha : a < m) (hb : b < w) (hi : i < m) (hj : j < w) (p : at_ R i j = 1 ∨ at_ R i j = -1) : pvAt (pivT R m w i j) i j a b = at_ R a b := by
  have eij : at_ (pivT R m w i j) i j = at_ R i j := by
    rw [pivT_at hi hj]
    unfold pvAt
    rw [if_pos rfl, if_pos rfl]
  unfold pvAt
  rw [eij]
  by_cases c : a = i
  · subst c
    rw [if_pos rfl]
    by_cases d : b = j
    · subst d
      rw [if_pos rfl]
    · rw [if_neg d, pivT_at hi hb]
      unfold pvAt
      rw [if_pos rfl, if_neg d]
      rcases p with p | p <;> rw [p] <;> grind
  · rw [if_neg c]
    have ea : at_ (pivT R m w i j) a j = -(at_ R i j) * at_ R a j := by
      rw [pivT_at ha hj]
      unfold pvAt
      rw [if_neg c, if_pos rfl]
    by_cases d : b = j
    · subst d
      rw [if_pos rfl, ea]
      rcases p with p | p <;> rw [p] <;> grind
    · rw [if_neg d, ea, pivT_at ha hb, pivT_at hi hb]
      unfold pvAt
      rw [if_neg c, if_neg d, if_pos rfl, if_neg d]
      rcases p with p | p <;> rw [p] <;> grind
theorem pivT_twice {R : List (List Int)} {m w i j : Nat} (hl : R.length = m) (hw : ∀ r ∈ R, r.length = w) (hi : i < m) (hj : j < w) (p : at_ R i j = 1 ∨ at_ R i j = -1) : pivT (pivT R m w i j) m w i j = R := by
  refine Eq.trans ?_ (tab_eq hl hw)
  show (List.range m).map _ = _
  refine List.map_congr_left fun a ha => List.map_congr_left fun b hb => ?_
  exact piv_two (List.mem_range.mp ha) (List.mem_range.mp hb) hi hj p
/-- without a row and a column -/
def restT (R : List (List Int)) (i j : Nat) : List (List Int) := (R.take i ++ R.drop (i + 1)).map fun r => r.take j ++ r.drop (j + 1)
theorem out_get {α : Type} (l : List α) (i k : Nat) (h : i < l.length) : (l.take i ++ l.drop (i + 1))[k]? = l[skip i k]? := by
  by_cases c : k < i
  · rw [List.getElem?_append_left (by rw [List.length_take]; omega), List.getElem?_take_of_lt c, skip_lt c]
  · rw [List.getElem?_append_right (by rw [List.length_take]; omega), List.getElem?_drop, skip_ge (by omega), List.length_take]
    congr 1
    omega
theorem rest_at {R : List (List Int)} {m w i j : Nat} (hl : R.length = m) (hw : ∀ r ∈ R, r.length = w) (hi : i < m) (hj : j < w) (a b : Nat) (ha : skip i a < m) : at_ (restT R i j) a b = at_ R (skip i a) (skip j b) := by
  unfold at_ restT
  rw [List.getElem?_map, out_get R i a (by omega)]
  have : skip i a < R.length := by omega
  rw [List.getElem?_eq_getElem this]
  show (R[skip i a].take j ++ R[skip i a].drop (j + 1))[b]?.getD 0 = _
  rw [out_get _ j b (by rw [hw _ (List.getElem_mem this)]; exact hj)]
  rfl
theorem rest_len {R : List (List Int)} {m i j : Nat} (hl : R.length = m) (hi : i < m) : (restT R i j).length = m - 1 := by
  unfold restT
  rw [List.length_map, List.length_append, List.length_take, List.length_drop]
  omega
theorem rest_wid {R : List (List Int)} {w i j : Nat} (hw : ∀ r ∈ R, r.length = w) (hj : j < w) : ∀ r ∈ restT R i j, r.length = w - 1 := by
  intro r hr
  unfold restT at hr
  obtain ⟨r', h', rfl⟩ := List.mem_map.mp hr
  have hm : r' ∈ R := by
    rcases List.mem_append.mp h' with h | h
    · exact List.mem_of_mem_take h
    · exact List.mem_of_mem_drop h
  have := hw _ hm
  rw [List.length_append, List.length_take, List.length_drop]
  omega
theorem rest_mem {R : List (List Int)} {i j : Nat} {P : Int → Prop} (h : ∀ r ∈ R, ∀ y ∈ r, P y) : ∀ r ∈ restT R i j, ∀ y ∈ r, P y := by
  intro r hr y hy
  unfold restT at hr
  obtain ⟨r', h', rfl⟩ := List.mem_map.mp hr
  have hm : r' ∈ R := by
    rcases List.mem_append.mp h' with h | h
    · exact List.mem_of_mem_take h
    · exact List.mem_of_mem_drop h
  refine h r' hm y ?_
  rcases List.mem_append.mp hy with h | h
  · exact List.mem_of_mem_take h
  · exact List.mem_of_mem_drop h
theorem sg_pm (n : Nat) : (n % 2 = 0 ∧ sg n = 1) ∨ (n % 2 = 1 ∧ sg n = -1) := by
  induction n with
  | zero => exact .inl ⟨rfl, rfl⟩
  | succ n ih =>
    rw [sg_succ]
    rcases ih with ⟨h, e⟩ | ⟨h, e⟩
    · exact .inr ⟨by omega, by rw [e]⟩
    · exact .inl ⟨by omega, by rw [e]; rfl⟩
/-- the sign at a row and a column -/
def sgn2 (i j : Nat) : Int := if (i + j) % 2 = 0 then 1 else -1
theorem sgn2_eq (i j : Nat) : ((sgn2 i j : Int) : Rat) = sg i * sg j := by
  unfold sgn2
  rcases sg_pm i with ⟨h, e⟩ | ⟨h, e⟩ <;> rcases sg_pm j with ⟨g, f⟩ | ⟨g, f⟩ <;> rw [e, f]
  · rw [if_pos (by omega)]; simp
  · rw [if_neg (by omega)]; simp
  · rw [if_neg (by omega)]; simp
  · rw [if_pos (by omega)]; simp; grind
theorem piv_det {R : List (List Int)} {n i j : Nat} (hl : R.length = n + 1) (hw : ∀ r ∈ R, r.length = n + 1) (hi : i < n + 1) (hj : j < n + 1) (p : at_ R i j = 1 ∨ at_ R i j = -1) :
    det (n + 1) (mx R) = ((sgn2 i j * at_ R i j : Int) : Rat) * det n (mx (restT (pivT R (n + 1) (n + 1) i j) i j)) := by
  have hp : mx R i j ≠ 0 := by
    show ((at_ R i j : Int) : Rat) ≠ 0
    rcases p with p | p <;> rw [p] <;> decide
  rw [det_piv hi hj hp, Rat.intCast_mul, sgn2_eq]
  have e : det n (fun a b => mx R (skip i a) (skip j b) - mx R (skip i a) j / mx R i j * mx R i (skip j b)) = det n (mx (restT (pivT R (n + 1) (n + 1) i j) i j)) := by
    refine det_congr fun a b ha hb => ?_
    have ka : skip i a < n + 1 := by unfold skip; split <;> omega
    have kb : skip j b < n + 1 := by unfold skip; split <;> omega
    have na : skip i a ≠ i := by unfold skip; split <;> omega
    have nb : skip j b ≠ j := by unfold skip; split <;> omega
    show _ = ((at_ _ a b : Int) : Rat)
    rw [rest_at pivT_len pivT_wid hi hj a b ka, pivT_at ka kb]
    unfold pvAt
    rw [if_neg na, if_neg nb, Rat.intCast_sub, Rat.intCast_mul, Rat.intCast_mul]
    show ((at_ R (skip i a) (skip j b) : Int) : Rat) - ((at_ R (skip i a) j : Int) : Rat) / ((at_ R i j : Int) : Rat) * ((at_ R i (skip j b) : Int) : Rat) = _
    rcases p with p | p <;> rw [p] <;> simp only [Rat.div_def] <;> grind
  rw [e]
  rfl
end Dt
/-! sums of tables, entry by entry -/
namespace Sm
open Dt
def tabF (m w : Nat) (f : Nat → Nat → Int) : List (List Int) := (List.range m).map fun a => (List.range w).map fun b => f a b
theorem tabF_len {m w : Nat} {f : Nat → Nat → Int} : (tabF m w f).length = m := by unfold tabF; rw [List.length_map, List.length_range]
theorem tabF_wid {m w : Nat} {f : Nat → Nat → Int} : ∀ r ∈ tabF m w f, r.length = w := by
  intro r hr
  unfold tabF at hr
  obtain ⟨a, _, rfl⟩ := List.mem_map.mp hr
  rw [List.length_map, List.length_range]
theorem tabF_at {m w : Nat} {f : Nat → Nat → Int} {a b : Nat} (ha : a < m) (hb : b < w) : at_ (tabF m w f) a b = f a b := tab_at f ha hb
theorem tabF_of {R : List (List Int)} {m w : Nat} {f : Nat → Nat → Int} (hl : R.length = m) (hw : ∀ r ∈ R, r.length = w) (h : ∀ a b, a < m → b < w → at_ R a b = f a b) : R = tabF m w f := by
  rw [← tab_eq hl hw]
  exact List.map_congr_left fun a ha => List.map_congr_left fun b hb => h a b (List.mem_range.mp ha) (List.mem_range.mp hb)
theorem tabF_congr {m w : Nat} {f g : Nat → Nat → Int} (h : ∀ a b, a < m → b < w → f a b = g a b) : tabF m w f = tabF m w g := List.map_congr_left fun a ha => List.map_congr_left fun b hb => h a b (List.mem_range.mp ha) (List.mem_range.mp hb)
def nth (u : List Int) (i : Nat) : Int := u[i]?.getD 0
theorem nth_rep (n i : Nat) : nth (List.replicate n 0) i = 0 := by
  unfold nth
  rw [List.getElem?_replicate]
  split <;> rfl
theorem nth_map (f : Int → Int) (hf : f 0 = 0) (u : List Int) (i : Nat) : nth (u.map f) i = f (nth u i) := by
  unfold nth
  rw [List.getElem?_map]
  cases u[i]? with
  | none => exact hf.symm
  | some x => rfl
theorem at_nth (R : List (List Int)) (a b : Nat) : at_ R a b = nth (R[a]?.getD []) b := rfl
/-- left rows with upper times across beside, and below lower times along with the right rows beside -/
def glue (L : List (List Int)) (u x d c : List Int) (R : List (List Int)) : List (List Int) :=
  List.zipWith (fun r n => r ++ x.map fun y => n * y) L u ++ List.zipWith (fun r n => (c.map fun y => n * y) ++ r) R d
def glueAt (L : List (List Int)) (u x d c : List Int) (R : List (List Int)) (a b : Nat) : Int :=
  if a < L.length then (if b < c.length then at_ L a b else nth u a * nth x (b - c.length)) else (if b < c.length then nth d (a - L.length) * nth c b else at_ R (a - L.length) (b - c.length))
theorem nth_app (u v : List Int) (i : Nat) : nth (u ++ v) i = if i < u.length then nth u i else nth v (i - u.length) := by
  unfold nth
  by_cases h : i < u.length
  · rw [if_pos h, List.getElem?_append_left h]
  · rw [if_neg h, List.getElem?_append_right (by omega)]
theorem glue_eq {L R : List (List Int)} {u x d c : List Int} (hu : u.length = L.length) (hd : d.length = R.length) (hL : ∀ r ∈ L, r.length = c.length) (hR : ∀ r ∈ R, r.length = x.length) :
    glue L u x d c R = tabF (L.length + R.length) (c.length + x.length) (glueAt L u x d c R) := by
  have l1 : (List.zipWith (fun r n => r ++ x.map fun y => n * y) L u).length = L.length := by rw [List.length_zipWith, hu, Nat.min_self]
  have l2 : (List.zipWith (fun (r : List Int) n => (c.map fun y => n * y) ++ r) R d).length = R.length := by rw [List.length_zipWith, hd, Nat.min_self]
  refine tabF_of (by unfold glue; rw [List.length_append, l1, l2]) (fun r hr => ?_) (fun a b ha hb => ?_)
  · unfold glue at hr
    rcases List.mem_append.mp hr with h | h
    · obtain ⟨i, hi, rfl⟩ := List.getElem_of_mem h
      rw [List.getElem_zipWith, List.length_append, List.length_map, hL _ (List.getElem_mem _)]
    · obtain ⟨i, hi, rfl⟩ := List.getElem_of_mem h
      rw [List.getElem_zipWith, List.length_append, List.length_map, hR _ (List.getElem_mem _)]
  · rw [at_nth]
    unfold glue glueAt
    by_cases h : a < L.length
    · rw [if_pos h, List.getElem?_append_left (by rw [l1]; exact h), List.getElem?_zipWith, List.getElem?_eq_getElem h, List.getElem?_eq_getElem (show a < u.length by omega)]
      show nth (L[a] ++ x.map fun y => u[a] * y) b = _
      rw [nth_app, hL _ (List.getElem_mem h), nth_map _ (Int.mul_zero _)]
      have e1 : at_ L a b = nth L[a] b := by rw [at_nth, List.getElem?_eq_getElem h]; rfl
      have e2 : nth u a = u[a] := by unfold nth; rw [List.getElem?_eq_getElem (show a < u.length by omega)]; rfl
      rw [e1, e2]
    · rw [if_neg h, List.getElem?_append_right (by rw [l1]; omega), l1, List.getElem?_zipWith, List.getElem?_eq_getElem (show a - L.length < R.length by omega), List.getElem?_eq_getElem (show a - L.length < d.length by omega)]
      show nth ((c.map fun y => d[a - L.length] * y) ++ R[a - L.length]) b = _
      rw [nth_app, List.length_map, nth_map _ (Int.mul_zero _)]
      have e1 : at_ R (a - L.length) (b - c.length) = nth R[a - L.length] (b - c.length) := by rw [at_nth, List.getElem?_eq_getElem (show a - L.length < R.length by omega)]; rfl
      have e2 : nth d (a - L.length) = d[a - L.length] := by unfold nth; rw [List.getElem?_eq_getElem (show a - L.length < d.length by omega)]; rfl
      rw [e1, e2]
/-- beside -/
def besAt (A B : List (List Int)) (m w a b : Nat) : Int := if a < m ∧ b < w then at_ A a b else if m ≤ a ∧ w ≤ b then at_ B (a - m) (b - w) else 0
def besF (A B : List (List Int)) (m w m2 w2 : Nat) : List (List Int) := tabF (m + m2) (w + w2) (besAt A B m w)
def zeros (n : Nat) : List Int := List.replicate n 0
theorem zl (n : Nat) : (zeros n).length = n := List.length_replicate ..
theorem zn (n i : Nat) : nth (zeros n) i = 0 := nth_rep n i
theorem bes_glue {A B : List (List Int)} {m w m2 w2 : Nat} (hA : A.length = m) (wA : ∀ r ∈ A, r.length = w) (hB : B.length = m2) (wB : ∀ r ∈ B, r.length = w2) : glue A (zeros m) (zeros w2) (zeros m2) (zeros w) B = besF A B m w m2 w2 := by
  subst hA hB
  rw [glue_eq (by rw [zl]) (by rw [zl]) (fun r hr => by rw [wA r hr, zl]) (fun r hr => by rw [wB r hr, zl])]
  unfold besF
  rw [zl, zl]
  refine tabF_congr fun a b ha hb => ?_
  unfold glueAt besAt
  rw [zn, zn, zn, zn, zl]
  by_cases h : a < A.length
  · by_cases g : b < w
    · rw [if_pos h, if_pos g, if_pos ⟨h, g⟩]
    · rw [if_pos h, if_neg g, if_neg (by omega), if_neg (by omega)]
      rfl
  · by_cases g : b < w
    · rw [if_neg h, if_pos g, if_neg (by omega), if_neg (by omega)]
      rfl
    · rw [if_neg h, if_neg g, if_neg (by omega), if_pos (by omega)]
/-- two_sum -/
def twoAt (A B : List (List Int)) (m w a b : Nat) : Int := if a < m ∧ b < w - 1 then at_ A a b else if a < m then at_ A a (w - 1) * at_ B 0 (b - (w - 1)) else if w - 1 ≤ b then at_ B (a - m + 1) (b - (w - 1)) else 0
def twoF (A B : List (List Int)) (m w m2 w2 : Nat) : List (List Int) := tabF (m + m2 - 1) (w - 1 + w2) (twoAt A B m w)
theorem at_take {A : List (List Int)} {k a b : Nat} (hb : b < k) : at_ (A.map fun r => r.take k) a b = at_ A a b := by
  rw [at_nth, at_nth, List.getElem?_map]
  cases A[a]? with
  | none => rfl
  | some r =>
    show nth (r.take k) b = nth r b
    unfold nth
    rw [List.getElem?_take_of_lt hb]
theorem at_drop {A : List (List Int)} {k a b : Nat} : at_ (A.drop k) a b = at_ A (k + a) b := by
  rw [at_nth, at_nth, List.getElem?_drop]
theorem nth_col {A : List (List Int)} {k a : Nat} (h : a < A.length) : nth (A.map fun r => nth r k) a = at_ A a k := by
  unfold nth
  rw [List.getElem?_map, List.getElem?_eq_getElem h]
  show A[a][k]?.getD 0 = _
  rw [at_nth, List.getElem?_eq_getElem h]
  rfl
theorem two_glue {A B : List (List Int)} {m w m2 w2 : Nat} (hA : A.length = m) (wA : ∀ r ∈ A, r.length = w) (hB : B.length = m2) (wB : ∀ r ∈ B, r.length = w2) (hw : 1 ≤ w) (hm : 1 ≤ m2) :
    glue (A.map fun r => r.take (w - 1)) (A.map fun r => nth r (w - 1)) (B[0]?.getD []) (zeros (m2 - 1)) (zeros (w - 1)) (B.drop 1) = twoF A B m w m2 w2 := by
  subst hA hB
  have b0 : (B[0]?.getD []).length = w2 := by
    rw [List.getElem?_eq_getElem (show 0 < B.length by omega)]
    exact wB _ (List.getElem_mem _)
  rw [glue_eq (by rw [List.length_map, List.length_map]) (by rw [List.length_drop]; exact List.length_replicate ..) (fun r hr => by
    obtain ⟨r', h', rfl⟩ := List.mem_map.mp hr
    rw [List.length_take, wA r' h']
    have e : (zeros (w - 1)).length = w - 1 := List.length_replicate ..
    omega) (fun r hr => by rw [b0]; exact wB r (List.mem_of_mem_drop hr))]
  have e : (zeros (w - 1)).length = w - 1 := List.length_replicate ..
  unfold twoF
  rw [b0, e, List.length_map, List.length_drop, show A.length + (B.length - 1) = A.length + B.length - 1 by omega]
  refine tabF_congr fun a b ha hb => ?_
  unfold glueAt twoAt
  rw [e, List.length_map]
  by_cases h : a < A.length
  · by_cases g : b < w - 1
    · rw [if_pos h, if_pos g, if_pos ⟨h, g⟩, at_take g]
    · rw [if_pos h, if_neg g, if_neg (by omega), if_pos h, nth_col h]
      rfl
  · rw [if_neg h, if_neg (show ¬ (a < A.length ∧ b < w - 1) by omega), if_neg h]
    by_cases g : b < w - 1
    · rw [if_pos g, if_neg (show ¬ w - 1 ≤ b by omega), zn, Int.zero_mul]
    · rw [if_neg g, if_pos (show w - 1 ≤ b by omega), at_drop, Nat.add_comm]
theorem bes1 {A B : List (List Int)} {m w a b : Nat} (h : a < m) (g : b < w) : besAt A B m w a b = at_ A a b := if_pos ⟨h, g⟩
theorem bes2 {A B : List (List Int)} {m w a b : Nat} (h : m ≤ a) (g : w ≤ b) : besAt A B m w a b = at_ B (a - m) (b - w) := by
  unfold besAt
  rw [if_neg (by omega), if_pos ⟨h, g⟩]
theorem bes0 {A B : List (List Int)} {m w a b : Nat} (h : (a < m ∧ w ≤ b) ∨ (m ≤ a ∧ b < w)) : besAt A B m w a b = 0 := by
  unfold besAt
  rw [if_neg (by omega), if_neg (by omega)]
theorem bes_turn {A B A' B' : List (List Int)} {m w m2 w2 : Nat} (hA : ∀ a b, a < m → b < w → at_ A' b a = at_ A a b) (hB : ∀ a b, a < m2 → b < w2 → at_ B' b a = at_ B a b) :
    tabF (w + w2) (m + m2) (fun b a => at_ (besF A B m w m2 w2) a b) = besF A' B' w m w2 m2 := by
  refine tabF_congr fun b a hb ha => ?_
  unfold besF
  rw [tabF_at ha hb]
  by_cases h : a < m
  · by_cases g : b < w
    · rw [bes1 h g, bes1 g h, hA a b h g]
    · rw [bes0 (.inl ⟨h, by omega⟩), bes0 (.inr ⟨by omega, h⟩)]
  · by_cases g : b < w
    · rw [bes0 (.inr ⟨by omega, g⟩), bes0 (.inl ⟨g, by omega⟩)]
    · rw [bes2 (by omega) (by omega), bes2 (by omega) (by omega), hB _ _ (by omega) (by omega)]
theorem bes_assoc {A B C : List (List Int)} {m w m2 w2 m3 w3 : Nat} : besF (besF A B m w m2 w2) C (m + m2) (w + w2) m3 w3 = besF A (besF B C m2 w2 m3 w3) m w (m2 + m3) (w2 + w3) := by
  unfold besF
  rw [Nat.add_assoc, Nat.add_assoc]
  refine tabF_congr fun a b ha hb => ?_
  by_cases h1 : a < m
  · by_cases g1 : b < w
    · rw [bes1 (m := m + m2) (by omega) (by omega), tabF_at (by omega) (by omega), bes1 h1 g1, bes1 h1 g1]
    · rw [bes0 (A := A) (.inl ⟨h1, by omega⟩)]
      by_cases g2 : b < w + w2
      · rw [bes1 (by omega) g2, tabF_at (by omega) g2, bes0 (.inl ⟨h1, by omega⟩)]
      · rw [bes0 (.inl ⟨by omega, by omega⟩)]
  · by_cases g1 : b < w
    · rw [bes0 (A := A) (B := tabF _ _ _) (.inr ⟨by omega, g1⟩)]
      by_cases h2 : a < m + m2
      · rw [bes1 h2 (by omega), tabF_at h2 (by omega), bes0 (.inr ⟨by omega, g1⟩)]
      · rw [bes0 (.inr ⟨by omega, by omega⟩)]
    · rw [bes2 (A := A) (B := tabF _ _ _) (by omega) (by omega), tabF_at (by omega) (by omega)]
      by_cases h2 : a < m + m2
      · by_cases g2 : b < w + w2
        · rw [bes1 h2 g2, tabF_at h2 g2, bes2 (by omega) (by omega), bes1 (by omega) (by omega)]
        · rw [bes0 (.inl ⟨h2, by omega⟩), bes0 (.inl ⟨by omega, by omega⟩)]
      · by_cases g2 : b < w + w2
        · rw [bes0 (.inr ⟨by omega, g2⟩), bes0 (.inr ⟨by omega, by omega⟩)]
        · rw [bes2 (by omega) (by omega), bes2 (by omega) (by omega), show a - m - m2 = a - (m + m2) by omega, show b - w - w2 = b - (w + w2) by omega]
end Sm
/-! sums by two columns and rows -/
namespace Sm
open Dt
def oneOf (L : List (List Int)) (a c : List Int) : List (List Int) := List.zipWith (fun r e => r ++ [e, e]) L a ++ [c ++ [0, 1]]
def otherOf (b d : List Int) (R : List (List Int)) : List (List Int) := [[1, 0] ++ b] ++ List.zipWith (fun e r => [e, e] ++ r) d R
theorem zip_len {L : List (List Int)} {a : List Int} (h : a.length = L.length) : (List.zipWith (fun (r : List Int) e => r ++ [e, e]) L a).length = L.length := by rw [List.length_zipWith, h, Nat.min_self]
theorem zip_len2 {R : List (List Int)} {d : List Int} (h : d.length = R.length) : (List.zipWith (fun e (r : List Int) => [e, e] ++ r) d R).length = R.length := by rw [List.length_zipWith, h, Nat.min_self]
theorem oneOf_len {L : List (List Int)} {a c : List Int} (h : a.length = L.length) : (oneOf L a c).length = L.length + 1 := by
  unfold oneOf
  rw [List.length_append, zip_len h]
  rfl
theorem oneOf_wid {L : List (List Int)} {a c : List Int} (hL : ∀ r ∈ L, r.length = c.length) : ∀ r ∈ oneOf L a c, r.length = c.length + 2 := by
  intro r hr
  unfold oneOf at hr
  rcases List.mem_append.mp hr with h | h
  · obtain ⟨i, hi, rfl⟩ := List.getElem_of_mem h
    rw [List.getElem_zipWith, List.length_append, hL _ (List.getElem_mem _)]
    rfl
  · rw [List.mem_singleton.mp h, List.length_append]
    rfl
theorem otherOf_len {R : List (List Int)} {b d : List Int} (h : d.length = R.length) : (otherOf b d R).length = R.length + 1 := by
  unfold otherOf
  rw [List.length_append, zip_len2 h, Nat.add_comm]
  rfl
theorem otherOf_wid {R : List (List Int)} {b d : List Int} (hR : ∀ r ∈ R, r.length = b.length) : ∀ r ∈ otherOf b d R, r.length = b.length + 2 := by
  intro r hr
  unfold otherOf at hr
  rcases List.mem_append.mp hr with h | h
  · rw [List.mem_singleton.mp h, List.length_append, Nat.add_comm]
    rfl
  · obtain ⟨i, hi, rfl⟩ := List.getElem_of_mem h
    rw [List.getElem_zipWith, List.length_append, hR _ (List.getElem_mem _), Nat.add_comm]
    rfl
theorem oneOf_take {L : List (List Int)} {a c : List Int} (h : a.length = L.length) : (oneOf L a c).take L.length = List.zipWith (fun r e => r ++ [e, e]) L a := by
  unfold oneOf
  rw [List.take_append_of_le_length (by rw [zip_len h]; exact Nat.le_refl _), List.take_of_length_le (by rw [zip_len h]; exact Nat.le_refl _)]
theorem otherOf_drop {R : List (List Int)} {b d : List Int} : (otherOf b d R).drop 1 = List.zipWith (fun e r => [e, e] ++ r) d R := rfl
theorem oneOf_last {L : List (List Int)} {a c : List Int} (h : a.length = L.length) : (oneOf L a c)[L.length]? = some (c ++ [0, 1]) := by
  unfold oneOf
  rw [List.getElem?_append_right (by rw [zip_len h]; exact Nat.le_refl _), zip_len h, Nat.sub_self]
  rfl
theorem map_zip1 {α : Type} (f : List Int → α) (g : List Int → Int → α) (hfg : ∀ r e, f (r ++ [e, e]) = g r e) : ∀ (L : List (List Int)) (a : List Int), (List.zipWith (fun r e => r ++ [e, e]) L a).map f = List.zipWith g L a
  | [], _ => by rw [List.zipWith_nil_left, List.zipWith_nil_left]; rfl
  | _ :: _, [] => rfl
  | r :: L, e :: a => by rw [List.zipWith_cons_cons, List.zipWith_cons_cons, List.map_cons, hfg, map_zip1 f g hfg L a]
theorem map_zip2 {α : Type} (f : List Int → α) (g : Int → List Int → α) (hfg : ∀ e r, f ([e, e] ++ r) = g e r) : ∀ (d : List Int) (R : List (List Int)), (List.zipWith (fun e r => [e, e] ++ r) d R).map f = List.zipWith g d R
  | [], _ => by rw [List.zipWith_nil_left, List.zipWith_nil_left]; rfl
  | _ :: _, [] => rfl
  | e :: d, r :: R => by rw [List.zipWith_cons_cons, List.zipWith_cons_cons, List.map_cons, hfg, map_zip2 f g hfg d R]
theorem zip_fst {α β : Type} : ∀ (L : List α) (a : List β), a.length = L.length → List.zipWith (fun r _ => r) L a = L
  | [], _, _ => by rw [List.zipWith_nil_left]
  | _ :: _, [], h => by simp at h
  | r :: L, e :: a, h => by rw [List.zipWith_cons_cons, zip_fst L a (Nat.succ.inj h)]
theorem zip_snd {α β : Type} : ∀ (L : List α) (a : List β), a.length = L.length → List.zipWith (fun _ e => e) L a = a
  | [], [], _ => rfl
  | [], _ :: _, h => by simp at h
  | _ :: _, [], h => by simp at h
  | r :: L, e :: a, h => by rw [List.zipWith_cons_cons, zip_snd L a (Nat.succ.inj h)]
theorem left_back {L : List (List Int)} {a : List Int} {w : Nat} (h : a.length = L.length) (hL : ∀ r ∈ L, r.length = w) : (List.zipWith (fun r e => r ++ [e, e]) L a).map (fun r => r.take w) = L := by
  have : ∀ (L : List (List Int)) (a : List Int), a.length = L.length → (∀ r ∈ L, r.length = w) → (List.zipWith (fun r e => r ++ [e, e]) L a).map (fun r => r.take w) = L := by
    intro L
    induction L with
    | nil => intro a _ _; rw [List.zipWith_nil_left]; rfl
    | cons r L ih =>
      intro a h hL
      cases a with
      | nil => simp at h
      | cons e a =>
        rw [List.zipWith_cons_cons, List.map_cons, ih a (Nat.succ.inj h) (fun x hx => hL x (.tail _ hx))]
        have lr := hL r (.head _)
        rw [List.take_append_of_le_length (by omega), List.take_of_length_le (by omega)]
  exact this L a h hL
theorem right_back {R : List (List Int)} {d : List Int} (h : d.length = R.length) : (List.zipWith (fun e r => [e, e] ++ r) d R).map (fun r => r.drop 2) = R := by
  rw [map_zip2 _ (fun _ r => r) (fun e r => rfl)]
  exact zip_snd d R h.symm
theorem upper_back {L : List (List Int)} {a : List Int} {w : Nat} (h : a.length = L.length) (hL : ∀ r ∈ L, r.length = w) : (List.zipWith (fun r e => r ++ [e, e]) L a).map (fun r => nth r (w + 1)) = a := by
  have : ∀ (L : List (List Int)) (a : List Int), a.length = L.length → (∀ r ∈ L, r.length = w) → (List.zipWith (fun r e => r ++ [e, e]) L a).map (fun r => nth r (w + 1)) = a := by
    intro L
    induction L with
    | nil =>
      intro a h _
      cases a with
      | nil => rfl
      | cons e a => simp at h
    | cons r L ih =>
      intro a h hL
      cases a with
      | nil => simp at h
      | cons e a =>
        rw [List.zipWith_cons_cons, List.map_cons, ih a (Nat.succ.inj h) (fun x hx => hL x (.tail _ hx))]
        have lr := hL r (.head _)
        rw [nth_app, if_neg (by omega), lr, show w + 1 - w = 1 by omega]
        rfl
  exact this L a h hL
theorem lower_back {R : List (List Int)} {d : List Int} (h : d.length = R.length) : (List.zipWith (fun e r => [e, e] ++ r) d R).map (fun r => nth r 0) = d := by
  rw [map_zip2 _ (fun e _ => e) (fun e r => rfl)]
  exact zip_fst d R h.symm
/-- turned about -/
theorem glue_turn {L R L' R' : List (List Int)} {u x d c : List Int} (hu : u.length = L.length) (hd : d.length = R.length) (hL : ∀ r ∈ L, r.length = c.length) (hR : ∀ r ∈ R, r.length = x.length)
    (l' : L'.length = c.length) (r' : R'.length = x.length) (hL' : ∀ r ∈ L', r.length = L.length) (hR' : ∀ r ∈ R', r.length = R.length) (tL : ∀ a b, a < L.length → b < c.length → at_ L' b a = at_ L a b) (tR : ∀ a b, a < R.length → b < x.length → at_ R' b a = at_ R a b) :
    tabF (c.length + x.length) (L.length + R.length) (fun b a => at_ (glue L u x d c R) a b) = glue L' c d x u R' := by
  rw [glue_eq (L := L') (u := c) (x := d) (d := x) (c := u) (R := R') l'.symm r'.symm (fun r hr => by rw [hL' r hr, hu]) (fun r hr => by rw [hR' r hr, hd]), l', r', hu, hd, glue_eq hu hd hL hR]
  refine tabF_congr fun b a hb ha => ?_
  rw [tabF_at ha hb]
  unfold glueAt
  rw [l', hu]
  by_cases h : a < L.length
  · by_cases g : b < c.length
    · rw [if_pos h, if_pos g, if_pos g, if_pos h, tL a b h g]
    · rw [if_pos h, if_neg g, if_neg g, if_pos h, Int.mul_comm]
  · by_cases g : b < c.length
    · rw [if_neg h, if_pos g, if_pos g, if_neg h, Int.mul_comm]
    · rw [if_neg h, if_neg g, if_neg g, if_neg h, tR _ _ (by omega) (by omega)]
end Sm
/-! places that hang together by ends: by cuts, by groups joined, by going round -/
namespace Gr
abbrev Edges := List (Int × Int)
/-- no cut that leaves all ends whole parts the two -/
def Same (es : Edges) (a b : Int) : Prop := ∀ S : Int → Bool, (∀ e ∈ es, S e.1 = S e.2) → S a = S b
theorem Same.refl {es : Edges} (a : Int) : Same es a a := fun _ _ => rfl
theorem Same.symm {es : Edges} {a b : Int} (h : Same es a b) : Same es b a := fun S hS => (h S hS).symm
theorem Same.trans {es : Edges} {a b c : Int} (h : Same es a b) (g : Same es b c) : Same es a c := fun S hS => (h S hS).trans (g S hS)
theorem Same.edge {es : Edges} {e : Int × Int} (h : e ∈ es) : Same es e.1 e.2 := fun S hS => hS e h
theorem Same.mono {es fs : Edges} {a b : Int} (h : Same es a b) (g : ∀ e ∈ es, e ∈ fs) : Same fs a b := fun S hS => h S fun e he => hS e (g e he)
/-- the group of each place, once the groups of two are one -/
def join (g : Int → Int) (a b : Int) : Int → Int := fun p => if g p = g b then g a else g p
def joins (es : Edges) (g : Int → Int) : Int → Int := es.foldl (fun g e => join g e.1 e.2) g
theorem joins_snoc (es : Edges) (e : Int × Int) (g : Int → Int) : joins (es ++ [e]) g = join (joins es g) e.1 e.2 := by
  unfold joins
  rw [List.foldl_append]
  rfl
theorem joins_mem {es : Edges} (P : Int → Prop) {g : Int → Int} (h : ∀ p, P p → P (g p)) (he : ∀ e ∈ es, P e.1) : ∀ p, P p → P (joins es g p) := by
  induction es generalizing g with
  | nil => exact h
  | cons e es ih =>
    refine ih (g := join g e.1 e.2) (fun p hp => ?_) fun f hf => he f (.tail _ hf)
    unfold join
    split
    · exact h _ (he e (.head _))
    · exact h p hp
/-- one group just where no cut parts them: to be gone through from the last end on -/
theorem joins_same : ∀ (n : Nat) (es : Edges), es.length = n → ∀ p q, (joins es id p = joins es id q ↔ Same es p q)
  | 0, es, hl, p, q => by
    rw [List.length_eq_zero_iff.mp hl]
    refine ⟨fun h => ?_, fun h => ?_⟩
    · have h : p = q := h
      rw [h]
      exact .refl q
    · have := h (fun x => decide (x = p)) (fun e he => by simp at he)
      show p = q
      have : decide (p = p) = decide (q = p) := this
      rw [decide_eq_true rfl] at this
      exact (of_decide_eq_true this.symm).symm
  | n + 1, es, hl, p, q => by
    obtain ⟨fs, e, rfl⟩ : ∃ fs e, es = fs ++ [e] := by
      have hn : es ≠ [] := fun z => by rw [z] at hl; simp at hl
      exact ⟨es.dropLast, es.getLast hn, (List.dropLast_concat_getLast hn).symm⟩
    have ih := joins_same n fs (by rw [List.length_append] at hl; simp at hl; omega)
    have up : ∀ {a b}, Same fs a b → Same (fs ++ [e]) a b := fun h => h.mono fun e he => List.mem_append_left _ he
    have ed : Same (fs ++ [e]) e.1 e.2 := .edge (List.mem_append_right _ (List.mem_singleton_self _))
    rw [joins_snoc]
    have key : ∀ p q, joins fs id p = joins fs id q → join (joins fs id) e.1 e.2 p = join (joins fs id) e.1 e.2 q := fun p q h => by
      unfold join
      rw [h]
    refine ⟨fun h => ?_, fun h => ?_⟩
    · have side : ∀ p, Same (fs ++ [e]) p (if joins fs id p = joins fs id e.2 then e.1 else p) := fun p => by
        split
        · exact (up ((ih p e.2).mp ‹_›)).trans ed.symm
        · exact .refl p
      have lab : ∀ p, join (joins fs id) e.1 e.2 p = joins fs id (if joins fs id p = joins fs id e.2 then e.1 else p) := fun p => by
        unfold join
        split <;> rfl
      rw [lab, lab] at h
      exact ((side p).trans (up ((ih _ _).mp h))).trans (side q).symm
    · have := h (fun x => decide (join (joins fs id) e.1 e.2 x = join (joins fs id) e.1 e.2 p)) (fun f hf => by
        have : join (joins fs id) e.1 e.2 f.1 = join (joins fs id) e.1 e.2 f.2 := by
          rcases List.mem_append.mp hf with h | h
          · exact key _ _ ((ih _ _).mpr (.edge h))
          · rw [List.mem_singleton.mp h]
            unfold join
            rw [if_pos rfl]
            split <;> rfl
        simp only [this])
      simp only [decide_true] at this
      exact (of_decide_eq_true this.symm).symm
/-- at least so many groups are left: places told apart by their groups -/
theorem apart {m : Nat} : ∀ (n : Nat) (es : Edges), es.length = n → ∀ R0 : List Int, R0.Nodup → ∃ R : List Int, R.Nodup ∧ (∀ x ∈ R, x ∈ R0) ∧ R0.length ≤ R.length + n ∧ ∀ x ∈ R, ∀ y ∈ R, joins es id x = joins es id y → x = y
  | 0, es, hl, R0, h0 => by
    rw [List.length_eq_zero_iff.mp hl]
    exact ⟨R0, h0, fun _ h => h, Nat.le_refl _, fun x _ y _ h => h⟩
  | n + 1, es, hl, R0, h0 => by
    obtain ⟨fs, e, rfl⟩ : ∃ fs e, es = fs ++ [e] := by
      have hn : es ≠ [] := fun z => by rw [z] at hl; simp at hl
      exact ⟨es.dropLast, es.getLast hn, (List.dropLast_concat_getLast hn).symm⟩
    obtain ⟨R, h1, h2, h3, h4⟩ := apart (m := m) n fs (by rw [List.length_append] at hl; simp at hl; omega) R0 h0
    have hd : ∀ x ∈ R, joins fs id x = joins fs id e.2 → R.length ≤ (R.filter fun y => joins fs id y != joins fs id e.2).length + 1 := fun x hx hg => by
      have : ∀ (L : List Int), L.Nodup → (∀ y ∈ L, joins fs id y = joins fs id e.2 → y = x) → L.length ≤ (L.filter fun y => joins fs id y != joins fs id e.2).length + 1 := by
        intro L
        induction L with
        | nil => intro _ _; exact Nat.zero_le _
        | cons y L ih =>
          intro nd hy
          have nd2 := List.nodup_cons.mp nd
          by_cases c : joins fs id y = joins fs id e.2
          · have yx := hy y (.head _) c
            have e1 : L.filter (fun y => joins fs id y != joins fs id e.2) = L := List.filter_eq_self.mpr fun z hz => bne_iff_ne.mpr fun q => nd2.1 (by rw [yx, ← hy z (.tail _ hz) q]; exact hz)
            rw [List.filter_cons_of_neg (by simpa using c), e1]
            exact Nat.le_refl _
          · rw [List.filter_cons_of_pos (by simpa using c), List.length_cons, List.length_cons]
            have := ih nd2.2 fun z hz => hy z (.tail _ hz)
            omega
      exact this R h1 fun y hy q => h4 y hy x hx (q.trans hg.symm)
    refine ⟨R.filter fun y => joins fs id y != joins fs id e.2, h1.filter _, fun x hx => h2 x (List.mem_filter.mp hx).1, ?_, fun x hx y hy h => ?_⟩
    · by_cases c : ∃ x ∈ R, joins fs id x = joins fs id e.2
      · obtain ⟨x, hx, hg⟩ := c
        have := hd x hx hg
        omega
      · have e1 : R.filter (fun y => joins fs id y != joins fs id e.2) = R := List.filter_eq_self.mpr fun z hz => bne_iff_ne.mpr fun q => c ⟨z, hz, q⟩
        rw [e1]
        omega
    · obtain ⟨x1, x2⟩ := List.mem_filter.mp hx
      obtain ⟨y1, y2⟩ := List.mem_filter.mp hy
      rw [joins_snoc] at h
      unfold join at h
      rw [if_neg (bne_iff_ne.mp x2), if_neg (bne_iff_ne.mp y2)] at h
      exact h4 x x1 y y1 h
/-- where all places of a list hang together there are at least as many ends, less one -/
theorem ends_many {es : Edges} {R0 : List Int} (nd : R0.Nodup) (h : ∀ a ∈ R0, ∀ b ∈ R0, Same es a b) : R0.length ≤ es.length + 1 := by
  obtain ⟨R, h1, h2, h3, h4⟩ := apart (m := 0) es.length es rfl R0 nd
  have : R.length ≤ 1 := by
    match R, h1, h2, h4 with
    | [], _, _, _ => exact Nat.zero_le _
    | [_], _, _, _ => exact Nat.le_refl _
    | x :: y :: l, h1, h2, h4 =>
      have := h4 x (.head _) y (.tail _ (.head _)) ((joins_same es.length es rfl x y).mpr (h x (h2 x (.head _)) y (h2 y (.tail _ (.head _)))))
      rw [this] at h1
      exact absurd (List.mem_cons_self) (List.nodup_cons.mp h1).1
  omega
/-- in a tree no end closes a round with those ahead of it -/
theorem no_round {es : Edges} {R0 : List Int} {i : Nat} {e : Int × Int} (nd : R0.Nodup) (h : ∀ a ∈ R0, ∀ b ∈ R0, Same es a b) (hl : es.length + 1 = R0.length) (hi : es[i]? = some e) : ¬ Same (es.take i) e.1 e.2 := fun z => by
  have hlt := (List.getElem?_eq_some_iff.mp hi).1
  have all : ∀ a b, Same es a b → Same (es.take i ++ es.drop (i + 1)) a b := fun a b g S hS => g S fun f hf => by
    have hf2 : f ∈ es.take i ++ e :: es.drop (i + 1) := by
      have : es.take i ++ e :: es.drop (i + 1) = es := by
        rw [← (List.getElem?_eq_some_iff.mp hi).2, ← List.drop_eq_getElem_cons hlt, List.take_append_drop]
      rw [this]
      exact hf
    rcases List.mem_append.mp hf2 with q | q
    · exact hS f (List.mem_append_left _ q)
    · rcases List.mem_cons.mp q with rfl | q
      · exact z S fun f hf => hS f (List.mem_append_left _ hf)
      · exact hS f (List.mem_append_right _ q)
  have := ends_many (es := es.take i ++ es.drop (i + 1)) nd fun a ha b hb => all a b (h a ha b hb)
  rw [List.length_append, List.length_take, List.length_drop] at this
  omega
/-! ### going round -/
/-- what a look at an end adds to what is found -/
def look (e : Int × Int) (F : List Int) : List Int :=
  let G := if F.contains e.1 && !F.contains e.2 then F ++ [e.2] else F
  if G.contains e.2 && !G.contains e.1 then G ++ [e.1] else G
def turn (es : Edges) (F : List Int) : List Int := es.foldl (fun F e => look e F) F
def turns (es : Edges) (F : List Int) : Nat → List Int
  | 0 => F
  | n + 1 => turn es (turns es F n)
theorem look_sub {e : Int × Int} {F : List Int} {x : Int} (h : x ∈ F) : x ∈ look e F := by
  unfold look
  by_cases c1 : e.1 ∈ F <;> by_cases c2 : e.2 ∈ F <;> simp [c1, c2, h]
theorem look_both {e : Int × Int} {F : List Int} (h : e.1 ∈ F ∨ e.2 ∈ F) : e.1 ∈ look e F ∧ e.2 ∈ look e F := by
  unfold look
  by_cases c1 : e.1 ∈ F <;> by_cases c2 : e.2 ∈ F
  · simp [c1, c2]
  · simp [c1, c2]
  · simp [c1, c2]
  · exact absurd h (by simp [c1, c2])
theorem look_mem {e : Int × Int} {F : List Int} {x : Int} (h : x ∈ look e F) : x ∈ F ∨ (x = e.2 ∧ e.1 ∈ F) ∨ (x = e.1 ∧ e.2 ∈ F) := by
  unfold look at h
  by_cases c1 : e.1 ∈ F <;> by_cases c2 : e.2 ∈ F
  · simp [c1, c2] at h
    exact .inl h
  · simp [c1, c2] at h
    rcases h with h | h
    · exact .inl h
    · exact .inr (.inl ⟨h, c1⟩)
  · simp [c1, c2] at h
    rcases h with h | h
    · exact .inl h
    · exact .inr (.inr ⟨h, c2⟩)
  · simp [c1, c2] at h
    exact .inl h
theorem turn_sub {x : Int} : ∀ {es : Edges} {F : List Int}, x ∈ F → x ∈ turn es F
  | [], _, h => h
  | e :: es, F, h => turn_sub (es := es) (F := look e F) (look_sub h)
theorem turn_both {e : Int × Int} : ∀ {es : Edges} {F : List Int}, e ∈ es → (e.1 ∈ F ∨ e.2 ∈ F) → e.1 ∈ turn es F ∧ e.2 ∈ turn es F
  | f :: es, F, h, g => by
    rcases List.mem_cons.mp h with rfl | h
    · have := look_both g
      exact ⟨turn_sub (es := es) this.1, turn_sub (es := es) this.2⟩
    · exact turn_both (es := es) (F := look f F) h (g.imp look_sub look_sub)
theorem turn_same {p : Int} {fs : Edges} : ∀ {es : Edges} {F : List Int}, (∀ e ∈ es, e ∈ fs) → (∀ x ∈ F, Same fs p x) → ∀ x ∈ turn es F, Same fs p x
  | [], _, _, h => h
  | e :: es, F, hs, h => turn_same (es := es) (F := look e F) (fun f hf => hs f (.tail _ hf)) fun x hx => by
    rcases look_mem hx with q | ⟨rfl, q⟩ | ⟨rfl, q⟩
    · exact h x q
    · exact (h _ q).trans (.edge (hs e (.head _)))
    · exact (h _ q).trans (Same.edge (hs e (.head _))).symm
theorem turns_same {p : Int} {es : Edges} : ∀ n, ∀ x ∈ turns es [p] n, Same es p x
  | 0, x, hx => by
    rw [List.mem_singleton.mp hx]
    exact .refl p
  | n + 1, x, hx => turn_same (es := es) (F := turns es [p] n) (fun _ h => h) (turns_same n) x hx
def Closed (es : Edges) (F : List Int) : Prop := ∀ e ∈ es, (e.1 ∈ F ↔ e.2 ∈ F)
theorem look_closed {e : Int × Int} {F : List Int} (h : e.1 ∈ F ↔ e.2 ∈ F) : look e F = F := by
  unfold look
  by_cases c : e.1 ∈ F
  · have := h.mp c
    simp [c, this]
  · have : ¬ e.2 ∈ F := fun z => c (h.mpr z)
    simp [c, this]
theorem turn_closed : ∀ {es : Edges} {F : List Int}, Closed es F → turn es F = F
  | [], _, _ => rfl
  | e :: es, F, h => by
    show turn es (look e F) = F
    rw [look_closed (h e (.head _))]
    exact turn_closed fun f hf => h f (.tail _ hf)
def un (F : List Int) (e : Int × Int) : Bool := !(F.contains e.1 && F.contains e.2)
def unused (es : Edges) (F : List Int) : Nat := (es.filter (un F)).length
theorem neg_ok {F : List Int} {f : Int × Int} (c : ¬ (f.1 ∈ F ∧ f.2 ∈ F)) : un F f = true := by
  unfold un
  cases h : (F.contains f.1 && F.contains f.2) with
  | false => rfl
  | true => exact absurd (by simpa using h) c
theorem neg_no {F : List Int} {f : Int × Int} (c : f.1 ∈ F ∧ f.2 ∈ F) : ¬ un F f = true := by simp [un, c.1, c.2]
theorem unused_le {fs : Edges} {F G : List Int} (h : ∀ x ∈ F, x ∈ G) : unused fs G ≤ unused fs F := by
  unfold unused
  refine List.Sublist.length_le ?_
  induction fs with
  | nil => exact .slnil
  | cons f fs ih =>
    by_cases c : f.1 ∈ F ∧ f.2 ∈ F
    · rw [List.filter_cons_of_neg (neg_no ⟨h _ c.1, h _ c.2⟩), List.filter_cons_of_neg (neg_no c)]
      exact ih
    · by_cases d : f.1 ∈ G ∧ f.2 ∈ G
      · rw [List.filter_cons_of_neg (neg_no d)]
        exact .trans ih (by rw [List.filter_cons_of_pos (neg_ok c)]; exact List.sublist_cons_self _ _)
      · rw [List.filter_cons_of_pos (neg_ok d), List.filter_cons_of_pos (neg_ok c)]
        exact ih.cons₂ _
theorem unused_lt {F G : List Int} {e : Int × Int} (h : ∀ x ∈ F, x ∈ G) (h1 : ¬ (e.1 ∈ F ∧ e.2 ∈ F)) (h2 : e.1 ∈ G ∧ e.2 ∈ G) : ∀ {fs : Edges}, e ∈ fs → unused fs G < unused fs F
  | f :: fs, he => by
    rcases List.mem_cons.mp he with rfl | he
    · have := unused_le (fs := fs) h
      unfold unused at this ⊢
      rw [List.filter_cons_of_neg (neg_no h2), List.filter_cons_of_pos (neg_ok h1), List.length_cons]
      omega
    · have ih := unused_lt h h1 h2 he
      unfold unused at ih ⊢
      by_cases c : f.1 ∈ F ∧ f.2 ∈ F
      · have a := h _ c.1
        have b := h _ c.2
        rw [List.filter_cons_of_neg (neg_no ⟨a, b⟩), List.filter_cons_of_neg (neg_no c)]
        exact ih
      · by_cases d : f.1 ∈ G ∧ f.2 ∈ G
        · rw [List.filter_cons_of_neg (neg_no d), List.filter_cons_of_pos (neg_ok c), List.length_cons]
          omega
        · rw [List.filter_cons_of_pos (neg_ok d), List.filter_cons_of_pos (neg_ok c), List.length_cons, List.length_cons]
          omega
theorem turns_closed {es : Edges} {F : List Int} : ∀ n, Closed es (turns es F n) ∨ unused es (turns es F n) + n ≤ es.length
  | 0 => .inr (by
    show (es.filter _).length + 0 ≤ es.length
    exact List.length_filter_le _ _)
  | n + 1 => by
    rcases turns_closed (es := es) (F := F) n with h | h
    · left
      show Closed es (turn es (turns es F n))
      rw [turn_closed h]
      exact h
    · by_cases c : Closed es (turns es F n)
      · left
        show Closed es (turn es (turns es F n))
        rw [turn_closed c]
        exact c
      · right
        have ⟨e, he⟩ := Classical.not_forall.mp c
        obtain ⟨he, hne⟩ := Classical.not_imp.mp he
        have h1 : ¬ (e.1 ∈ turns es F n ∧ e.2 ∈ turns es F n) := fun z => hne ⟨fun _ => z.2, fun _ => z.1⟩
        have h0 : e.1 ∈ turns es F n ∨ e.2 ∈ turns es F n := by
          apply Classical.byContradiction
          intro z
          exact hne ⟨fun q => absurd (.inl q) z, fun q => absurd (.inr q) z⟩
        have := unused_lt (G := turn es (turns es F n)) (fun x hx => turn_sub hx) h1 (turn_both he h0) he
        show unused es (turn es (turns es F n)) + (n + 1) ≤ es.length
        omega
/-- what the law finds by going round as often as there are ends -/
theorem turns_all {es : Edges} {p x : Int} : x ∈ turns es [p] es.length ↔ Same es p x := by
  refine ⟨turns_same _ x, fun h => ?_⟩
  have hp : ∀ n, p ∈ turns es [p] n := fun n => by
    induction n with
    | zero => exact List.mem_singleton_self _
    | succ n ih => exact turn_sub ih
  have hc : Closed es (turns es [p] es.length) := by
    rcases turns_closed (es := es) (F := [p]) es.length with h | h
    · exact h
    · intro e he
      have z : unused es (turns es [p] es.length) = 0 := by omega
      unfold unused at z
      have := List.filter_eq_nil_iff.mp (List.length_eq_zero_iff.mp z) e he
      simp [un] at this
      exact ⟨fun _ => this.2, fun _ => this.1⟩
  have := h (fun y => decide (y ∈ turns es [p] es.length)) fun e he => by
    have := hc e he
    simp only [this]
  simp only [hp, decide_true] at this
  exact of_decide_eq_true this.symm
end Gr
namespace Gr
def add (F : List Int) (a b : Int) : List Int := if F.contains a && !F.contains b then F ++ [b] else F
theorem look_add (e : Int × Int) (F : List Int) : look e F = add (add F e.1 e.2) e.2 e.1 := rfl
theorem add_len {F : List Int} {a b : Int} : (add F a b).length ≤ F.length + 1 := by
  unfold add
  split
  · rw [List.length_append, List.length_singleton]
    omega
  · omega
theorem turn_len : ∀ {es : Edges} {F : List Int}, (turn es F).length ≤ F.length + 2 * es.length
  | [], _ => Nat.le_refl _
  | e :: es, F => by
    have h1 := turn_len (es := es) (F := look e F)
    have h2 : (look e F).length ≤ F.length + 2 := by
      rw [look_add]
      exact Nat.le_trans add_len (Nat.add_le_add_right add_len 1)
    show (turn es (look e F)).length ≤ _
    rw [List.length_cons]
    omega
theorem turns_len {es : Edges} {F : List Int} : ∀ n, (turns es F n).length ≤ F.length + n * (2 * es.length)
  | 0 => by rw [Nat.zero_mul]; exact Nat.le_refl _
  | n + 1 => by
    have h1 := turns_len (es := es) (F := F) n
    have h2 := turn_len (es := es) (F := turns es F n)
    show (turn es (turns es F n)).length ≤ _
    rw [Nat.add_mul, Nat.one_mul]
    omega
end Gr
/-! blocks: marks that sink to the least of those that hang together; the first place of each group -/
namespace Bk
open Gr
def low (M : Int → Int) (e : Int × Int) : Int → Int := fun x => if x = e.1 ∨ x = e.2 then (if M e.2 < M e.1 then M e.2 else M e.1) else M x
def lows (es : Edges) (M : Int → Int) : Int → Int := es.foldl low M
def lowN (es : Edges) : Nat → Int → Int
  | 0 => id
  | n + 1 => lows es (lowN es n)
theorem lows_snoc (es : Edges) (e : Int × Int) (M : Int → Int) : lows (es ++ [e]) M = low (lows es M) e := by
  unfold lows
  rw [List.foldl_append]
  rfl
def In (N : Nat) (x : Int) : Prop := 0 ≤ x ∧ x < N
def Good (es : Edges) (N : Nat) (M : Int → Int) : Prop := ∀ x, In N x → 0 ≤ M x ∧ M x ≤ x ∧ Same es x (M x)
def Set_ (es : Edges) (N : Nat) (M : Int → Int) (x : Int) : Prop := ∀ y, In N y → Same es x y → M x ≤ y
theorem low_le (M : Int → Int) (e : Int × Int) (x : Int) : low M e x ≤ M x := by
  unfold low
  split
  · rename_i h
    rcases h with rfl | rfl <;> split <;> omega
  · exact Int.le_refl _
theorem low_good {fs : Edges} {N : Nat} {M : Int → Int} {e : Int × Int} (g : Good fs N M) (he : e ∈ fs) (h1 : In N e.1) (h2 : In N e.2) : Good fs N (low M e) := fun x hx => by
  have ed : Same fs e.1 e.2 := .edge he
  obtain ⟨a1, a2, a3⟩ := g _ h1
  obtain ⟨b1, b2, b3⟩ := g _ h2
  obtain ⟨c1, c2, c3⟩ := g _ hx
  have le := low_le M e x
  refine ⟨?_, by omega, ?_⟩
  · unfold low
    split
    · split <;> assumption
    · exact c1
  · unfold low
    split
    · rename_i h
      rcases h with rfl | rfl
      · split
        · exact ed.trans b3
        · exact a3
      · split
        · exact b3
        · exact ed.symm.trans a3
    · exact c3
theorem low_set {fs : Edges} {N : Nat} {M : Int → Int} {e : Int × Int} {x : Int} (h : Set_ fs N M x) : Set_ fs N (low M e) x := fun y hy s => Int.le_trans (low_le M e x) (h y hy s)
theorem low_both {fs : Edges} {N : Nat} {M : Int → Int} {e : Int × Int} (he : e ∈ fs) (h : Set_ fs N M e.1 ∨ Set_ fs N M e.2) : Set_ fs N (low M e) e.1 ∧ Set_ fs N (low M e) e.2 := by
  have ed : Same fs e.1 e.2 := .edge he
  have v1 : low M e e.1 = (if M e.2 < M e.1 then M e.2 else M e.1) := if_pos (.inl rfl)
  have v2 : low M e e.2 = (if M e.2 < M e.1 then M e.2 else M e.1) := if_pos (.inr rfl)
  have key : ∀ y, In N y → (Same fs e.1 y ∨ Same fs e.2 y) → (if M e.2 < M e.1 then M e.2 else M e.1) ≤ y := fun y hy s => by
    rcases h with h | h
    · have := h y hy (s.elim id fun s => ed.trans s)
      split <;> omega
    · have := h y hy (s.elim (fun s => ed.symm.trans s) id)
      split <;> omega
  exact ⟨fun y hy s => by rw [v1]; exact key y hy (.inl s), fun y hy s => by rw [v2]; exact key y hy (.inr s)⟩
theorem lows_keep {fs : Edges} {N : Nat} {x : Int} : ∀ {es : Edges} {M : Int → Int}, Set_ fs N M x → Set_ fs N (lows es M) x
  | [], _, h => h
  | e :: es, M, h => lows_keep (es := es) (M := low M e) (low_set h)
theorem lows_both {fs : Edges} {N : Nat} {e : Int × Int} : ∀ {es : Edges} {M : Int → Int}, (∀ f ∈ es, f ∈ fs) → e ∈ es → (Set_ fs N M e.1 ∨ Set_ fs N M e.2) → Set_ fs N (lows es M) e.1 ∧ Set_ fs N (lows es M) e.2
  | f :: es, M, hs, he, h => by
    rcases List.mem_cons.mp he with rfl | he
    · have := low_both (hs _ (.head _)) h
      exact ⟨lows_keep (es := es) this.1, lows_keep (es := es) this.2⟩
    · exact lows_both (es := es) (M := low M f) (fun g hg => hs g (.tail _ hg)) he (h.imp low_set low_set)
theorem lows_good {fs : Edges} {N : Nat} (hb : ∀ e ∈ fs, In N e.1 ∧ In N e.2) : ∀ {es : Edges} {M : Int → Int}, (∀ f ∈ es, f ∈ fs) → Good fs N M → Good fs N (lows es M)
  | [], _, _, h => h
  | e :: es, M, hs, h => lows_good hb (es := es) (M := low M e) (fun f hf => hs f (.tail _ hf)) (low_good h (hs e (.head _)) (hb e (hs e (.head _))).1 (hb e (hs e (.head _))).2)
theorem filt_le {α : Type} {p q : α → Bool} : ∀ {L : List α}, (∀ i ∈ L, q i = true → p i = true) → (L.filter q).length ≤ (L.filter p).length
  | [], _ => Nat.le_refl _
  | a :: L, h => by
    have ih := filt_le (p := p) (q := q) (L := L) fun i hi => h i (.tail _ hi)
    cases hq : q a with
    | true =>
      rw [List.filter_cons_of_pos hq, List.filter_cons_of_pos (h a (.head _) hq), List.length_cons, List.length_cons]
      omega
    | false =>
      rw [List.filter_cons_of_neg (by rw [hq]; exact Bool.false_ne_true)]
      have : (L.filter p).length ≤ ((a :: L).filter p).length := (List.Sublist.filter p (List.sublist_cons_self a L)).length_le
      omega
theorem filt_lt {α : Type} {p q : α → Bool} {x : α} : ∀ {L : List α}, (∀ i ∈ L, q i = true → p i = true) → x ∈ L → p x = true → q x = false → (L.filter q).length < (L.filter p).length
  | a :: L, h, hx, px, qx => by
    have le := filt_le (p := p) (q := q) (L := L) fun i hi => h i (.tail _ hi)
    rcases List.mem_cons.mp hx with rfl | hx
    · rw [List.filter_cons_of_neg (by rw [qx]; exact Bool.false_ne_true), List.filter_cons_of_pos px, List.length_cons]
      omega
    · have ih := filt_lt (p := p) (q := q) (L := L) (fun i hi => h i (.tail _ hi)) hx px qx
      cases hq : q a with
      | true =>
        rw [List.filter_cons_of_pos hq, List.filter_cons_of_pos (h a (.head _) hq), List.length_cons, List.length_cons]
        omega
      | false =>
        rw [List.filter_cons_of_neg (by rw [hq]; exact Bool.false_ne_true)]
        have : (L.filter p).length ≤ ((a :: L).filter p).length := (List.Sublist.filter p (List.sublist_cons_self a L)).length_le
        omega
theorem least_of {P : Nat → Prop} : ∀ n, P n → ∃ m, P m ∧ ∀ k, P k → m ≤ k := fun n => by
  induction n using Nat.strongRecOn with
  | ind n ih =>
    intro hn
    by_cases c : ∃ k, k < n ∧ P k
    · obtain ⟨k, hk, pk⟩ := c
      exact ih k hk pk
    · exact ⟨n, hn, fun k pk => Nat.le_of_not_lt fun z => c ⟨k, z, pk⟩⟩
/-- each place hangs together with one that is settled -/
theorem settled_one {fs : Edges} {N : Nat} {M : Int → Int} (g : Good fs N M) {x : Int} (hx : In N x) : ∃ y, In N y ∧ Same fs x y ∧ Set_ fs N M y := by
  obtain ⟨m, ⟨h1, h2⟩, h3⟩ := least_of (P := fun k : Nat => In N (k : Int) ∧ Same fs x k) x.toNat (by
    have : ((x.toNat : Nat) : Int) = x := Int.toNat_of_nonneg hx.1
    rw [this]
    exact ⟨hx, .refl x⟩)
  refine ⟨m, h1, h2, fun y hy s => ?_⟩
  have := h3 y.toNat (by
    have : ((y.toNat : Nat) : Int) = y := Int.toNat_of_nonneg hy.1
    rw [this]
    exact ⟨hy, h2.trans s⟩)
  have := (g _ h1).2.1
  have := hy.1
  omega
open Classical in
noncomputable def un (fs : Edges) (N : Nat) (M : Int → Int) : Nat := ((List.range N).filter fun i : Nat => decide (¬ Set_ fs N M (i : Int))).length
theorem un_lt {es : Edges} {N : Nat} {M : Int → Int} (hb : ∀ e ∈ es, In N e.1 ∧ In N e.2) (g : Good es N M) (h : un es N M ≠ 0) : un es N (lows es M) < un es N M := by
  classical
  have hne : (List.range N).filter (fun i : Nat => decide (¬ Set_ es N M (i : Int))) ≠ [] := fun z => h (by unfold un; rw [z]; rfl)
  obtain ⟨x, hx⟩ := List.exists_mem_of_ne_nil _ hne
  obtain ⟨hx, nx⟩ := List.mem_filter.mp hx
  have nx := of_decide_eq_true nx
  have ix : In N (x : Int) := ⟨by omega, by have := List.mem_range.mp hx; omega⟩
  obtain ⟨y, iy, sxy, sy⟩ := settled_one g ix
  have ⟨e, he, hd⟩ : ∃ e ∈ es, ¬ (decide (Set_ es N M e.1) = decide (Set_ es N M e.2)) := by
    apply Classical.byContradiction
    intro z
    have := sxy (fun u => decide (Set_ es N M u)) fun e he => Classical.byContradiction fun q => z ⟨e, he, q⟩
    simp only [decide_eq_decide] at this
    exact nx (this.mpr sy)
  have both : Set_ es N (lows es M) e.1 ∧ Set_ es N (lows es M) e.2 := lows_both (fun _ h => h) he (by
    apply Classical.byContradiction
    intro z
    have z1 : ¬ Set_ es N M e.1 := fun q => z (.inl q)
    have z2 : ¬ Set_ es N M e.2 := fun q => z (.inr q)
    exact hd (by rw [decide_eq_false z1, decide_eq_false z2]))
  have fin : ∀ u, In N u → ¬ Set_ es N M u → Set_ es N (lows es M) u → un es N (lows es M) < un es N M := fun u iu n1 n2 => by
    refine filt_lt (x := u.toNat) (fun i _ hi => ?_) (List.mem_range.mpr (by have := iu.1; have := iu.2; omega)) ?_ ?_
    · have := of_decide_eq_true hi
      exact decide_eq_true fun q => this (lows_keep q)
    · rw [Int.toNat_of_nonneg iu.1]
      exact decide_eq_true n1
    · rw [Int.toNat_of_nonneg iu.1]
      exact decide_eq_false fun q => q n2
  by_cases c : Set_ es N M e.1
  · exact fin e.2 (hb e he).2 (fun q => hd (by rw [decide_eq_true c, decide_eq_true q])) both.2
  · exact fin e.1 (hb e he).1 c both.1
theorem lowN_good {es : Edges} {N : Nat} (hb : ∀ e ∈ es, In N e.1 ∧ In N e.2) : ∀ n, Good es N (lowN es n)
  | 0 => fun x hx => ⟨hx.1, Int.le_refl x, .refl x⟩
  | n + 1 => lows_good hb (fun _ h => h) (lowN_good hb n)
open Classical in
theorem lowN_un {es : Edges} {N : Nat} (hb : ∀ e ∈ es, In N e.1 ∧ In N e.2) : ∀ n, un es N (lowN es n) ≤ N - n
  | 0 => by
    unfold un
    exact Nat.le_trans (List.length_filter_le _ _) (by rw [List.length_range]; exact Nat.le_refl _)
  | n + 1 => by
    have ih := lowN_un hb n
    by_cases c : un es N (lowN es n) = 0
    · have le : un es N (lows es (lowN es n)) ≤ un es N (lowN es n) := by
        refine filt_le fun i _ hi => ?_
        have := of_decide_eq_true hi
        exact decide_eq_true fun q => this (lows_keep q)
      show un es N (lows es (lowN es n)) ≤ _
      omega
    · have := un_lt hb (lowN_good hb n) c
      show un es N (lows es (lowN es n)) ≤ _
      omega
/-- what as many turns as there are places come to -/
theorem low_all {es : Edges} {N : Nat} (hb : ∀ e ∈ es, In N e.1 ∧ In N e.2) {x : Int} (hx : In N x) : Set_ es N (lowN es N) x := by
  classical
  have h := lowN_un hb N
  have z : un es N (lowN es N) = 0 := by omega
  have := List.filter_eq_nil_iff.mp (List.length_eq_zero_iff.mp z) x.toNat (List.mem_range.mpr (by have := hx.1; have := hx.2; omega))
  rw [Int.toNat_of_nonneg hx.1] at this
  apply Classical.byContradiction
  intro q
  exact this (decide_eq_true q)
theorem low_same {es : Edges} {N : Nat} (hb : ∀ e ∈ es, In N e.1 ∧ In N e.2) {x y : Int} (hx : In N x) (hy : In N y) : lowN es N x = lowN es N y ↔ Same es x y := by
  obtain ⟨a1, a2, a3⟩ := lowN_good hb N x hx
  obtain ⟨b1, b2, b3⟩ := lowN_good hb N y hy
  refine ⟨fun h => a3.trans (by rw [h]; exact b3.symm), fun s => ?_⟩
  have i1 : In N (lowN es N x) := ⟨a1, by have := hx.2; omega⟩
  have i2 : In N (lowN es N y) := ⟨b1, by have := hy.2; omega⟩
  have h1 := low_all hb hx _ i2 (s.trans b3)
  have h2 := low_all hb hy _ i1 (s.symm.trans a3)
  omega
/-- the places ahead of which none is of the same group -/
def firsts (g : Int → Int) (n : Nat) : List Nat := (List.range n).filter fun x : Nat => (List.range x).all fun y : Nat => g (y : Int) != g (x : Int)
theorem firsts_lt {g : Int → Int} {n f : Nat} (h : f ∈ firsts g n) : f < n := List.mem_range.mp (List.mem_filter.mp h).1
theorem firsts_uniq {g : Int → Int} {n f k : Nat} (h : f ∈ firsts g n) (k_ : k ∈ firsts g n) (e : g f = g k) : f = k := by
  have h1 := (List.mem_filter.mp h).2
  have h2 := (List.mem_filter.mp k_).2
  rw [List.all_eq_true] at h1 h2
  rcases Nat.lt_trichotomy f k with z | z | z
  · have := h2 f (List.mem_range.mpr z)
    rw [bne_iff_ne] at this
    exact absurd e this
  · exact z
  · have := h1 k (List.mem_range.mpr z)
    rw [bne_iff_ne] at this
    exact absurd e.symm this
/-- each place has its first one -/
theorem firsts_of {g : Int → Int} {n x : Nat} (h : x < n) : ∃ f ∈ firsts g n, g f = g x := by
  obtain ⟨m, hm, hl⟩ := least_of (P := fun k : Nat => g (k : Int) = g (x : Int)) x rfl
  have mx := hl x rfl
  refine ⟨m, List.mem_filter.mpr ⟨List.mem_range.mpr (by omega), ?_⟩, hm⟩
  rw [List.all_eq_true]
  intro y hy
  rw [bne_iff_ne]
  intro z
  have := hl y (z.trans hm)
  have := List.mem_range.mp hy
  omega
theorem firsts_old {g : Int → Int} {n f : Nat} (h : f ∈ firsts g n) (e : g f = g n) : firsts g (n + 1) = firsts g n := by
  unfold firsts
  rw [List.range_succ, List.filter_append, List.filter_cons_of_neg, List.filter_nil, List.append_nil]
  intro z
  rw [List.all_eq_true] at z
  have := z f (List.mem_range.mpr (firsts_lt h))
  rw [bne_iff_ne] at this
  exact this e
theorem firsts_new {g : Int → Int} {n : Nat} (h : ∀ f ∈ firsts g n, g f ≠ g n) : firsts g (n + 1) = firsts g n ++ [n] := by
  unfold firsts
  rw [List.range_succ, List.filter_append, List.filter_cons_of_pos, List.filter_nil]
  rw [List.all_eq_true]
  intro y hy
  rw [bne_iff_ne]
  intro z
  obtain ⟨f, hf, e⟩ := firsts_of (g := g) (List.mem_range.mp hy)
  exact h f hf (e.trans z)
theorem sorted_eq : ∀ {l1 l2 : List Int}, l1.Pairwise (· < ·) → l2.Pairwise (· < ·) → (∀ x, x ∈ l1 ↔ x ∈ l2) → l1 = l2
  | [], [], _, _, _ => rfl
  | [], b :: l2, _, _, h => absurd ((h b).mpr (.head _)) (by simp)
  | a :: l1, [], _, _, h => absurd ((h a).mp (.head _)) (by simp)
  | a :: l1, b :: l2, h1, h2, h => by
    obtain ⟨a1, p1⟩ := List.pairwise_cons.mp h1
    obtain ⟨b1, p2⟩ := List.pairwise_cons.mp h2
    have ab : a = b := by
      rcases List.mem_cons.mp ((h a).mp (.head _)) with e | e
      · exact e
      · rcases List.mem_cons.mp ((h b).mpr (.head _)) with e2 | e2
        · exact e2.symm
        · have := b1 a e
          have := a1 b e2
          omega
    subst ab
    rw [sorted_eq p1 p2 fun x => ?_]
    refine ⟨fun hx => ?_, fun hx => ?_⟩
    · rcases List.mem_cons.mp ((h x).mp (.tail _ hx)) with e | e
      · have := a1 x hx
        omega
      · exact e
    · rcases List.mem_cons.mp ((h x).mpr (.tail _ hx)) with e | e
      · have := b1 x hx
        omega
      · exact e
def cast (l : List Nat) : List Int := l.map fun x : Nat => (x : Int)
/-- a block: its rows and its columns -/
def blk (p : Nat → Bool) (m w : Nat) : List Int × List Int := (cast ((List.range m).filter p), cast ((List.range w).filter fun x => p (m + x)))
def blocksG (g : Int → Int) (m w : Nat) : List (List Int × List Int) := (firsts g (m + w)).map fun f : Nat => blk (fun x : Nat => g (x : Int) == g (f : Int)) m w
/-- what is put together so far, of the first t places -/
def rowsT (g : Int → Int) (m t f : Nat) : List Int := cast ((List.range t).filter fun x : Nat => decide (x < m) && (g (x : Int) == g (f : Int)))
def colsT (g : Int → Int) (m t f : Nat) : List Int := ((List.range t).filter fun x : Nat => decide (m ≤ x) && (g (x : Int) == g (f : Int))).map fun x : Nat => (x : Int) - m
theorem rowsT_all (g : Int → Int) (m w f : Nat) : rowsT g m (m + w) f = (blk (fun x : Nat => g (x : Int) == g (f : Int)) m w).1 := by
  unfold rowsT blk
  show cast _ = cast _
  congr 1
  rw [List.range_add, List.filter_append]
  have h1 : (List.range m).filter (fun x : Nat => decide (x < m) && (g (x : Int) == g (f : Int))) = (List.range m).filter fun x : Nat => g (x : Int) == g (f : Int) := List.filter_congr fun x hx => by
    rw [decide_eq_true (List.mem_range.mp hx), Bool.true_and]
  have h2 : ((List.range w).map (m + ·)).filter (fun x : Nat => decide (x < m) && (g (x : Int) == g (f : Int))) = [] := by
    rw [List.filter_eq_nil_iff]
    intro x hx
    obtain ⟨y, _, rfl⟩ := List.mem_map.mp hx
    rw [decide_eq_false (by omega), Bool.false_and]
    exact Bool.false_ne_true
  rw [h1, h2, List.append_nil]
theorem colsT_all (g : Int → Int) (m w f : Nat) : colsT g m (m + w) f = (blk (fun x : Nat => g (x : Int) == g (f : Int)) m w).2 := by
  unfold colsT blk cast
  rw [List.range_add, List.filter_append, List.filter_map]
  have h1 : (List.range m).filter (fun x : Nat => decide (m ≤ x) && (g (x : Int) == g (f : Int))) = [] := by
    rw [List.filter_eq_nil_iff]
    intro x hx
    have := List.mem_range.mp hx
    rw [decide_eq_false (by omega), Bool.false_and]
    exact Bool.false_ne_true
  rw [h1, List.nil_append, List.map_map]
  have h2 : (List.range w).filter ((fun x : Nat => decide (m ≤ x) && (g (x : Int) == g (f : Int))) ∘ (m + ·)) = (List.range w).filter fun x : Nat => g ((m + x : Nat) : Int) == g (f : Int) := List.filter_congr fun x _ => by
    show (decide (m ≤ m + x) && _) = _
    rw [decide_eq_true (by omega), Bool.true_and]
  rw [h2]
  refine List.map_congr_left fun x _ => ?_
  show ((m + x : Nat) : Int) - m = x
  omega
theorem rowsT_step (g : Int → Int) (m t f : Nat) : rowsT g m (t + 1) f = if t < m ∧ g t = g f then rowsT g m t f ++ [(t : Int)] else rowsT g m t f := by
  unfold rowsT cast
  rw [List.range_succ, List.filter_append]
  by_cases c : t < m ∧ g t = g f
  · rw [if_pos c, List.filter_cons_of_pos (by rw [decide_eq_true c.1, c.2]; simp), List.filter_nil, List.map_append]
    rfl
  · rw [if_neg c, List.filter_cons_of_neg (by
      intro z
      rw [Bool.and_eq_true, decide_eq_true_eq, beq_iff_eq] at z
      exact c z), List.filter_nil, List.append_nil]
theorem colsT_step (g : Int → Int) (m t f : Nat) : colsT g m (t + 1) f = if ¬ t < m ∧ g t = g f then colsT g m t f ++ [(t : Int) - m] else colsT g m t f := by
  unfold colsT
  rw [List.range_succ, List.filter_append]
  by_cases c : ¬ t < m ∧ g t = g f
  · rw [if_pos c, List.filter_cons_of_pos (by rw [decide_eq_true (Nat.le_of_not_lt c.1), c.2]; simp), List.filter_nil, List.map_append]
    rfl
  · rw [if_neg c, List.filter_cons_of_neg (by
      intro z
      rw [Bool.and_eq_true, decide_eq_true_eq, beq_iff_eq] at z
      exact c ⟨by omega, z.2⟩), List.filter_nil, List.append_nil]
theorem rowsT_new {g : Int → Int} {m n : Nat} (h : ∀ f ∈ firsts g n, g f ≠ g n) : rowsT g m n n = [] ∧ colsT g m n n = [] := by
  have key : ∀ x, x < n → (g (x : Int) == g (n : Int)) = false := fun x hx => by
    obtain ⟨f, hf, e⟩ := firsts_of (g := g) hx
    cases c : (g (x : Int) == g (n : Int)) with
    | false => rfl
    | true => exact absurd (e.trans (beq_iff_eq.mp c)) (h f hf)
  unfold rowsT colsT cast
  constructor
  · rw [List.filter_eq_nil_iff.mpr fun x hx => by
      rw [key x (List.mem_range.mp hx), Bool.and_false]
      exact Bool.false_ne_true]
    rfl
  · rw [List.filter_eq_nil_iff.mpr fun x hx => by
      rw [key x (List.mem_range.mp hx), Bool.and_false]
      exact Bool.false_ne_true]
    rfl
theorem rowsT_len (g : Int → Int) (m t f : Nat) : (rowsT g m t f).length ≤ t := by
  unfold rowsT cast
  rw [List.length_map]
  exact Nat.le_trans (List.length_filter_le _ _) (by rw [List.length_range]; exact Nat.le_refl _)
theorem colsT_len (g : Int → Int) (m t f : Nat) : (colsT g m t f).length ≤ t := by
  unfold colsT
  rw [List.length_map]
  exact Nat.le_trans (List.length_filter_le _ _) (by rw [List.length_range]; exact Nat.le_refl _)
theorem first_low {es : Edges} {m w f : Nat} (hb : ∀ e ∈ es, In (m + w) e.1 ∧ In (m + w) e.2) (hf : f ∈ firsts (joins es id) (m + w)) : lowN es (m + w) f = (f : Int) := by
  have lf := firsts_lt hf
  obtain ⟨a1, a2, a3⟩ := lowN_good hb (m + w) f ⟨by omega, by omega⟩
  rcases Int.lt_or_eq_of_le a2 with c | c
  · exfalso
    have e : ((lowN es (m + w) f).toNat : Int) = lowN es (m + w) f := Int.toNat_of_nonneg a1
    have hh := (List.mem_filter.mp hf).2
    rw [List.all_eq_true] at hh
    have := hh (lowN es (m + w) f).toNat (List.mem_range.mpr (by omega))
    rw [bne_iff_ne] at this
    refine this ?_
    rw [e]
    exact (joins_same _ es rfl _ _).mpr a3.symm
  · exact c
theorem marks_ok {es : Edges} {m w : Nat} (hb : ∀ e ∈ es, In (m + w) e.1 ∧ In (m + w) e.2) :
    (cast (firsts (joins es id) (m + w))).Pairwise (· < ·) ∧ ∀ k, k ∈ cast (firsts (joins es id) (m + w)) ↔ ∃ x : Nat, x < m + w ∧ lowN es (m + w) (x : Int) = k := by
  have cin : ∀ {x : Nat}, x < m + w → In (m + w) (x : Int) := fun h => ⟨by omega, by omega⟩
  have gM : ∀ {x y : Nat}, x < m + w → y < m + w → (joins es id x = joins es id y ↔ lowN es (m + w) x = lowN es (m + w) y) := fun hx hy => by
    rw [joins_same _ es rfl, low_same hb (cin hx) (cin hy)]
  refine ⟨?_, fun k => ⟨fun hk => ?_, fun ⟨x, hx, hk⟩ => ?_⟩⟩
  · unfold cast
    rw [List.pairwise_map]
    refine List.Pairwise.imp (R := fun a b : Nat => a < b) (fun h => by omega) ?_
    exact List.Pairwise.filter _ List.pairwise_lt_range
  · obtain ⟨f, hf, rfl⟩ := List.mem_map.mp hk
    exact ⟨f, firsts_lt hf, first_low hb hf⟩
  · obtain ⟨f, hf, ef⟩ := firsts_of (g := joins es id) hx
    refine List.mem_map.mpr ⟨f, hf, ?_⟩
    rw [← hk, ← first_low hb hf]
    exact (gM (firsts_lt hf) hx).mp ef
/-- the law's blocks by their sorted marks are the program's by their first places -/
theorem due_eq {es : Edges} {m w : Nat} (hb : ∀ e ∈ es, In (m + w) e.1 ∧ In (m + w) e.2) {ns : List Int} (h1 : ns.Pairwise (· < ·)) (h2 : ∀ k, k ∈ ns ↔ ∃ x : Nat, x < m + w ∧ lowN es (m + w) (x : Int) = k) :
    ns.map (fun k => blk (fun x : Nat => lowN es (m + w) (x : Int) == k) m w) = blocksG (joins es id) m w := by
  have cin : ∀ {x : Nat}, x < m + w → In (m + w) (x : Int) := fun h => ⟨by omega, by omega⟩
  have gM : ∀ {x y : Nat}, x < m + w → y < m + w → (joins es id x = joins es id y ↔ lowN es (m + w) x = lowN es (m + w) y) := fun hx hy => by
    rw [joins_same _ es rfl, low_same hb (cin hx) (cin hy)]
  have fix : ∀ {f : Nat}, f ∈ firsts (joins es id) (m + w) → lowN es (m + w) f = (f : Int) := fun {f} hf => by
    obtain ⟨a1, a2, a3⟩ := lowN_good hb (m + w) f (cin (firsts_lt hf))
    have lf := firsts_lt hf
    rcases Int.lt_or_eq_of_le a2 with c | c
    · exfalso
      have e : ((lowN es (m + w) f).toNat : Int) = lowN es (m + w) f := Int.toNat_of_nonneg a1
      have hh := (List.mem_filter.mp hf).2
      rw [List.all_eq_true] at hh
      have := hh (lowN es (m + w) f).toNat (List.mem_range.mpr (by omega))
      rw [bne_iff_ne] at this
      refine this ?_
      rw [e]
      exact (joins_same _ es rfl _ _).mpr a3.symm
    · exact c
  have sort : ((firsts (joins es id) (m + w)).map fun x : Nat => (x : Int)).Pairwise (· < ·) := by
    rw [List.pairwise_map]
    refine List.Pairwise.imp (R := fun a b : Nat => a < b) (fun h => by omega) ?_
    exact List.Pairwise.filter _ List.pairwise_lt_range
  have e := sorted_eq h1 sort fun k => by
    rw [h2]
    refine ⟨fun ⟨x, hx, hk⟩ => ?_, fun hk => ?_⟩
    · obtain ⟨f, hf, ef⟩ := firsts_of (g := joins es id) hx
      refine List.mem_map.mpr ⟨f, hf, ?_⟩
      rw [← hk, ← fix hf]
      exact (gM (firsts_lt hf) hx).mp ef
    · obtain ⟨f, hf, rfl⟩ := List.mem_map.mp hk
      exact ⟨f, firsts_lt hf, fix hf⟩
  rw [e, List.map_map]
  unfold blocksG
  refine List.map_congr_left fun f hf => ?_
  have lf := firsts_lt hf
  have key : ∀ x : Nat, x < m + w → (lowN es (m + w) (x : Int) == (f : Int)) = (joins es id x == joins es id f) := fun x hx => by
    rw [Bool.eq_iff_iff, beq_iff_eq, beq_iff_eq, gM hx lf, fix hf]
  show blk (fun x : Nat => lowN es (m + w) (x : Int) == (f : Int)) m w = _
  unfold blk
  rw [List.filter_congr fun x hx => key x (by have := List.mem_range.mp hx; omega), List.filter_congr fun x hx => key (m + x) (by have := List.mem_range.mp hx; omega)]
end Bk
/-! set(a list of whole numbers), list(d.values()) -/
namespace SetL
open PySem PySem.Spec PyProof.Rows L2
section
variable {P : Program} {w : World} {A : Around} {E : Value → Shared → Prop} {st : Shared}
abbrev blank (w : World) : Obj := { cls := .type "set", dict := none, data := .set #[] 0 (.fresh 0 0 (!w.params.followText "set-order")) }
set_option maxRecDepth 100000 in
set_option maxHeartbeats 3200000 in
theorem set_ofList {lad : Addr} {vals : Array Value} (zs : List Int) {W : Value → Shared → Prop} (calm : A.handled = none) (isl : st.heap.IsList lad vals) (nums : IntsAre vals.toList zs) (few : zs.length + 1 < scanBound)
    (go : ∀ (g : Heap) (tk c : Nat), SetR w g st.heap.objs.size (fun j => decide (j ∈ zs)) c → c ≤ zs.length → (∀ b o, st.heap.get? b = some o → g.get? b = some o) → W (.ref st.heap.objs.size) { st with heap := g, toks := tk }) :
    wpAny (model P w) A (call (.type "set") [.ref lad]) W E st := by
  have many : vals.size = zs.length := by
    have := IntsAre.length nums
    rwa [Array.length_toList] at this
  obtain ⟨_, _, chain⟩ := F.called_set.mro
  have mk := F.called_set.made
  have sb := F.called_set.sub
  refine wpAny_call (codeAny_of_tree ?_)
  show wpAny _ _ (callAny (.type "set") _) _ _ st
  refine wpAny_pure ⟨Code.quiet_builtin _ (by decide +kernel), codeAny_builtin (hb := F.entry_type_call) ?_⟩
  rw [Around.under_plain (weight_type_call_type "set" ([.ref lad] : List Value) []) rfl]
  have no_t := F.called_set.notType
  have can := F.called_set.canCreate
  have tcall := F.typeCall_set_1 (.ref lad)
  repeat (any_goals (first | assumption | wp_step))
  refine codeAny_mono (code_set_led1 (P := P) (w := w) (.ref lad) (E := E) (Q₁ := fun ob t1 => ob = .ref st.heap.objs.size ∧ t1 = { st with heap := st.heap.push (blank w) }) ⟨rfl, rfl⟩) fun res t1 got => ?_
  match res, got with
  | .error _, got => exact got
  | .ok .next, got => exact got.elim
  | .ok .brk, got => exact got.elim
  | .ok .cont, got => exact got.elim
  | .ok (.ret ob), got =>
    obtain ⟨rfl, rfl⟩ := got
    have here : (st.heap.push (blank w)).get? st.heap.objs.size = some (blank w) := Heap.get?_push_size _ rfl
    have isS : Shared.TypeIs { st with heap := st.heap.push (blank w) } (.ref st.heap.objs.size) "set" := ⟨_, here, rfl⟩
    have ilook := F.called_set.init.lookup
    have ibind := F.called_set.init.bind (.ref st.heap.objs.size)
    repeat (any_goals (first | assumption | wp_step))
    refine codeAny_mono (codeAny_call_builtin (R := wants (fun r t2 => r = .none ∧ ∃ g tk c, t2 = { st with heap := g, toks := tk } ∧ SetR w g st.heap.objs.size (fun j => decide (j ∈ zs)) c ∧ c ≤ zs.length ∧ (∀ b o, st.heap.get? b = some o → g.get? b = some o)) E) F.called_set.init.plain F.entry_set_init (check_set_init_1 isS ?_)) fun res2 t2 got2 => ?_
    · obtain ⟨ol, hol, hcl, nl, hdl⟩ := isl
      obtain ⟨ocls, odict, odata, oslots⟩ := ol
      simp only at hcl hdl
      subst hcl hdl
      have seen : (st.heap.push (blank w)).get? lad = some { cls := .type "list", dict := odict, data := .seq vals nl, slots := oslots } := Heap.get?_push_of_some _ hol
      have s1 := F.sub_list_set
      have s2 := F.sub_list_frozenset
      have nd : (Value.type "list" == Value.type "dict") = false := by decide
      have isl1 : (st.heap.push (blank w)).IsList lad vals := ⟨_, seen, rfl, nl, rfl⟩
      unfold Builtin.«set.__init__» noKeywords Builtin.Frozenset.updateFrom
      generalize hPI : pyIter = PI
      wp_walk
      subst hPI
      refine wpAny_pyIter_list isl1 ?_
      refine wpAny_bind (wpAny_runValue ?_)
      have below : lad < st.heap.objs.size := Heap.lt_size hol
      have calm3 : A.in1.in1.in1.handled = none := by simp [calm]
      have sz1 : (st.heap.push (blank w)).objs.size = st.heap.objs.size + 1 := Heap.size_push ..
      have ne1 : lad ≠ (st.heap.push (blank w)).objs.size := by
        rw [sz1]
        exact Nat.ne_of_lt (Nat.lt_succ_of_lt below)
      have off : st.heap.objs.size ∉ [(st.heap.push (blank w)).objs.size, lad] := by
        rw [sz1]
        simp only [List.mem_cons, List.not_mem_nil, or_false, not_or]
        exact ⟨Nat.ne_of_lt (Nat.lt_succ_self _), Nat.ne_of_gt below⟩
      have each : ∀ (i : Nat) (v : Value), vals[i]? = some v → ∃ k t, zs[i]? = some k ∧ v = .int k t := fun i v hv => by
        have lt : i < zs.length := many ▸ (Array.getElem?_eq_some_iff.mp hv).1
        obtain ⟨t, e⟩ := PyProof.Rows.IntsAre.int_at nums i v (by rw [Array.getElem?_toList]; exact hv)
        refine ⟨zs[i], t, List.getElem?_eq_getElem lt, ?_⟩
        rw [e, List.getD_eq_getElem?_getD, List.getElem?_eq_getElem lt]
        rfl
      refine set_update_ints ((Walks.list calm3 _ lad ne1 vals).toS) st.heap.objs.size off zs many few each (vals.size - 0) 0 _ (by omega) (Nat.zero_le _) ⟨⟨_, Heap.get?_push_size _ rfl, rfl, rfl⟩, (isl1.push _)⟩ ?beg ?fin
      case beg => exact ⟨0, Nat.le_refl 0, setR_new_at (Heap.get?_push_of_some _ here)⟩
      case fin =>
        intro t' c' mv le' set'
        obtain ⟨g, g2, d', tk', os'⟩ := t'
        have q1 : g2 = st.gens := mv.gens
        have q2 : d' = st.drawn := mv.drawn
        have q3 : os' = st.os := mv.os
        subst q1 q2 q3
        show wpAny _ _ _ _ _ _
        refine wpAny_pure ?_
        show wpAny _ _ (ret Value.none) _ _ _
        refine wpAny_pure ⟨rfl, g, tk', c', rfl, set', many ▸ le', fun b o e => ?_⟩
        have lt := Heap.lt_size e
        refine mv.heap b o ?_ (Heap.get?_push_of_some _ (Heap.get?_push_of_some _ e))
        rw [sz1]
        simp only [List.mem_cons, List.not_mem_nil, or_false, not_or]
        exact ⟨Nat.ne_of_lt lt, Nat.ne_of_lt (Nat.lt_succ_of_lt lt)⟩
    · match res2, got2 with
      | .error _, got2 => exact got2
      | .ok .next, got2 => exact got2.elim
      | .ok .brk, got2 => exact got2.elim
      | .ok .cont, got2 => exact got2.elim
      | .ok (.ret r), got2 =>
        obtain ⟨rfl, g, tk, c', rfl, h1, h2, h3⟩ := got2
        repeat (any_goals (first | assumption | wp_step))
        exact go _ _ _ h1 h2 h3
end
section
variable {X : Cx}
theorem ints_of : ∀ {zs : List Int} {us : List Value}, Vals (zs.map V.int) us → IntsAre us zs
  | [], _, .nil => .nil
  | z :: zs, _, .cons r t => by
    obtain ⟨k, rfl⟩ := r
    exact .cons z k (ints_of t)
def rSetL (K : PySem.W.Frag) (w : World) : List V → Hp → VK → Prop := fun xs H Q => ∃ (l : Addr) (zs : List Int), xs = [.ref l] ∧ SqL K H l (zs.map V.int) ∧ zs.length ≤ 1000 ∧
  ∀ (p : Addr) (c : Nat), H p = none → c ≤ zs.length → Q (.ref p) (upd H p (SetO w p (fun j => decide (j ∈ zs)) c))
theorem cr_setL (calm : X.calm = true) : CallR X (.type "set") (rSetL X.K X.w) := by
  intro pins s σ H xs us Q I r h
  obtain ⟨l, zs, rfl, hl, hz, q⟩ := h
  rw [Vals.ref1 r]
  obtain ⟨its, rr, pl, _⟩ := I.list hl
  refine set_ofList zs (I.ok.hd calm) pl.isList (by simpa using ints_of rr) (Nat.lt_of_le_of_lt (Nat.succ_le_succ hz) (by decide)) fun g tk c hS hc hk => ?_
  exact ⟨.ref _, _, I.laid (t' := tk) hk (Nat.le_refl _) (setO_new hS), rfl, q _ c (I.hok.fresh (Nat.le_refl _)) hc⟩
/-- list(d.values()) -/
def tListVals (te : TE) : TE := fun σ H Q => te σ H fun x H1 => ∃ (d : Addr) (kvs : List (Key × V)), x = .ref d ∧ H1 d = some (.dK kvs) ∧ ∀ p : Addr, H1 p = none → Q (.ref p) (upd H1 p (.lst (kvs.map (·.2))))
theorem vals_kv : ∀ {kvs : List (Key × V)} {vs : List (Key × Value)}, KV kvs vs → Vals (kvs.map (·.2)) (vs.map (·.2))
  | _, _, .nil => .nil
  | _, _, .cons r t => .cons r.2 (vals_kv t)
variable {e : Expr} {te : TE} {p apos cpos pos : Pos}
theorem pe_listVals (calm : X.calm = true) (he : PE X e te) (hg : Gl X "list") (hm : X.mg "list" = none) (hv : bootBuiltins "list" = some (.type "list")) (base : attributeBase e "values" X.env (eval e X.env) = eval e X.env := by rfl) (oneline : (apos.endLine == cpos.line) = true := by rfl)
    (star : starEach [.Call (.Attribute e "values" apos) [] [] cpos] X.env = (false, eval (.Call (.Attribute e "values" apos) [] [] cpos) X.env) :: starEach [] X.env := by rfl) :
    PE X (.Call (.Name "list" p) [.Call (.Attribute e "values" apos) [] [] cpos] [] pos) (tListVals te) := by
  refine ⟨fun pins s σ H Q I want => ?_⟩
  refine wpAny_Call_Name_kw (ld_blt I hg hm hv ?_)
  refine PyProof.Rows.callWith_type1 ?_ star rfl
  rw [star]
  show wpAny _ _ (spliced ((false, eval (.Call (.Attribute e "values" apos) [] [] cpos) X.env) :: backTo pos (starEach [] X.env))) _ _ s
  refine Calls.spliced_cons (wpAny_Call_method (T := "dict") (id := "dict.values") base rfl oneline F.plainAttrs_dict F.slot_dict_values F.type_dict_values (thn (he.run pins s σ H _ I want) fun u s1 ⟨x, H1, I1, rx, d, kvs, ex, hd, q⟩ => ?_))
  subst ex
  obtain rfl : u = Value.ref d := rx
  obtain ⟨hz, hs0, vs, kv, dof⟩ := I1.hok d _ hd
  obtain ⟨ep, at_⟩ := dof.dictAt
  have same : kvs.length = vs.length := Paired.length kv
  have I2 : Inv X pins σ H1 { s1 with heap := s1.heap.push { cls := .type "dict_values", data := .fields #[.ref d] } } := I1.kept (t' := s1.toks) fun b ob z => Heap.get?_push_of_some _ z
  refine ⟨dof.typeIs, dof.mapOf.noDict, ?_⟩
  show wpAny _ _ (callWith cpos (.builtin "dict.values") [.ref d] [] []) _ X.xe s1
  refine method_meetsIn F.slot_dict_values F.entry_dict_values rfl (PySem.evalArgs_none ⟨rfl, dof.typeIs, F.args_dict_values_1 _, _, meets_dict_values (mixKind X.prog X.w) d hs0, ⟨vs, dof⟩, ?_⟩)
  refine Calls.spliced_nil ?_
  refine PySem.W.kdl_call (PySem.W.kdl_values (knd := mixKind X.prog X.w) (kvs := vs) (ep := ep)) (I1.ok.hd calm) ⟨⟨_, Heap.get?_push_size _ rfl, rfl, rfl⟩, at_.push _⟩ (by rw [← same]; exact hz) fun h' tk acc c keep new items => ?_
  have eqv : acc.toList = vs.map (·.2) := PySem.W.kdl_vals_eq _ (by rw [Array.length_toList]; exact items.1) fun j v g => items.2 j v (by rw [← Array.getElem?_toList]; exact g)
  have J := I2.laid (t' := tk) (a := (s1.heap.push { cls := .type "dict_values", data := .fields #[.ref d] }).objs.size) (o := .lst (kvs.map (·.2))) keep (Nat.le_refl _) ⟨by rw [List.length_map]; exact hz, acc.toList, c, by rw [eqv]; exact vals_kv kv, by rw [Array.toArray_toList]; exact new⟩
  exact ⟨.ref _, _, J, rfl, q _ (I2.hok.fresh (Nat.le_refl _))⟩
end
end SetL
namespace SbE68
open PySem PySem.Spec PyProof.Rows L2 Evl HT 
/-! ### the text -/
def topS (i : Nat) : Stmt := PySem.Challenge.pw_signbook_k68_blocks.main.body.getD i (.Pass ⟨0, 0, 0, 0⟩)
def clsB : Stmt → List Stmt
  | .ClassDef (body := b) .. => b
  | _ => []
abbrev s_is_whole : Stmt := topS 5
theorem sc_is_whole : FnScope ["thing"] ["thing"] (defScope s_is_whole) := ⟨rfl, rfl, rfl, by decide +kernel, rfl, by decide +kernel, by decide +kernel⟩
abbrev s_is_table : Stmt := topS 8
theorem sc_is_table : FnScope ["thing", "row"] ["thing"] (defScope s_is_table) := ⟨rfl, rfl, rfl, by decide +kernel, rfl, by decide +kernel, by decide +kernel⟩
abbrev s_is_row : Stmt := topS 9
theorem sc_is_row : FnScope ["thing", "entry"] ["thing"] (defScope s_is_row) := ⟨rfl, rfl, rfl, by decide +kernel, rfl, by decide +kernel, by decide +kernel⟩
abbrev s_check_table : Stmt := topS 10
theorem sc_check_table : FnScope ["thing"] ["thing"] (defScope s_check_table) := ⟨rfl, rfl, rfl, by decide +kernel, rfl, by decide +kernel, by decide +kernel⟩
abbrev s_shape : Stmt := topS 11
theorem sc_shape : FnScope ["table"] ["table"] (defScope s_shape) := ⟨rfl, rfl, rfl, by decide +kernel, rfl, by decide +kernel, by decide +kernel⟩
abbrev s_joined : Stmt := topS 13
theorem sc_joined : FnScope ["groups", "one", "other", "group"] ["groups", "one", "other"] (defScope s_joined) := ⟨rfl, rfl, rfl, by decide +kernel, rfl, by decide +kernel, by decide +kernel⟩
abbrev s_beside : Stmt := topS 15
theorem sc_beside : FnScope ["one", "other", "_"] ["one", "other"] (defScope s_beside) := ⟨rfl, rfl, rfl, by decide +kernel, rfl, by decide +kernel, by decide +kernel⟩
abbrev s_summed : Stmt := topS 16
theorem sc_summed : FnScope ["left", "upper", "across", "lower", "along", "right", "above", "below", "row", "number", "entry"] ["left", "upper", "across", "lower", "along", "right"] (defScope s_summed) := ⟨rfl, rfl, rfl, by decide +kernel, rfl, by decide +kernel, by decide +kernel⟩
abbrev s_parts : Stmt := topS 17
theorem sc_parts : FnScope ["table", "many", "wide", "groups", "row", "column", "blocks", "place", "group", "rows", "columns"] ["table"] (defScope s_parts) := ⟨rfl, rfl, rfl, by decide +kernel, rfl, by decide +kernel, by decide +kernel⟩
abbrev s__law_source_of : Stmt := topS 19
theorem sc__law_source_of : FnScope ["_law_cell"] ["_law_cell"] (defScope s__law_source_of) := ⟨rfl, rfl, rfl, by decide +kernel, rfl, by decide +kernel, by decide +kernel⟩
abbrev s__law_next : Stmt := topS 20
theorem sc__law_next : FnScope ["_law_source", "_law_many", "_law_found", "_law_prime", "_law_figure"] ["_law_source", "_law_many"] (defScope s__law_next) := ⟨rfl, rfl, rfl, by decide +kernel, rfl, by decide +kernel, by decide +kernel⟩
abbrev s__law_one : Stmt := topS 21
theorem sc__law_one : FnScope ["_law_source", "_law_some"] ["_law_source", "_law_some"] (defScope s__law_one) := ⟨rfl, rfl, rfl, by decide +kernel, rfl, by decide +kernel, by decide +kernel⟩
abbrev s__law_cell_at : Stmt := topS 22
theorem sc__law_cell_at : FnScope ["_law_script", "_law_k"] ["_law_script", "_law_k"] (defScope s__law_cell_at) := ⟨rfl, rfl, rfl, by decide +kernel, rfl, by decide +kernel, by decide +kernel⟩
abbrev s__law_mixed : Stmt := topS 23
theorem sc__law_mixed : FnScope ["_law_source", "_law_some", "_law_left", "_law_found"] ["_law_source", "_law_some"] (defScope s__law_mixed) := ⟨rfl, rfl, rfl, by decide +kernel, rfl, by decide +kernel, by decide +kernel⟩
abbrev s__law_any : Stmt := topS 24
theorem sc__law_any : FnScope ["_law_source", "_law_most", "_law_many", "_law_wide", "_law_some", "_law_k", "_law_row"] ["_law_source", "_law_most"] (defScope s__law_any) := ⟨rfl, rfl, rfl, by decide +kernel, rfl, by decide +kernel, by decide +kernel⟩
abbrev s__law_due : Stmt := topS 25
theorem sc__law_due : FnScope ["_law_table", "_law_many", "_law_wide", "_law_marks", "_law_turn", "_law_row", "_law_column", "_law_least", "_law_found", "_law_mark", "_law_rows"] ["_law_table"] (defScope s__law_due) := ⟨rfl, rfl, rfl, by decide +kernel, rfl, by decide +kernel, by decide +kernel⟩
abbrev s__law_put : Stmt := topS 26
theorem sc__law_put : FnScope ["_law_source", "_law_table", "_law_k", "_law_order", "_law_row", "_law_column"] ["_law_source"] (defScope s__law_put) := ⟨rfl, rfl, rfl, by decide +kernel, rfl, by decide +kernel, by decide +kernel⟩
abbrev s_law : Stmt := topS 27
theorem sc_law : FnScope ["_law_script", "_law_cell", "_law_source", "_law_table", "_law_saved", "_law_due_here", "_law_turn", "_law_said", "_law_rows", "_law_columns", "_law_one_here"] ["_law_script"] (defScope s_law) := ⟨rfl, rfl, rfl, by decide +kernel, rfl, by decide +kernel, by decide +kernel⟩
/-- what the top has written -/
structure Txt (K : PySem.W.Frag) (mg : Str → Option Value) where
  f_is_whole : Addr
  fd_is_whole : FuncData
  F_is_whole : Fun K "is_whole" "is_whole" s_is_whole f_is_whole fd_is_whole
  g_is_whole : mg "is_whole" = some (.ref f_is_whole)
  k_is_whole : PySem.W.keepIn K (.ref f_is_whole) = true
  b_is_whole : Binds K fd_is_whole ["thing"] []
  f_is_table : Addr
  fd_is_table : FuncData
  F_is_table : Fun K "is_table" "is_table" s_is_table f_is_table fd_is_table
  g_is_table : mg "is_table" = some (.ref f_is_table)
  k_is_table : PySem.W.keepIn K (.ref f_is_table) = true
  b_is_table : Binds K fd_is_table ["thing"] []
  f_is_row : Addr
  fd_is_row : FuncData
  F_is_row : Fun K "is_row" "is_row" s_is_row f_is_row fd_is_row
  g_is_row : mg "is_row" = some (.ref f_is_row)
  k_is_row : PySem.W.keepIn K (.ref f_is_row) = true
  b_is_row : Binds K fd_is_row ["thing"] []
  f_check_table : Addr
  fd_check_table : FuncData
  F_check_table : Fun K "check_table" "check_table" s_check_table f_check_table fd_check_table
  g_check_table : mg "check_table" = some (.ref f_check_table)
  k_check_table : PySem.W.keepIn K (.ref f_check_table) = true
  b_check_table : Binds K fd_check_table ["thing"] []
  f_shape : Addr
  fd_shape : FuncData
  F_shape : Fun K "shape" "shape" s_shape f_shape fd_shape
  g_shape : mg "shape" = some (.ref f_shape)
  k_shape : PySem.W.keepIn K (.ref f_shape) = true
  b_shape : Binds K fd_shape ["table"] []
  f_joined : Addr
  fd_joined : FuncData
  F_joined : Fun K "joined" "joined" s_joined f_joined fd_joined
  g_joined : mg "joined" = some (.ref f_joined)
  k_joined : PySem.W.keepIn K (.ref f_joined) = true
  b_joined : Binds K fd_joined ["groups", "one", "other"] []
  f_beside : Addr
  fd_beside : FuncData
  F_beside : Fun K "beside" "beside" s_beside f_beside fd_beside
  g_beside : mg "beside" = some (.ref f_beside)
  k_beside : PySem.W.keepIn K (.ref f_beside) = true
  b_beside : Binds K fd_beside ["one", "other"] []
  f_summed : Addr
  fd_summed : FuncData
  F_summed : Fun K "summed" "summed" s_summed f_summed fd_summed
  g_summed : mg "summed" = some (.ref f_summed)
  k_summed : PySem.W.keepIn K (.ref f_summed) = true
  b_summed : Binds K fd_summed ["left", "upper", "across", "lower", "along", "right"] []
  f_parts : Addr
  fd_parts : FuncData
  F_parts : Fun K "parts" "parts" s_parts f_parts fd_parts
  g_parts : mg "parts" = some (.ref f_parts)
  k_parts : PySem.W.keepIn K (.ref f_parts) = true
  b_parts : Binds K fd_parts ["table"] []
  f__law_source_of : Addr
  fd__law_source_of : FuncData
  F__law_source_of : Fun K "_law_source_of" "_law_source_of" s__law_source_of f__law_source_of fd__law_source_of
  g__law_source_of : mg "_law_source_of" = some (.ref f__law_source_of)
  k__law_source_of : PySem.W.keepIn K (.ref f__law_source_of) = true
  b__law_source_of : Binds K fd__law_source_of ["_law_cell"] []
  f__law_next : Addr
  fd__law_next : FuncData
  F__law_next : Fun K "_law_next" "_law_next" s__law_next f__law_next fd__law_next
  g__law_next : mg "_law_next" = some (.ref f__law_next)
  k__law_next : PySem.W.keepIn K (.ref f__law_next) = true
  b__law_next : Binds K fd__law_next ["_law_source", "_law_many"] []
  f__law_one : Addr
  fd__law_one : FuncData
  F__law_one : Fun K "_law_one" "_law_one" s__law_one f__law_one fd__law_one
  g__law_one : mg "_law_one" = some (.ref f__law_one)
  k__law_one : PySem.W.keepIn K (.ref f__law_one) = true
  b__law_one : Binds K fd__law_one ["_law_source", "_law_some"] []
  f__law_cell_at : Addr
  fd__law_cell_at : FuncData
  F__law_cell_at : Fun K "_law_cell_at" "_law_cell_at" s__law_cell_at f__law_cell_at fd__law_cell_at
  g__law_cell_at : mg "_law_cell_at" = some (.ref f__law_cell_at)
  k__law_cell_at : PySem.W.keepIn K (.ref f__law_cell_at) = true
  b__law_cell_at : Binds K fd__law_cell_at ["_law_script", "_law_k"] []
  f__law_mixed : Addr
  fd__law_mixed : FuncData
  F__law_mixed : Fun K "_law_mixed" "_law_mixed" s__law_mixed f__law_mixed fd__law_mixed
  g__law_mixed : mg "_law_mixed" = some (.ref f__law_mixed)
  k__law_mixed : PySem.W.keepIn K (.ref f__law_mixed) = true
  b__law_mixed : Binds K fd__law_mixed ["_law_source", "_law_some"] []
  f__law_any : Addr
  fd__law_any : FuncData
  F__law_any : Fun K "_law_any" "_law_any" s__law_any f__law_any fd__law_any
  g__law_any : mg "_law_any" = some (.ref f__law_any)
  k__law_any : PySem.W.keepIn K (.ref f__law_any) = true
  b__law_any : Binds K fd__law_any ["_law_source", "_law_most"] []
  f__law_due : Addr
  fd__law_due : FuncData
  F__law_due : Fun K "_law_due" "_law_due" s__law_due f__law_due fd__law_due
  g__law_due : mg "_law_due" = some (.ref f__law_due)
  k__law_due : PySem.W.keepIn K (.ref f__law_due) = true
  b__law_due : Binds K fd__law_due ["_law_table"] []
  f__law_put : Addr
  fd__law_put : FuncData
  F__law_put : Fun K "_law_put" "_law_put" s__law_put f__law_put fd__law_put
  g__law_put : mg "_law_put" = some (.ref f__law_put)
  k__law_put : PySem.W.keepIn K (.ref f__law_put) = true
  b__law_put : Binds K fd__law_put ["_law_source"] []
  f_law : Addr
  fd_law : FuncData
  F_law : Fun K "law" "law" s_law f_law fd_law
  g_law : mg "law" = some (.ref f_law)
  k_law : PySem.W.keepIn K (.ref f_law) = true
  b_law : Binds K fd_law ["_law_script"] []
  t_MOST : Tok
  g_MOST : mg "MOST" = some (.int 8 t_MOST)
  n_all : mg "all" = none
  n_bool : mg "bool" = none
  n_enumerate : mg "enumerate" = none
  n_int : mg "int" = none
  n_isinstance : mg "isinstance" = none
  n_len : mg "len" = none
  n_list : mg "list" = none
  n_min : mg "min" = none
  n_range : mg "range" = none
  n_set : mg "set" = none
  n_sorted : mg "sorted" = none
  n_str : mg "str" = none
  n_tuple : mg "tuple" = none
  n_zip : mg "zip" = none
/-! ### numbers -/
def Bd (n : Nat) (i : Int) : Prop := i.natAbs < 2 ^ n
theorem Bd.mono {a b : Nat} {i : Int} (h : Bd a i) (hab : a ≤ b) : Bd b i := Nat.lt_of_lt_of_le h (Nat.pow_le_pow_right (by decide) hab)
theorem Bd.mul {a b : Nat} {i j : Int} (h : Bd a i) (g : Bd b j) : Bd (a + b) (i * j) := wide_lt h g
theorem Bd.add {a : Nat} {i j : Int} (h : Bd a i) (g : Bd a j) : Bd (a + 1) (i + j) := by
  have h1 : i.natAbs < 2 ^ a := h
  have h2 : j.natAbs < 2 ^ a := g
  show (i + j).natAbs < 2 ^ (a + 1)
  rw [Nat.pow_succ]
  omega
theorem Bd.sub {a : Nat} {i j : Int} (h : Bd a i) (g : Bd a j) : Bd (a + 1) (i - j) := by
  have h1 : i.natAbs < 2 ^ a := h
  have h2 : j.natAbs < 2 ^ a := g
  show (i - j).natAbs < 2 ^ (a + 1)
  rw [Nat.pow_succ]
  omega
theorem Bd.neg {a : Nat} {i : Int} (h : Bd a i) : Bd a (-i) := by
  show (-i).natAbs < 2 ^ a
  rw [Int.natAbs_neg]
  exact h
theorem Bd.abs {a : Nat} {i j : Int} (h : Bd a i) (e : j.natAbs ≤ i.natAbs) : Bd a j := Nat.lt_of_le_of_lt e h
theorem Bd.mulOk {a b : Nat} {i j : Int} (h : Bd a i) (g : Bd b j) (h0 : 0 < a := by decide) (h1 : 0 < b := by decide) (hs : a + b ≤ 1000000 := by decide) : CMulW i j := wide_mul h g h0 h1 hs
theorem Bd.divOk {b : Nat} {i j : Int} (h : 0 < j) (g : Bd b j) (h0 : 0 < b := by decide) (h9 : b ≤ 9000 := by decide) : CDivW i j := wide_div h g h0 h9
/-- // by a divisor other than 0 below 2 ^ 9000 -/
def CDivNW (_ j : Int) : Prop := j ≠ 0 ∧ j.natAbs.log2 < 9000
theorem Bd.divNOk {b : Nat} {i j : Int} (h : j ≠ 0) (g : Bd b j) (h0 : 0 < b := by decide) (h9 : b ≤ 9000 := by decide) : CDivNW i j := ⟨h, Nat.lt_of_lt_of_le (PySem.Flt.log2_lt_of h0 g) h9⟩
theorem op_fdivNW {X : Cx} : OpR X (binaryOp .FloorDiv) (rI CDivNW fun i j => .int (i.fdiv j)) := opI fun _ _ _ _ _ _ _ hc q => floordiv_int hc.1 q (.inl (PyProof.noPylong_of_log2 hc.2))
/-! ### heaps -/
/-- all but what stands at s is as it was -/
def ExB (s : Addr) (H H' : Hp) : Prop := ∀ b o, b ≠ s → H b = some o → H' b = some o
theorem ExB.trans {s : Addr} {H H1 H2 : Hp} (a : ExB s H H1) (b : ExB s H1 H2) : ExB s H H2 := fun c o n h => b c o n (a c o n h)
theorem ExB.refl (s : Addr) (H : Hp) : ExB s H H := fun _ _ _ h => h
theorem ExB.of {s : Addr} {H H1 : Hp} (a : Ex H H1) : ExB s H H1 := fun c o _ h => a c o h
theorem ExB.ex {s : Addr} {H H1 H2 : Hp} (a : ExB s H1 H2) (n : H s = none) (e : Ex H H1) : Ex H H2 := fun b o h => a b o (ne_of_none h n) (e b o h)
theorem ExB.upd (s : Addr) (H : Hp) (o : HO) : ExB s H (upd H s o) := fun b u n h => by
  rw [upd_ne n]
  exact h
theorem Ex.updB {s : Addr} {H H' : Hp} {o : HO} (e : Ex H H') : ExB s H (upd H' s o) := fun b u n h => by
  rw [upd_ne n]
  exact e b u h
/-- the source of a law's numbers: n at least the numbers made so far -/
def SrcAt (H : Hp) (s : Addr) (n : Int) : Prop := ∃ p q r : Int, H s = some (.lst [.int p, .int q, .int r]) ∧ 0 ≤ q ∧ q < 2147483647 ∧ 0 ≤ r ∧ r ≤ n
theorem SrcAt.ex {H H' : Hp} {s : Addr} {n : Int} (h : SrcAt H s n) (e : Ex H H') : SrcAt H' s n := by
  obtain ⟨p, q, r, h1, h2⟩ := h
  exact ⟨p, q, r, e _ _ h1, h2⟩
theorem SrcAt.exB {H H' : Hp} {s t : Addr} {n : Int} (h : SrcAt H s n) (e : ExB t H H') (ne : s ≠ t) : SrcAt H' s n := by
  obtain ⟨p, q, r, h1, h2⟩ := h
  exact ⟨p, q, r, e _ _ ne h1, h2⟩
theorem SrcAt.le {H : Hp} {s : Addr} {n m : Int} (h : SrcAt H s n) (e : n ≤ m) : SrcAt H s m := by
  obtain ⟨p, q, r, h1, h2, h3, h4, h5⟩ := h
  exact ⟨p, q, r, h1, h2, h3, h4, by omega⟩
theorem SrcAt.obj {H : Hp} {s : Addr} {n : Int} (h : SrcAt H s n) : ∃ o, H s = some o := by
  obtain ⟨p, q, r, h1, _⟩ := h
  exact ⟨_, h1⟩
/-- classes that is_whole is asked about -/
def tyOk (t : String) : Prop := t = "int" ∨ t = "bool" ∨ t = "NoneType" ∨ t = "str" ∨ t = "tuple" ∨ t = "list" ∨ t = "dict"
theorem ty_int {t : String} (h : tyOk t) : kitB t "int" = some (t == "int" || t == "bool") := by
  rcases h with rfl | rfl | rfl | rfl | rfl | rfl | rfl <;> decide +kernel
theorem ty_bool {t : String} (h : tyOk t) : kitB t "bool" = some (t == "bool") := by
  rcases h with rfl | rfl | rfl | rfl | rfl | rfl | rfl <;> decide +kernel
theorem ty_tuple {t : String} (h : tyOk t) : kitB t "tuple" = some (t == "tuple") := by
  rcases h with rfl | rfl | rfl | rfl | rfl | rfl | rfl <;> decide +kernel
theorem ty_list {t : String} (h : tyOk t) : kitB t "list" = some (t == "list") := by
  rcases h with rfl | rfl | rfl | rfl | rfl | rfl | rfl <;> decide +kernel
theorem prime_at (r : Int) (h : 0 ≤ r) : ∃ p : Int, atI [V.int 2147483647, V.int 2147483629, V.int 2147483587, V.int 2147483579, V.int 2147483563, V.int 2147483549, V.int 2147483543] (r % 7) = some (.int p) ∧ 0 < p ∧ p ≤ 2147483647 := by
  have h1 : 0 ≤ r % 7 := Int.emod_nonneg _ (by decide)
  have h2 : r % 7 < 7 := Int.emod_lt_of_pos _ (by decide)
  generalize r % 7 = k at h1 h2
  have hk : k = 0 ∨ k = 1 ∨ k = 2 ∨ k = 3 ∨ k = 4 ∨ k = 5 ∨ k = 6 := by omega
  rcases hk with rfl | rfl | rfl | rfl | rfl | rfl | rfl <;> exact ⟨_, rfl, by decide, by decide⟩
/-! ### data, lists, tables -/
mutual
theorem dp_mono {K : PySem.W.Frag} {H H' : Hp} (h : ∀ a xs, SqL K H a xs → SqL K H' a xs) (h2 : ∀ a xs, SqT K H a xs → SqT K H' a xs) : ∀ {v : V} {d : PyData}, Dp K H v d → Dp K H' v d
  | _, _, .non => .non
  | _, _, .bl b => .bl b
  | _, _, .int i => .int i
  | _, _, .str x => .str x
  | _, _, .lst a b => .lst (h _ _ a) (dpAll_mono h h2 b)
  | _, _, .tup a b => .tup (h2 _ _ a) (dpAll_mono h h2 b)
theorem dpAll_mono {K : PySem.W.Frag} {H H' : Hp} (h : ∀ a xs, SqL K H a xs → SqL K H' a xs) (h2 : ∀ a xs, SqT K H a xs → SqT K H' a xs) : ∀ {vs : List V} {ds : List PyData}, DpAll K H vs ds → DpAll K H' vs ds
  | _, _, .nil => .nil
  | _, _, .cons a b => .cons (dp_mono h h2 a) (dpAll_mono h h2 b)
end
theorem dp_ex {K : PySem.W.Frag} {H H' : Hp} (e : Ex H H') {v : V} {d : PyData} (h : Dp K H v d) : Dp K H' v d := dp_mono (fun _ _ => ex_l e) (fun _ _ => ex_t e) h
theorem dpAll_ex {K : PySem.W.Frag} {H H' : Hp} (e : Ex H H') {v : List V} {d : List PyData} (h : DpAll K H v d) : DpAll K H' v d := dpAll_mono (fun _ _ => ex_l e) (fun _ _ => ex_t e) h
def NiceD (d : PyData) : Prop := d.canLay0 = true ∧ d.depth ≤ 8
/-- v is data, whatever becomes of the object at s -/
def DatV (K : PySem.W.Frag) (H : Hp) (s : Addr) (v : V) : Prop := ∀ H', ExB s H H' → ∃ d, Dp K H' v d ∧ NiceD d
theorem DatV.exB {K : PySem.W.Frag} {H H' : Hp} {s : Addr} {v : V} (h : DatV K H s v) (e : ExB s H H') : DatV K H' s v := fun H2 e2 => h H2 (e.trans e2)
theorem datv_int {K : PySem.W.Frag} {H : Hp} {s : Addr} (i : Int) : DatV K H s (.int i) := fun _ _ => ⟨_, .int i, rfl, Nat.zero_le _⟩
theorem datv_pair {K : PySem.W.Frag} {H : Hp} {s a : Addr} {x y : Int} (h : H a = some (.tup [.int x, .int y])) (n : a ≠ s) : DatV K H s (.ref a) := fun H' e =>
  ⟨_, .tup (SqT.of (e _ _ n h)) (.cons (.int x) (.cons (.int y) .nil)), rfl, Nat.le_of_ble_eq_true rfl⟩
theorem dpAll_ints {K : PySem.W.Frag} {H : Hp} : ∀ ns : List Int, DpAll K H (ns.map V.int) (ns.map PyData.int)
  | [] => .nil
  | n :: r => .cons (.int n) (dpAll_ints r)
theorem canLay_ints : ∀ ns : List Int, PyData.canLayAll0 (ns.map PyData.int) = true
  | [] => rfl
  | n :: r => by
    show (true && PyData.canLayAll0 (r.map PyData.int)) = true
    rw [canLay_ints r]
    rfl
theorem depth_ints : ∀ ns : List Int, PyData.depthAll (ns.map PyData.int) = 0
  | [] => rfl
  | n :: r => by
    show max 0 (PyData.depthAll (r.map PyData.int)) = 0
    rw [depth_ints r]
    rfl
theorem datv_row {K : PySem.W.Frag} {H : Hp} {s a : Addr} {ns : List Int} (h : H a = some (.lst (ns.map V.int))) (n : a ≠ s) : DatV K H s (.ref a) := fun H' e =>
  ⟨_, .lst (SqL.of (e _ _ n h)) (dpAll_ints ns), canLay_ints ns, by
    show PyData.depthAll (ns.map PyData.int) + 1 ≤ 8
    rw [depth_ints]
    decide⟩
theorem dat_all {K : PySem.W.Frag} {H : Hp} {s : Addr} : ∀ {xs : List V}, (∀ v ∈ xs, DatV K H s v) → ∃ ds, DpAll K H xs ds ∧ PyData.canLayAll0 ds = true ∧ PyData.depthAll ds ≤ 8
  | [], _ => ⟨[], .nil, rfl, by decide⟩
  | x :: xs, h => by
    obtain ⟨d, h1, h2, h3⟩ := h x (List.mem_cons_self ..) H (ExB.refl _ _)
    obtain ⟨ds, g1, g2, g3⟩ := dat_all (xs := xs) fun v hv => h v (List.mem_cons_of_mem _ hv)
    refine ⟨d :: ds, .cons h1 g1, ?_, ?_⟩
    · show (d.canLay0 && PyData.canLayAll0 ds) = true
      rw [h2, g2]
      rfl
    · show max d.depth (PyData.depthAll ds) ≤ 8
      omega
theorem shaped_list {ds : List PyData} (h : PyData.canLayAll0 ds = true) (h2 : PyData.depthAll ds ≤ 60) : SeqAt.shaped (.list ds) = true := by
  unfold SeqAt.shaped
  have e1 : (PyData.list ds).canLay0 = true := h
  have e2 : (PyData.list ds).depth ≤ 64 := by
    show PyData.depthAll ds + 1 ≤ 64
    omega
  rw [e1, decide_eq_true e2]
  rfl
theorem eqv_nil (ds : List PyData) : PyData.eqv (.list ds) (.list []) = ds.isEmpty := by
  cases ds <;> rfl
theorem Paired.perm {α β : Type} {R : α → β → Prop} {xs xs' : List α} (hp : xs'.Perm xs) : ∀ {ys : List β}, Paired R xs ys → ∃ ys', ys'.Perm ys ∧ Paired R xs' ys' := by
  induction hp with
  | nil => intro ys h; exact ⟨ys, .refl _, h⟩
  | cons x _ ih =>
    intro ys h
    cases h with
    | cons r t =>
      obtain ⟨ys', p, q⟩ := ih t
      exact ⟨_ :: ys', p.cons _, .cons r q⟩
  | swap x y l =>
    intro ys h
    cases h with
    | cons r t =>
      cases t with
      | cons r2 t2 => exact ⟨_, List.Perm.swap .., .cons r2 (.cons r t2)⟩
  | trans _ _ ih1 ih2 =>
    intro ys h
    obtain ⟨y1, p1, q1⟩ := ih2 h
    obtain ⟨y2, p2, q2⟩ := ih1 q1
    exact ⟨y2, p2.trans p1, q2⟩
theorem fresh_B {s p : Addr} {H H' : Hp} (e : ExB s H H') (hp : H' p = none) (hs : ∃ o, H' s = some o) : H p = none := by
  cases q : H p with
  | none => rfl
  | some o =>
    by_cases h : p = s
    · subst h
      obtain ⟨o', ho'⟩ := hs
      rw [ho'] at hp
      cases hp
    · rw [e p o h q] at hp
      cases hp
theorem SrcAt.ne {H : Hp} {s p : Addr} {n : Int} (h : SrcAt H s n) (hp : H p = none) : p ≠ s := by
  intro e
  subst e
  obtain ⟨o, ho⟩ := h.obj
  rw [ho] at hp
  cases hp
theorem SrcAt.neT {H : Hp} {s p : Addr} {n : Int} {xs : List V} (h : SrcAt H s n) (hp : H p = some (.tup xs)) : p ≠ s := by
  intro e
  subst e
  obtain ⟨_, _, _, ho, _⟩ := h
  rw [ho] at hp
  cases hp
theorem ExB.l {K : PySem.W.Frag} {s a : Addr} {H H' : Hp} {xs : List V} (e : ExB s H H') (n : a ≠ s) (h : SqL K H a xs) : SqL K H' a xs := by
  rcases h with (h | ⟨o, h⟩) | h
  · exact .inl (.inl (e _ _ n h))
  · exact .inl (.inr ⟨o, e _ _ n h⟩)
  · exact .inr h
theorem seqIx {i n : Int} {k : Nat} (h0 : 0 ≤ i) (h1 : i < (k : Int)) : seqIndex? i k = some i.toNat := by
  unfold seqIndex?
  split <;> simp_all <;> omega
theorem erase_perm {α : Type} : ∀ {ls : List α} {k : Nat} {y : α}, ls[k]? = some y → (y :: ls.eraseIdx k).Perm ls
  | [], _, _, h => by simp at h
  | a :: l, 0, y, h => by
    have e := Option.some.inj h
    subst e
    exact .refl _
  | a :: l, k + 1, y, h => (List.Perm.swap a y _).trans ((erase_perm (ls := l) (k := k) h).cons a)
theorem perm_pop {α : Type} {fs ls : List α} {k : Nat} {y : α} (h : ls[k]? = some y) : ((fs ++ [y]) ++ ls.eraseIdx k).Perm (fs ++ ls) := by
  have h1 := erase_perm h
  rw [List.append_assoc]
  exact List.Perm.append_left fs h1
/-- the table at p: its rows at the places as -/
def RowsAt (H : Hp) : List Addr → List (List Int) → Prop := Paired fun a r => H a = some (.lst (r.map V.int))
def Tab (H : Hp) (p : Addr) (as : List Addr) (rows : List (List Int)) : Prop := H p = some (.lst (as.map V.ref)) ∧ RowsAt H as rows
theorem RowsAt.ex {H H' : Hp} (e : Ex H H') : ∀ {as : List Addr} {rows : List (List Int)}, RowsAt H as rows → RowsAt H' as rows
  | _, _, .nil => .nil
  | _, _, .cons h t => .cons (e _ _ h) (RowsAt.ex e t)
theorem Tab.ex {H H' : Hp} {p : Addr} {as : List Addr} {rows : List (List Int)} (h : Tab H p as rows) (e : Ex H H') : Tab H' p as rows := ⟨e _ _ h.1, h.2.ex e⟩
/-! ### edges -/
def EdgesAt (H : Hp) : List Addr → List (Int × Int) → Prop := Paired fun a e => H a = some (.tup [.int e.1, .int e.2])
theorem paired_imp {α β : Type} {R R' : α → β → Prop} (h : ∀ a b, R a b → R' a b) : ∀ {xs : List α} {ys : List β}, Paired R xs ys → Paired R' xs ys
  | _, _, .nil => .nil
  | _, _, .cons r t => .cons (h _ _ r) (paired_imp h t)
theorem EdgesAt.mono {H H' : Hp} {as : List Addr} {es : List (Int × Int)} (h : ∀ a xs, H a = some (.tup xs) → H' a = some (.tup xs)) (x : EdgesAt H as es) : EdgesAt H' as es := paired_imp (fun _ _ r => h _ _ r) x
theorem tups_B {H H' : Hp} {s : Addr} {n : Int} (hs : SrcAt H s n) (e : ExB s H H') : ∀ a xs, H a = some (.tup xs) → H' a = some (.tup xs) := fun a _ h => e a _ (hs.neT h) h
theorem tups_E {H H' : Hp} (e : Ex H H') : ∀ a xs, H a = some (.tup xs) → H' a = some (.tup xs) := fun a _ h => e a _ h
theorem tups_U {H : Hp} {l : Addr} {xs : List V} {o : HO} (h : H l = some (.lst xs)) : ∀ a ys, H a = some (.tup ys) → upd H l o a = some (.tup ys) := fun a ys g => by
  rw [upd_ne (ne_of g h (by intro z; cases z))]
  exact g
def Conn (es : List (Int × Int)) (m : Int) : Prop := ∀ S : Int → Bool, (∀ e ∈ es, S e.1 = S e.2) → ∀ a b, 0 ≤ a → a ≤ m → 0 ≤ b → b ≤ m → S a = S b
theorem Conn.perm {es es' : List (Int × Int)} {m : Int} (h : Conn es m) (p : es'.Perm es) : Conn es' m := fun S hS => h S fun e he => hS e (p.mem_iff.mpr he)
def EdgeTree (pl : List Int) (es : List (Int × Int)) : Prop := ∀ j, j < es.length → ∃ i a b, i ≤ j ∧ pl[i]? = some a ∧ pl[j + 1]? = some b ∧ (es[j]? = some (a, b) ∨ es[j]? = some (b, a))
theorem EdgeTree.more {pl : List Int} {es : List (Int × Int)} {e : Int × Int} {i : Nat} {a b : Int} (h : EdgeTree pl es) (hi : i ≤ es.length) (ha : pl[i]? = some a) (hb : pl[es.length + 1]? = some b) (he : e = (a, b) ∨ e = (b, a)) : EdgeTree pl (es ++ [e]) := by
  intro j hj
  rw [List.length_append] at hj
  have hj' : j < es.length + 1 := hj
  by_cases h1 : j < es.length
  · obtain ⟨i', a', b', x1, x2, x3, x4⟩ := h j h1
    refine ⟨i', a', b', x1, x2, x3, ?_⟩
    rw [List.getElem?_append_left h1]
    exact x4
  · have h2 : j = es.length := by omega
    subst h2
    refine ⟨i, a, b, hi, ha, hb, ?_⟩
    rw [List.getElem?_append_right (Nat.le_refl _), Nat.sub_self]
    rcases he with rfl | rfl
    · exact .inl rfl
    · exact .inr rfl
theorem EdgeTree.conn {pl : List Int} {es : List (Int × Int)} {m : Nat} (h : EdgeTree pl es) (hl : es.length = m) (hp : pl.length = m + 1) (hall : ∀ a : Int, 0 ≤ a → a ≤ m → a ∈ pl) : Conn es m := by
  intro S hS
  have key : ∀ j : Nat, ∀ j' : Nat, j' ≤ j → ∀ a, pl[j']? = some a → ∀ z, pl[0]? = some z → S a = S z := by
    intro j
    induction j with
    | zero =>
      intro j' hj' a ha z hz
      have : j' = 0 := by omega
      subst this
      rw [hz] at ha
      rw [Option.some.inj ha]
    | succ j ih =>
      intro j' hj' a ha z hz
      by_cases h1 : j' ≤ j
      · exact ih j' h1 a ha z hz
      · have h2 : j' = j + 1 := by omega
        subst h2
        have hlt : j + 1 < pl.length := (List.getElem?_eq_some_iff.mp ha).1
        obtain ⟨i, x, y, hi, hx, hy, he⟩ := h j (by omega)
        rw [ha] at hy
        have ey := Option.some.inj hy
        subst ey
        have hSe : S x = S a := by
          rcases he with he | he
          · exact hS (x, a) (List.mem_of_getElem? he)
          · exact (hS (a, x) (List.mem_of_getElem? he)).symm
        rw [← hSe]
        exact ih i hi x hx z hz
  intro a b ha ha' hb hb'
  obtain ⟨i, hi⟩ := List.getElem?_of_mem (hall a ha ha')
  obtain ⟨j, hj⟩ := List.getElem?_of_mem (hall b hb hb')
  have hz : ∃ z, pl[0]? = some z := ⟨_, List.getElem?_eq_getElem (by omega)⟩
  obtain ⟨z, hz⟩ := hz
  rw [key i i (Nat.le_refl _) a hi z hz, key j j (Nat.le_refl _) b hj z hz]
theorem paired_map {α β : Type} {R : α → β → Prop} (f : β → α) (h : ∀ b, R (f b) b) : ∀ ys : List β, Paired R (ys.map f) ys
  | [] => .nil
  | b :: r => .cons (h b) (paired_map f h r)
theorem paired_eq_map {α β : Type} {f : β → α} : ∀ {xs : List α} {ys : List β}, Paired (fun x y => x = f y) xs ys → xs = ys.map f
  | _, _, .nil => rfl
  | _, _, .cons r t => by rw [r, paired_eq_map t]; rfl
theorem perm_ints {ys : List V} {ns : List Int} (h : ys.Perm (ns.map V.int)) : ∃ pl : List Int, ys = pl.map V.int ∧ pl.Perm ns := by
  obtain ⟨pl, p, q⟩ := Paired.perm (R := fun (x : V) y => x = V.int y) h (paired_map V.int (fun _ => rfl) ns)
  exact ⟨pl, paired_eq_map q, p⟩
theorem perm_refs {β : Type} {R : Addr → β → Prop} {ys : List V} {as : List Addr} {es : List β} (h : ys.Perm (as.map V.ref)) (hx : Paired R as es) : ∃ (as' : List Addr) (es' : List β), ys = as'.map V.ref ∧ es'.Perm es ∧ Paired R as' es' ∧ as'.Perm as := by
  obtain ⟨as', p, q⟩ := Paired.perm (R := fun (x : V) y => x = V.ref y) h (paired_map V.ref (fun _ => rfl) as)
  obtain ⟨es', p2, q2⟩ := Paired.perm p hx
  exact ⟨as', es', paired_eq_map q, p2, q2, p⟩
def numsTo (m : Nat) : List Int := (List.range m).map fun i : Nat => (i : Int)
theorem rgV_nums (m : Int) : rgV 0 m = (numsTo m.toNat).map V.int := by
  unfold rgV numsTo
  rw [List.map_map, Int.sub_zero]
  refine List.map_congr_left fun i _ => ?_
  show V.int (0 + (i : Int)) = V.int (i : Int)
  rw [Int.zero_add]
theorem mem_numsTo {m : Nat} {a : Int} : a ∈ numsTo m ↔ 0 ≤ a ∧ a < m := by
  unfold numsTo
  rw [List.mem_map]
  constructor
  · rintro ⟨i, hi, rfl⟩
    have := List.mem_range.mp hi
    omega
  · rintro ⟨h0, h1⟩
    exact ⟨a.toNat, List.mem_range.mpr (by omega), by omega⟩
theorem numsTo_length (m : Nat) : (numsTo m).length = m := by
  unfold numsTo
  rw [List.length_map, List.length_range]
theorem paired_snoc {α β : Type} {R : α → β → Prop} {a : α} {b : β} {xs : List α} {ys : List β} (h : Paired R xs ys) (r : R a b) : Paired R (xs ++ [a]) (ys ++ [b]) := Paired.snoc h r
theorem paired_mem {α β : Type} {R : α → β → Prop} : ∀ {xs : List α} {ys : List β} {x : α}, Paired R xs ys → x ∈ xs → ∃ y, y ∈ ys ∧ R x y
  | _, _, _, .nil, h => by simp at h
  | _, _, x, .cons (a := a) r t, h => by
    rcases List.mem_cons.mp h with e | h
    · subst e
      exact ⟨_, List.mem_cons_self .., r⟩
    · obtain ⟨y, hy, hr⟩ := paired_mem t h
      exact ⟨y, List.mem_cons_of_mem _ hy, hr⟩
/-! ### loops and comprehensions over more -/
theorem for_enum {K : PySem.W.Frag} {a : Addr} {xs : List V} {g : TG} {tb : TS} {D : Ends} {σ : L2.St} {H : Hp} (Pv : Nat → L2.St → Hp → Prop) (h0 : Pv 0 σ H) (hq : ∀ i σ H, Pv i σ H → SqL K H a xs)
    (hs : ∀ (i : Nat) (x : V) (T : Addr) (σ : L2.St) (H : Hp), xs[i]? = some x → Pv i σ H → H T = none → g (.ref T) σ (upd H T (.tup [.int (i : Nat), x])) fun σ2 H2 => tb { D with nx := Pv (i + 1), ct := Pv (i + 1), bk := D.nx } σ2 H2) (hd : ∀ σ H, Pv xs.length σ H → D.nx σ H) :
    ∃ W : Nat → Nat → L2.St → Hp → Prop, (∃ m, W 0 m σ H) ∧ ∀ i m σ H, W i m σ H →
      ((Ite K a).stop i H ∧ D.nx σ H) ∨ ((Ite K a).go i H ∧ ∃ N : L2.St → Hp → Prop, (∀ σ' H', N σ' H' → ∃ m', m' < m ∧ W (i + 1) m' σ' H') ∧ ∀ v H', (Ite K a).yld i H v H' → g v σ H' fun σ2 H2 => tb { D with nx := N, ct := N, bk := D.nx } σ2 H2) := by
  refine ⟨fun i m σ H => m = xs.length - i ∧ i ≤ xs.length ∧ Pv i σ H, ⟨xs.length, rfl, Nat.zero_le _, h0⟩, ?_⟩
  rintro i m σ H ⟨rfl, hi, p⟩
  have qx := hq i σ H p
  by_cases hlt : i < xs.length
  · have hx : xs[i]? = some xs[i] := List.getElem?_eq_getElem hlt
    refine .inr ⟨⟨xs, _, qx, hx⟩, Pv (i + 1), fun σ' H' p' => ⟨xs.length - (i + 1), by omega, rfl, hlt, p'⟩, fun v H' y => ?_⟩
    obtain ⟨T, x', rfl, hT, rfl, f1⟩ := y
    exact hs i x' T σ H (f1 xs qx) p hT
  · have e : i = xs.length := by omega
    subst e
    exact .inl ⟨⟨xs, qx, Nat.le_refl _⟩, hd σ H p⟩
theorem lc_zip {K : PySem.W.Frag} {a b : Addr} {xs ys : List V} {g : TG} {tt : TT} {te : TE} {vs : List Nat} {σ : L2.St} {H1 : Hp} {D : Addr} {Qd : Hp → Prop} (hl : xs.length = ys.length) (Pv : Nat → Hp → Prop) (h0 : Pv 0 (upd H1 D (.lst []))) (hq : ∀ i H, Pv i H → SqL K H a xs ∧ SqL K H b ys)
    (hs : ∀ (i : Nat) (x y : V) (T : Addr) (H : Hp), xs[i]? = some x → ys[i]? = some y → Pv i H → H T = none → g (.ref T) (wipe σ vs) (upd H T (.tup [x, y])) fun σ2 H2 => wipe σ2 vs = wipe σ vs ∧ tt σ2 H2 fun b H3 =>
      if b = true then te σ2 H3 fun y H4 => ∃ acc, H4 D = some (.lst acc) ∧ acc.length < sizeLine ∧ Pv (i + 1) (upd H4 D (.lst (acc ++ [y]))) else Pv (i + 1) H3) (hd : ∀ H, Pv xs.length H → Qd H) :
    ∃ W : Nat → Nat → Hp → Prop, (∃ m, W 0 m (upd H1 D (.lst []))) ∧ ∀ i m H, W i m H →
      ((Itz K a b).stop i H ∧ Qd H) ∨ ((Itz K a b).go i H ∧ ∃ Nx : Hp → Prop, (∀ H', Nx H' → ∃ m', m' < m ∧ W (i + 1) m' H') ∧ ∀ x H', (Itz K a b).yld i H x H' → g x (wipe σ vs) H' fun σ2 H2 => wipe σ2 vs = wipe σ vs ∧ tt σ2 H2 fun b H3 =>
        if b = true then te σ2 H3 fun y H4 => ∃ acc, H4 D = some (.lst acc) ∧ acc.length < sizeLine ∧ Nx (upd H4 D (.lst (acc ++ [y]))) else Nx H3) := by
  refine ⟨fun i m H => m = xs.length - i ∧ i ≤ xs.length ∧ Pv i H, ⟨xs.length, rfl, Nat.zero_le _, h0⟩, ?_⟩
  rintro i m H ⟨rfl, hi, p⟩
  obtain ⟨qx, qy⟩ := hq i H p
  by_cases hlt : i < xs.length
  · have hx : xs[i]? = some xs[i] := List.getElem?_eq_getElem hlt
    have hlt2 : i < ys.length := by omega
    have hy : ys[i]? = some ys[i] := List.getElem?_eq_getElem hlt2
    refine .inr ⟨⟨xs, ys, _, _, qx, qy, hx, hy⟩, Pv (i + 1), fun H' p' => ⟨xs.length - (i + 1), by omega, rfl, hlt, p'⟩, fun v H' y => ?_⟩
    obtain ⟨T, x', y', rfl, hT, rfl, f1, f2⟩ := y
    exact hs i x' y' T H (f1 xs qx) (f2 ys qy) p hT
  · have e : i = xs.length := by omega
    subst e
    exact .inl ⟨⟨xs, ys, qx, qy, Or.inl (Nat.le_refl _)⟩, hd H p⟩
abbrev g2 (K : PySem.W.Frag) (j1 j2 : Nat) : TG := gTup K 2 (gCons (gName j1) (gCons (gName j2) gNil))
theorem take_snoc {α : Type} {l : List α} {i : Nat} {x : α} (h : l[i]? = some x) : l.take (i + 1) = l.take i ++ [x] := by
  rw [List.take_add_one, h]
  rfl
/-- [f(x, y) for x, y in zip(xs, ys)] -/
theorem el_zip {K : PySem.W.Frag} {ta : TA} {te : TE} {vs : List Nat} {j1 j2 : Nat} {σ : L2.St} {H : Hp} {a b : Addr} {xs ys : List Int} (f : Int → Int → Int) (h : EvA ta σ H [.ref a, .ref b]) (hx : SqL K H a (xs.map V.int)) (hy : SqL K H b (ys.map V.int)) (hl : xs.length = ys.length) (hz : xs.length ≤ 1000)
    (hw : ∀ u v, wipe (((wipe σ vs).set j1 (some u)).set j2 (some v)) vs = wipe σ vs)
    (he : ∀ x y H1, x ∈ xs → y ∈ ys → Ex H H1 → Ev te (((wipe σ vs).set j1 (some (.int x))).set j2 (some (.int y))) H1 (.int (f x y))) : EvL (tLc (iZip K ta) (g2 K j1 j2) tYes te vs) σ H ((List.zipWith f xs ys).map V.int) := fun H0 e Q q => h H0 e _ fun H1 e1 => by
  have hx1 := ex_l (e.trans e1) hx
  have hy1 := ex_l (e.trans e1) hy
  refine ⟨a, b, _, _, rfl, hx1, hy1, fun D hD => ?_⟩
  refine lc_zip (xs := xs.map V.int) (ys := ys.map V.int) (by rw [List.length_map, List.length_map]; exact hl) (fun i H' => Ex H1 H' ∧ H' D = some (.lst (((List.zipWith f xs ys).take i).map V.int))) ⟨Ex.new hD, upd_same⟩ (fun i H' p => ⟨ex_l p.1 hx1, ex_l p.1 hy1⟩) (fun i x y T H' gx gy p nT => ?_) (fun H' p => ?_)
  · obtain ⟨p1, p2⟩ := p
    rw [List.getElem?_map] at gx gy
    obtain ⟨x', hx', rfl⟩ := Option.map_eq_some_iff.mp gx
    obtain ⟨y', hy', rfl⟩ := Option.map_eq_some_iff.mp gy
    refine ⟨T, _, rfl, SqT.of upd_same, rfl, _, _, rfl, _, _, rfl, rfl, hw _ _, ?_⟩
    show te _ _ _
    have xT : Ex H' (upd H' T (.tup [.int x', .int y'])) := Ex.new nT
    refine he x' y' H (List.mem_of_getElem? hx') (List.mem_of_getElem? hy') (Ex.refl H) _ ((e.trans e1).trans (p1.trans xT)) _ fun H4 e4 => ?_
    refine ⟨_, e4 _ _ (xT _ _ p2), ?_, Ex.mut ((p1.trans xT).trans e4) hD, ?_⟩
    · rw [List.length_map, List.length_take]
      have := (List.getElem?_eq_some_iff.mp hx').1
      exact small1000 (by omega)
    · have hzz : (List.zipWith f xs ys)[i]? = some (f x' y') := by
        rw [List.getElem?_zipWith, hx', hy']
      rw [upd_same, take_snoc hzz, List.map_append]
      rfl
  · obtain ⟨p1, p2⟩ := p
    rw [List.take_of_length_le (by rw [List.length_zipWith, List.length_map]; omega)] at p2
    exact q D H' (fresh_back e1 hD) (e1.trans p1) p2
/-- [g(x, y) for x, y in qs], qs a list of pairs -/
theorem el_pairs {K : PySem.W.Frag} {n : Nat} {te : TE} {vs : List Nat} {j1 j2 : Nat} {σ : L2.St} {H : Hp} {a : Addr} {bs : List Addr} {qs : List (Int × Int)} (f : Int × Int → Int) (hσ : σ[n]? = some (some (.ref a))) (hx : H a = some (.lst (bs.map V.ref))) (hE : EdgesAt H bs qs) (hz : qs.length ≤ 1000)
    (hw : ∀ u v, wipe (((wipe σ vs).set j1 (some u)).set j2 (some v)) vs = wipe σ vs)
    (he : ∀ e H1, e ∈ qs → Ex H H1 → Ev te (((wipe σ vs).set j1 (some (.int e.1))).set j2 (some (.int e.2))) H1 (.int (f e))) : EvL (tLc (iList K (tVar n)) (g2 K j1 j2) tYes te vs) σ H ((qs.map f).map V.int) := fun H1 e1 Q q => by
  have hx1 := e1 _ _ hx
  have el : bs.length = qs.length := Paired.length hE
  refine ⟨_, hσ, a, rfl, ⟨_, SqL.of hx1⟩, fun D hD => ?_⟩
  refine lc_list (K := K) (a := a) (xs := bs.map V.ref) (fun i H' => Ex H1 H' ∧ H' D = some (.lst (((qs.map f).take i).map V.int))) ⟨Ex.new hD, upd_same⟩ (fun i H' _ p => SqL.of (p.1 _ _ hx1)) (fun i x H' gx p => ?_) (fun H' p => ?_)
  · obtain ⟨p1, p2⟩ := p
    rw [List.getElem?_map] at gx
    obtain ⟨b, hb, rfl⟩ := Option.map_eq_some_iff.mp gx
    obtain ⟨ed, hed, hr⟩ := paired_get hE hb
    refine ⟨b, _, rfl, SqT.of ((e1.trans p1) _ _ hr), rfl, _, _, rfl, _, _, rfl, rfl, hw _ _, ?_⟩
    show te _ _ _
    refine he ed H (List.mem_of_getElem? hed) (Ex.refl H) _ (e1.trans p1) _ fun H4 e4 => ?_
    refine ⟨_, e4 _ _ p2, ?_, Ex.mut (p1.trans e4) hD, ?_⟩
    · rw [List.length_map, List.length_take, List.length_map]
      exact small1000 (by omega)
    · have hzz : (qs.map f)[i]? = some (f ed) := by rw [List.getElem?_map, hed]; rfl
      rw [upd_same, take_snoc hzz, List.map_append]
      rfl
  · obtain ⟨p1, p2⟩ := p
    rw [List.take_of_length_le (by rw [List.length_map, List.length_map]; omega)] at p2
    exact q D H' hD p1 p2
/-- [[..] for i in range(m)]: new rows -/
theorem lc_rows {ta : TA} {te : TE} {vs : List Nat} {j : Nat} {σ : L2.St} {H : Hp} {Q : VK} {m : Nat} (F : Nat → List Int) (h : EvA ta σ H [.int (m : Int)]) (hm : m ≤ 1000) (hw : ∀ u, wipe ((wipe σ vs).set j (some u)) vs = wipe σ vs)
    (he : ∀ i H1, Ex H H1 → i < m → EvL te ((wipe σ vs).set j (some (.int (i : Int)))) H1 ((F i).map V.int))
    (k : ∀ p as H2, H p = none → (∀ a ∈ as, H a = none) → as.Nodup → p ∉ as → Ex H H2 → Tab H2 p as ((List.range m).map F) → Q (.ref p) H2) : tLc (iRng1 ta) (gName j) tYes te vs σ H Q := by
  refine h H (Ex.refl H) _ fun H1 e1 => ⟨(m : Int), rfl, by omega, by omega, fun D hD => ?_⟩
  have hDH : H D = none := fresh_back e1 hD
  refine lc_range (lo := 0) (n := (m : Int).toNat) (fun i H' => ∃ as, Ex H1 H' ∧ H' D = some (.lst (as.map V.ref)) ∧ RowsAt H' as ((List.range i).map F) ∧ (∀ a ∈ as, H a = none) ∧ as.Nodup ∧ D ∉ as) ⟨[], Ex.new hD, upd_same, .nil, fun a ha => by simp at ha, List.nodup_nil, by simp⟩ (fun i H' hi p => ?_) (fun H' p => ?_)
  · obtain ⟨as, p1, p2, p3, p4, p5, p6⟩ := p
    have el : as.length = i := by rw [Paired.length p3, List.length_map, List.length_range]
    have e0 : (0 : Int) + (i : Int) = (i : Int) := Int.zero_add _
    refine ⟨hw _, ?_⟩
    show te ((wipe σ vs).set j (some (.int ((0 : Int) + (i : Int))))) H' _
    rw [e0]
    refine he i H' (e1.trans p1) (by omega) H' (Ex.refl _) _ fun r H4 nr e4 hr => ?_
    have nrD : r ≠ D := fun z => by
      rw [z, p2] at nr
      cases nr
    refine ⟨_, e4 _ _ p2, ?_, as ++ [r], Ex.mut (p1.trans e4) hD, ?_, ?_, ?_, ?_, ?_⟩
    · rw [List.length_map, el]
      exact small1000 (by omega)
    · rw [upd_same, List.map_append]
      rfl
    · rw [List.range_succ, List.map_append]
      have st : ∀ a (l : List Int), a ≠ D → H4 a = some (.lst (l.map V.int)) → upd H4 D (.lst (as.map V.ref ++ [.ref r])) a = some (.lst (l.map V.int)) := fun a l n g => by
        rw [upd_ne n]
        exact g
      refine paired_snoc ?_ (st r _ nrD hr)
      have aux : ∀ {as' : List Addr} {rs : List (List Int)}, D ∉ as' → RowsAt H' as' rs → RowsAt (upd H4 D (.lst (as.map V.ref ++ [.ref r]))) as' rs := by
        intro as' rs hn hp
        induction hp with
        | nil => exact .nil
        | cons g t ih => exact .cons (st _ _ (fun z => hn (by rw [z]; exact List.mem_cons_self ..)) (e4 _ _ g)) (ih fun z => hn (List.mem_cons_of_mem _ z))
      exact aux p6 p3
    · intro a ha
      rcases List.mem_append.mp ha with h | h
      · exact p4 a h
      · have : a = r := by simpa using h
        rw [this]
        exact fresh_back (e1.trans p1) nr
    · refine List.nodup_append.mpr ⟨p5, by simp, fun a ha b hb => ?_⟩
      have : b = r := by simpa using hb
      rw [this]
      intro z
      rw [z] at ha
      obtain ⟨x, _, hx⟩ := paired_mem p3 ha
      rw [nr] at hx
      cases hx
    · intro ha
      rcases List.mem_append.mp ha with h | h
      · exact p6 h
      · exact nrD (by simpa using h : D = r).symm
  · obtain ⟨as, p1, p2, p3, p4, p5, p6⟩ := p
    have em : (m : Int).toNat = m := by omega
    rw [em] at p3
    exact k D as H' hDH p4 p5 p6 (e1.trans p1) ⟨p2, p3⟩
/-! ### a dict of rows by places -/
theorem nodup_sub {α : Type} [DecidableEq α] : ∀ {l1 l2 : List α}, l1.Nodup → (∀ x ∈ l1, x ∈ l2) → l1.length ≤ l2.length
  | [], _, _, _ => Nat.zero_le _
  | a :: t, l2, hn, hs => by
    have h1 := List.nodup_cons.mp hn
    have ha := hs a (List.mem_cons_self ..)
    have ih := nodup_sub (l1 := t) (l2 := l2.erase a) h1.2 fun x hx => (List.mem_erase_of_ne (fun z => h1.1 (by rw [← z]; exact hx))).mpr (hs x (List.mem_cons_of_mem _ hx))
    rw [List.length_erase_of_mem ha] at ih
    have := List.length_pos_of_mem ha
    simp only [List.length_cons]
    omega
theorem rep_flat : ∀ m : Nat, (List.replicate m [V.int 0]).flatten = (List.replicate m 0).map V.int
  | 0 => rfl
  | m + 1 => by
    rw [List.replicate_succ, List.flatten_cons, rep_flat m]
    rfl
theorem nodup_nums (m : Nat) : (numsTo m).Nodup := by
  unfold numsTo
  exact List.Pairwise.map _ (fun a b h z => h (by omega)) List.nodup_range
theorem val_mem : ∀ {kvs : List (Key × V)} {L : List Int} {x : Int}, kvs.map (·.1) = L.map Sum.inl → ((valV kvs (Sum.inl x : Key)).isSome = true ↔ x ∈ L)
  | [], L, x, h => by
    cases L with
    | nil => simp [valV]
    | cons a l => simp at h
  | kv :: r, L, x, h => by
    cases L with
    | nil => simp at h
    | cons a l =>
      have h1 : kv.1 = Sum.inl a ∧ r.map (·.1) = l.map Sum.inl := by
        have := List.cons.inj h
        exact ⟨this.1, this.2⟩
      have ih := val_mem (kvs := r) (L := l) (x := x) h1.2
      by_cases e : x = a
      · subst e
        rw [valV_pos h1.1]
        simp
      · have ne : ¬ kv.1 = Sum.inl x := by
          rw [h1.1]
          intro z
          exact e (Sum.inl.inj z).symm
        have e2 : valV (kv :: r) (Sum.inl x : Key) = valV r (Sum.inl x : Key) := by
          simp [valV, List.find?_cons, ne]
        rw [e2, ih, List.mem_cons]
        exact ⟨Or.inr, fun z => z.resolve_left e⟩
/-- the dict at d: rows of m whole numbers by the places L -/
structure FarOk (H : Hp) (d : Addr) (m : Nat) (kvs : List (Key × V)) (L : List Int) : Prop where
  at_ : H d = some (.dK kvs)
  keys : kvs.map (·.1) = L.map Sum.inl
  nd : L.Nodup
  inn : ∀ x ∈ L, 0 ≤ x ∧ x ≤ m
  row : ∀ x v, valV kvs (Sum.inl x : Key) = some v → ∃ (a : Addr) (ns : List Int), v = .ref a ∧ H a = some (.lst (ns.map V.int)) ∧ ns.length = m ∧ ∀ y ∈ ns, y.natAbs ≤ L.length
theorem FarOk.len {H : Hp} {d : Addr} {m : Nat} {kvs : List (Key × V)} {L : List Int} (h : FarOk H d m kvs L) : kvs.length = L.length := by
  rw [← List.length_map (f := (·.1)), h.keys, List.length_map]
theorem FarOk.le {H : Hp} {d : Addr} {m : Nat} {kvs : List (Key × V)} {L : List Int} (h : FarOk H d m kvs L) : L.length ≤ m + 1 := by
  have := nodup_sub (l2 := numsTo (m + 1)) h.nd fun x hx => mem_numsTo.mpr (by have := h.inn x hx; omega)
  rw [numsTo_length] at this
  exact this
theorem FarOk.all {H : Hp} {d : Addr} {m : Nat} {kvs : List (Key × V)} {L : List Int} (h : FarOk H d m kvs L) (hl : m < L.length) : ∀ x : Int, 0 ≤ x → x ≤ m → x ∈ L := by
  intro x h0 h1
  by_cases hx : x ∈ L
  · exact hx
  · have h2 := nodup_sub (l1 := x :: L) (l2 := numsTo (m + 1)) (List.nodup_cons.mpr ⟨hx, h.nd⟩) fun y hy => mem_numsTo.mpr (by
      rcases List.mem_cons.mp hy with rfl | hy
      · omega
      · have := h.inn y hy
        omega)
    rw [numsTo_length, List.length_cons] at h2
    omega
theorem FarOk.ex {H H' : Hp} {d : Addr} {m : Nat} {kvs : List (Key × V)} {L : List Int} (h : FarOk H d m kvs L) (e : Ex H H') : FarOk H' d m kvs L :=
  ⟨e _ _ h.at_, h.keys, h.nd, h.inn, fun x v hv => by
    obtain ⟨a, ns, h1, h2, h3, h4⟩ := h.row x v hv
    exact ⟨a, ns, h1, e _ _ h2, h3, h4⟩⟩
theorem FarOk.get {H : Hp} {d : Addr} {m : Nat} {kvs : List (Key × V)} {L : List Int} (h : FarOk H d m kvs L) {x : Int} (hx : x ∈ L) : ∃ (a : Addr) (ns : List Int), valV kvs (Sum.inl x : Key) = some (.ref a) ∧ H a = some (.lst (ns.map V.int)) ∧ ns.length = m ∧ ∀ y ∈ ns, y.natAbs ≤ L.length := by
  have hs := (val_mem h.keys).mpr hx
  obtain ⟨v, hv⟩ := Option.isSome_iff_exists.mp hs
  obtain ⟨a, ns, h1, h2, h3, h4⟩ := h.row x v hv
  subst h1
  exact ⟨a, ns, hv, h2, h3, h4⟩
theorem FarOk.no {H : Hp} {d : Addr} {m : Nat} {kvs : List (Key × V)} {L : List Int} (h : FarOk H d m kvs L) {x : Int} (hx : x ∉ L) : valV kvs (Sum.inl x : Key) = none := by
  cases q : valV kvs (Sum.inl x : Key) with
  | none => rfl
  | some v => exact absurd ((val_mem h.keys).mp (by rw [q]; rfl)) hx
theorem FarOk.some_ {H : Hp} {d : Addr} {m : Nat} {kvs : List (Key × V)} {L : List Int} (h : FarOk H d m kvs L) (x : Int) : (valV kvs (Sum.inl x : Key)).isSome = decide (x ∈ L) := by
  rw [Bool.eq_iff_iff, val_mem h.keys, decide_eq_true_iff]
theorem FarOk.put {H : Hp} {d : Addr} {m : Nat} {kvs : List (Key × V)} {L : List Int} {x : Int} {a : Addr} {ns : List Int} (h : FarOk H d m kvs L) (hx : x ∉ L) (h0 : 0 ≤ x ∧ x ≤ m) (ha : H a = some (.lst (ns.map V.int))) (hl : ns.length = m) (hb : ∀ y ∈ ns, y.natAbs ≤ L.length + 1) :
    FarOk (upd H d (.dK (putK kvs (Sum.inl x) (.ref a)))) d m (putK kvs (Sum.inl x) (.ref a)) (L ++ [x]) := by
  have hn := h.no hx
  have ne : ∀ b (l : List V), H b = some (.lst l) → b ≠ d := fun b l g => ne_of g h.at_ (by intro z; cases z)
  refine ⟨upd_same, ?_, ?_, ?_, ?_⟩
  · rw [putK_new _ hn, List.map_append, List.map_append, h.keys]
    rfl
  · refine List.nodup_append.mpr ⟨h.nd, by simp, fun y hy z hz => ?_⟩
    have : z = x := by simpa using hz
    rw [this]
    intro e
    exact hx (e ▸ hy)
  · intro y hy
    rcases List.mem_append.mp hy with q | q
    · exact h.inn y q
    · have : y = x := by simpa using q
      rw [this]
      exact h0
  · intro y v hv
    rw [valV_put] at hv
    rw [List.length_append]
    by_cases e : (Sum.inl y : Key) = Sum.inl x
    · rw [if_pos e] at hv
      have ev := Option.some.inj hv
      subst ev
      refine ⟨a, ns, rfl, ?_, hl, hb⟩
      rw [upd_ne (ne a _ ha)]
      exact ha
    · rw [if_neg e] at hv
      obtain ⟨b, l, h1, h2, h3, h4⟩ := h.row y v hv
      refine ⟨b, l, h1, ?_, h3, fun z hz => Nat.le_succ_of_le (h4 z hz)⟩
      rw [upd_ne (ne b _ h2)]
      exact h2
theorem ev_dget {σ : L2.St} {H : Hp} {i j : Nat} {d : Addr} {x : Int} {kvs : List (Key × V)} {v : V} (h1 : σ[i]? = some (some (.ref d))) (h2 : σ[j]? = some (some (.int x))) (hd : H d = some (.dK kvs)) (hv : valV kvs (Sum.inl x : Key) = some v) : Ev (tDGet (tVar i) (tVar j)) σ H v := fun H1 e Q q =>
  ⟨_, h1, _, h2, d, v, rfl, by rw [← hv]; exact DGet.k (k := Sum.inl x) (e _ _ hd), q H1 (Ex.refl _)⟩
/-- the kk-th number of the row that stands by x -/
def rowOf : Option HO → List Int
  | some (.lst xs) => xs.map fun v => match v with | .int i => i | _ => 0
  | _ => []
theorem rowOf_ints (ns : List Int) : rowOf (some (.lst (ns.map V.int))) = ns := by
  show (ns.map V.int).map (fun v => match v with | V.int i => i | _ => 0) = ns
  rw [List.map_map]
  exact List.map_id' ns
def valN (H : Hp) (kvs : List (Key × V)) (x : Int) (kk : Nat) : Int :=
  match valV kvs (Sum.inl x : Key) with
  | some (.ref a) => (rowOf (H a))[kk]?.getD 0
  | _ => 0
theorem valN_eq {H : Hp} {kvs : List (Key × V)} {x : Int} {kk : Nat} {a : Addr} {ns : List Int} (h : valV kvs (Sum.inl x : Key) = some (.ref a)) (g : H a = some (.lst (ns.map V.int))) : valN H kvs x kk = ns[kk]?.getD 0 := by
  unfold valN
  rw [h]
  show (rowOf (H a))[kk]?.getD 0 = _
  rw [g, rowOf_ints]
theorem atI_row {ns : List Int} {kk : Nat} (h : kk < ns.length) : atI (ns.map V.int) (kk : Int) = some (.int (ns[kk]?.getD 0)) := by
  refine atI_nat ?_
  rw [List.getElem?_map, List.getElem?_eq_getElem h]
  rfl
/-- a new table (new since H): m rows of w numbers, none greater than B -/
structure NewTab (H H' : Hp) (p : Addr) (as : List Addr) (rows : List (List Int)) (w B : Nat) : Prop where
  p0 : H p = none
  a0 : ∀ a ∈ as, H a = none
  nd : as.Nodup
  np : p ∉ as
  tab : Tab H' p as rows
  ok : ∀ r ∈ rows, r.length = w ∧ ∀ y ∈ r, y.natAbs ≤ B
theorem NewTab.ex {H H' H2 : Hp} {p : Addr} {as : List Addr} {rows : List (List Int)} {w B : Nat} (h : NewTab H H' p as rows w B) (e : Ex H' H2) : NewTab H H2 p as rows w B := ⟨h.p0, h.a0, h.nd, h.np, h.tab.ex e, h.ok⟩
theorem rows_but {H H' : Hp} : ∀ {as : List Addr} {rows : List (List Int)}, RowsAt H as rows → (∀ a ∈ as, ∀ o, H a = some o → H' a = some o) → RowsAt H' as rows
  | _, _, .nil, _ => .nil
  | _, _, .cons g t, h => .cons (h _ (List.mem_cons_self ..) _ g) (rows_but t fun a ha => h a (List.mem_cons_of_mem _ ha))
theorem NewTab.exB {H H' H2 : Hp} {s p : Addr} {as : List Addr} {rows : List (List Int)} {w B : Nat} (h : NewTab H H' p as rows w B) (e : ExB s H' H2) (hs : ∃ o, H s = some o) : NewTab H H2 p as rows w B := by
  obtain ⟨o, ho⟩ := hs
  have n1 : p ≠ s := fun z => by
    have := h.p0
    rw [z, ho] at this
    cases this
  have n2 : ∀ a ∈ as, a ≠ s := fun a ha z => by
    have := h.a0 a ha
    rw [z, ho] at this
    cases this
  exact ⟨h.p0, h.a0, h.nd, h.np, ⟨e _ _ n1 h.tab.1, rows_but h.tab.2 fun a ha o' g => e a o' (n2 a ha) g⟩, h.ok⟩
theorem NewTab.back {H0 H H' : Hp} {s p : Addr} {as : List Addr} {rows : List (List Int)} {w B : Nat} (h : NewTab H H' p as rows w B) (e : ExB s H0 H) (hs : ∃ o, H s = some o) : NewTab H0 H' p as rows w B :=
  ⟨fresh_B e h.p0 hs, fun a ha => fresh_B e (h.a0 a ha) hs, h.nd, h.np, h.tab, h.ok⟩
theorem NewTab.mono {H H' : Hp} {p : Addr} {as : List Addr} {rows : List (List Int)} {w B B' : Nat} (h : NewTab H H' p as rows w B) (hb : B ≤ B') : NewTab H H' p as rows w B' :=
  ⟨h.p0, h.a0, h.nd, h.np, h.tab, fun r hr => ⟨(h.ok r hr).1, fun y hy => Nat.le_trans ((h.ok r hr).2 y hy) hb⟩⟩
/-- found.append(a new row) -/
theorem NewTab.app {H H' H2 : Hp} {p r : Addr} {as : List Addr} {rows : List (List Int)} {row : List Int} {w B : Nat} (h : NewTab H H' p as rows w B) (e0 : ∀ a, H' a = none → H a = none) (e : Ex H' H2) (nr : H' r = none) (hr : H2 r = some (.lst (row.map V.int))) (hl : row.length = w) (hb : ∀ y ∈ row, y.natAbs ≤ B) :
    NewTab H (upd H2 p (.lst (as.map V.ref ++ [.ref r]))) p (as ++ [r]) (rows ++ [row]) w B := by
  have nrp : r ≠ p := fun z => by
    rw [z, h.tab.1] at nr
    cases nr
  have nra : r ∉ as := fun ha => by
    obtain ⟨x, _, hx⟩ := paired_mem h.tab.2 ha
    rw [nr] at hx
    cases hx
  refine ⟨h.p0, fun a ha => ?_, ?_, ?_, ⟨?_, ?_⟩, fun x hx => ?_⟩
  · rcases List.mem_append.mp ha with q | q
    · exact h.a0 a q
    · have : a = r := by simpa using q
      rw [this]
      exact e0 r nr
  · refine List.nodup_append.mpr ⟨h.nd, by simp, fun a ha b hb z => ?_⟩
    have : b = r := by simpa using hb
    exact nra (by rw [← this, ← z]; exact ha)
  · intro ha
    rcases List.mem_append.mp ha with q | q
    · exact h.np q
    · exact nrp (by simpa using q : p = r).symm
  · rw [upd_same, List.map_append]
    rfl
  · refine paired_snoc (rows_but h.tab.2 fun a ha o g => ?_) ?_
    · rw [upd_ne (fun z => h.np (by rw [← z]; exact ha))]
      exact e a o g
    · rw [upd_ne nrp]
      exact hr
  · rcases List.mem_append.mp hx with q | q
    · exact h.ok x q
    · have : x = row := by simpa using q
      rw [this]
      exact ⟨hl, hb⟩
theorem NewTab.new {H : Hp} {H1 : Hp} {p : Addr} {w B : Nat} (h : H p = none) (h1 : H1 p = some (.lst [])) : NewTab H H1 p [] [] w B := ⟨h, fun a ha => by simp at ha, List.nodup_nil, by simp, ⟨h1, .nil⟩, fun r hr => by simp at hr⟩
theorem noneB {s : Addr} {H H' : Hp} (e : ExB s H H') (hs : ∃ o, H' s = some o) : ∀ a, H' a = none → H a = none := fun a h => fresh_B e h hs
theorem ev_chain {r r' : R2} {ta tb tc : TE} {σ : L2.St} {H : Hp} {x y z : V} {b c : Bool} (ha : Ev ta σ H x) (hb : Ev tb σ H y) (hc : Ev tc σ H z) (h1 : RV r x y H (.bl b)) (h2 : RV r' y z H (.bl c)) : Ev (tChain r r' ta tb tc) σ H (.bl (b && c)) := fun H1 e Q q =>
  ha H1 e _ fun H2 e2 => hb H2 (e.trans e2) _ fun H3 e3 => h1 H3 ((e.trans e2).trans e3) _ fun H4 e4 => ⟨b, rfl, by
    cases b with
    | true =>
      show tc σ H4 _
      exact hc H4 (((e.trans e2).trans e3).trans e4) _ fun H5 e5 => h2 H5 ((((e.trans e2).trans e3).trans e4).trans e5) Q fun H6 e6 => q H6 ((((e2.trans e3).trans e4).trans e5).trans e6)
    | false =>
      show Q (.bl false) H4
      exact q H4 ((e2.trans e3).trans e4)⟩
theorem ev_int1 {ta : TE} {σ : L2.St} {H : Hp} {b : Bool} (h : Ev ta σ H (.bl b)) : Ev (tCB (fun xs H Q => (∃ i, xs = [V.int i] ∧ Q (V.int i) H) ∨ ∃ k, xs = [V.bl k] ∧ Q (V.int (if k = true then 1 else 0)) H) (tCons ta tNil)) σ H (.int (if b = true then 1 else 0)) := fun H1 e Q q =>
  h H1 e _ fun H2 e2 => .inr ⟨b, rfl, q H2 e2⟩
/-- [e for i in range(m)], e whole numbers -/
theorem el_rng {ta : TA} {te : TE} {vs : List Nat} {j m : Nat} {σ : L2.St} {H : Hp} (f : Nat → Int) (h : EvA ta σ H [.int (m : Int)]) (hm : m ≤ 1000) (hw : ∀ x, wipe ((wipe σ vs).set j (some x)) vs = wipe σ vs)
    (he : ∀ (i : Nat) H1, Ex H H1 → i < m → Ev te ((wipe σ vs).set j (some (.int (i : Int)))) H1 (.int (f i))) : EvL (tLc (iRng1 ta) (gName j) tYes te vs) σ H (((List.range m).map f).map V.int) := by
  have g := el_lcR1 (t := tYes) (te := te) (j := j) (vs := vs) (σ := σ) (H := H) (n := (m : Int)) (ta := ta) (fun _ => true) (fun o => .int (f o)) h (by omega) hw (fun o H1 e ho Hx ex Qx qx => qx Hx (Ex.refl _)) (fun o H1 e ho hf => he o H1 e (by omega))
  have eg : given (m : Int).toNat (fun _ => true) (fun o => V.int (f o)) = ((List.range m).map f).map V.int := by
    unfold given
    rw [Int.toNat_natCast, List.filter_eq_self.mpr (fun _ _ => rfl), List.map_map]
    rfl
  rw [eg] at g
  exact g
/-- [f(row) for row in rows] -/
theorem el_col {K : PySem.W.Frag} {n : Nat} {te : TE} {vs : List Nat} {j : Nat} {σ : L2.St} {H : Hp} {a : Addr} {bs : List Addr} {qs : List (List Int)} (f : List Int → Int) (hσ : σ[n]? = some (some (.ref a))) (hx : H a = some (.lst (bs.map V.ref))) (hE : RowsAt H bs qs) (hz : qs.length ≤ 1000)
    (hw : ∀ u, wipe ((wipe σ vs).set j (some u)) vs = wipe σ vs)
    (he : ∀ b r H1, r ∈ qs → H b = some (.lst (r.map V.int)) → Ex H H1 → Ev te ((wipe σ vs).set j (some (.ref b))) H1 (.int (f r))) : EvL (tLc (iList K (tVar n)) (gName j) tYes te vs) σ H ((qs.map f).map V.int) := fun H1 e1 Q q => by
  have hx1 := e1 _ _ hx
  have el : bs.length = qs.length := Paired.length hE
  refine ⟨_, hσ, a, rfl, ⟨_, SqL.of hx1⟩, fun D hD => ?_⟩
  refine lc_list (K := K) (a := a) (xs := bs.map V.ref) (fun i H' => Ex H1 H' ∧ H' D = some (.lst (((qs.map f).take i).map V.int))) ⟨Ex.new hD, upd_same⟩ (fun i H' _ p => SqL.of (p.1 _ _ hx1)) (fun i x H' gx p => ?_) (fun H' p => ?_)
  · obtain ⟨p1, p2⟩ := p
    rw [List.getElem?_map] at gx
    obtain ⟨b, hb, rfl⟩ := Option.map_eq_some_iff.mp gx
    obtain ⟨ed, hed, hr⟩ := paired_get hE hb
    refine ⟨hw _, ?_⟩
    show te _ _ _
    refine he b ed H (List.mem_of_getElem? hed) hr (Ex.refl H) _ (e1.trans p1) _ fun H4 e4 => ?_
    refine ⟨_, e4 _ _ p2, ?_, Ex.mut (p1.trans e4) hD, ?_⟩
    · rw [List.length_map, List.length_take, List.length_map]
      exact small1000 (by omega)
    · have hzz : (qs.map f)[i]? = some (f ed) := by rw [List.getElem?_map, hed]; rfl
      rw [upd_same, take_snoc hzz, List.map_append]
      rfl
  · obtain ⟨p1, p2⟩ := p
    rw [List.take_of_length_le (by rw [List.length_map, List.length_map]; omega)] at p2
    exact q D H' hD p1 p2
/-- [a number drawn for i in range(m)] -/
theorem lc_draw {ta : TA} {te : TE} {vs : List Nat} {j m : Nat} {σ : L2.St} {H : Hp} {Q : VK} {s : Addr} {n : Int} (P : Int → Prop) (h : EvA ta σ H [.int (m : Int)]) (hm : m ≤ 1000) (hs : SrcAt H s n) (hw : ∀ u, wipe ((wipe σ vs).set j (some u)) vs = wipe σ vs)
    (he : ∀ (i : Nat) H1, ExB s H H1 → i < m → SrcAt H1 s (n + i) → ∀ Q1 : VK, (∀ x H2, P x → ExB s H1 H2 → SrcAt H2 s (n + i + 1) → Q1 (.int x) H2) → te ((wipe σ vs).set j (some (.int (i : Int)))) H1 Q1)
    (k : ∀ (D : Addr) (ns : List Int) (H2 : Hp), H D = none → ExB s H H2 → SrcAt H2 s (n + m) → H2 D = some (.lst (ns.map V.int)) → ns.length = m → (∀ x ∈ ns, P x) → Q (.ref D) H2) : tLc (iRng1 ta) (gName j) tYes te vs σ H Q := by
  refine h H (Ex.refl H) _ fun H1 e1 => ⟨(m : Int), rfl, by omega, by omega, fun D hD => ?_⟩
  have hDH : H D = none := fresh_back e1 hD
  have hDs : D ≠ s := (hs.ex e1).ne hD
  refine lc_range (lo := 0) (n := (m : Int).toNat) (fun i H' => ∃ ns, ExB s H H' ∧ SrcAt H' s (n + i) ∧ H' D = some (.lst (ns.map V.int)) ∧ ns.length = i ∧ ∀ x ∈ ns, P x) ⟨[], ExB.of (e1.trans (Ex.new hD)), (hs.ex (e1.trans (Ex.new hD))).le (by omega), upd_same, rfl, fun x hx => by simp at hx⟩ (fun i H' hi p => ?_) (fun H' p => ?_)
  · obtain ⟨ns, p1, p2, p3, p4, p5⟩ := p
    have e0 : (0 : Int) + (i : Int) = (i : Int) := Int.zero_add _
    refine ⟨hw _, ?_⟩
    show te ((wipe σ vs).set j (some (.int ((0 : Int) + (i : Int))))) H' _
    rw [e0]
    refine he i H' p1 (by omega) p2 _ fun x H2 hx e2 s2 => ?_
    refine ⟨_, e2 _ _ hDs p3, small1000 (by rw [List.length_map]; omega), ns ++ [x], ?_, ?_, ?_, ?_, ?_⟩
    · refine fun b o nb hb => ?_
      rw [upd_ne (ne_of_none hb hDH)]
      exact e2 _ _ nb (p1 _ _ nb hb)
    · obtain ⟨a1, a2, a3, a4, a5, a6, a7, a8⟩ := s2
      exact ⟨a1, a2, a3, by rw [upd_ne hDs.symm]; exact a4, a5, a6, a7, by omega⟩
    · rw [upd_same, List.map_append]
      rfl
    · rw [List.length_append, p4]
      rfl
    · intro y hy
      rcases List.mem_append.mp hy with q | q
      · exact p5 y q
      · have : y = x := by simpa using q
        rw [this]
        exact hx
  · obtain ⟨ns, p1, p2, p3, p4, p5⟩ := p
    have em : (m : Int).toNat = m := by omega
    rw [em] at p4 p2
    exact k D ns H' hDH p1 p2 p3 p4 p5
/-- the same over a list of whole numbers -/
theorem lc_drawL {K : PySem.W.Frag} {tl te : TE} {vs : List Nat} {j : Nat} {σ : L2.St} {H : Hp} {Q : VK} {s a : Addr} {n : Int} {xs : List Int} (P : Int → Prop) (h : Ev tl σ H (.ref a)) (hx : H a = some (.lst (xs.map V.int))) (has : a ≠ s) (hm : xs.length ≤ 1000) (hs : SrcAt H s n) (hw : ∀ u, wipe ((wipe σ vs).set j (some u)) vs = wipe σ vs)
    (he : ∀ (i : Nat) (y : Int) H1, ExB s H H1 → i < xs.length → SrcAt H1 s (n + i) → ∀ Q1 : VK, (∀ x H2, P x → ExB s H1 H2 → SrcAt H2 s (n + i + 1) → Q1 (.int x) H2) → te ((wipe σ vs).set j (some (.int y))) H1 Q1)
    (k : ∀ (D : Addr) (ns : List Int) (H2 : Hp), H D = none → ExB s H H2 → SrcAt H2 s (n + xs.length) → H2 D = some (.lst (ns.map V.int)) → ns.length = xs.length → (∀ x ∈ ns, P x) → Q (.ref D) H2) : tLc (iList K tl) (gName j) tYes te vs σ H Q := by
  refine h H (Ex.refl H) _ fun H1 e1 => ⟨a, rfl, ⟨_, SqL.of (e1 _ _ hx)⟩, fun D hD => ?_⟩
  have hDH : H D = none := fresh_back e1 hD
  have hDs : D ≠ s := (hs.ex e1).ne hD
  refine lc_list (K := K) (a := a) (xs := xs.map V.int) (fun i H' => ∃ ns, ExB s H H' ∧ SrcAt H' s (n + i) ∧ H' D = some (.lst (ns.map V.int)) ∧ ns.length = i ∧ ∀ x ∈ ns, P x) ⟨[], ExB.of (e1.trans (Ex.new hD)), (hs.ex (e1.trans (Ex.new hD))).le (by omega), upd_same, rfl, fun x hx => by simp at hx⟩ (fun i H' _ ⟨_, p1, _⟩ => SqL.of (p1 _ _ has hx)) (fun i y H' gy p => ?_) (fun H' p => ?_)
  · obtain ⟨ns, p1, p2, p3, p4, p5⟩ := p
    rw [List.getElem?_map] at gy
    obtain ⟨y', hy', rfl⟩ := Option.map_eq_some_iff.mp gy
    have hi := (List.getElem?_eq_some_iff.mp hy').1
    refine ⟨hw _, ?_⟩
    show te _ H' _
    refine he i y' H' p1 hi p2 _ fun x H2 hx' e2 s2 => ?_
    refine ⟨_, e2 _ _ hDs p3, small1000 (by rw [List.length_map]; omega), ns ++ [x], ?_, ?_, ?_, ?_, ?_⟩
    · refine fun b o nb hb => ?_
      rw [upd_ne (ne_of_none hb hDH)]
      exact e2 _ _ nb (p1 _ _ nb hb)
    · obtain ⟨a1, a2, a3, a4, a5, a6, a7, a8⟩ := s2
      exact ⟨a1, a2, a3, by rw [upd_ne hDs.symm]; exact a4, a5, a6, a7, by omega⟩
    · rw [upd_same, List.map_append]
      rfl
    · rw [List.length_append, p4]
      rfl
    · intro z hz
      rcases List.mem_append.mp hz with q | q
      · exact p5 z q
      · have : z = x := by simpa using q
        rw [this]
        exact hx'
  · obtain ⟨ns, p1, p2, p3, p4, p5⟩ := p
    rw [List.length_map] at p4 p2
    exact k D ns H' hDH p1 p2 p3 p4 p5
theorem rows_set {H : Hp} {v : List V} {x : Addr} : ∀ {as : List Addr} {rows : List (List Int)} {k : Nat} {row : List Int}, RowsAt H as rows → as.Nodup → as[k]? = some x → v = row.map V.int → RowsAt (upd H x (.lst v)) as (rows.set k row)
  | _, _, _, _, .nil, _, h, _ => by simp at h
  | a :: as, r :: rows, 0, row, .cons g t, nd, h, hv => by
    have e : a = x := Option.some.inj h
    subst e
    have h1 := List.nodup_cons.mp nd
    refine .cons (by rw [upd_same, hv]) (rows_but t fun b hb o q => ?_)
    rw [upd_ne (fun z => h1.1 (by rw [← z]; exact hb))]
    exact q
  | a :: as, r :: rows, k + 1, row, .cons g t, nd, h, hv => by
    have h1 := List.nodup_cons.mp nd
    have hx : as[k]? = some x := h
    refine .cons ?_ (rows_set t h1.2 hx hv)
    rw [upd_ne (fun z => h1.1 (by rw [z]; exact List.mem_of_getElem? hx))]
    exact g
theorem NewTab.set {H H' : Hp} {p x : Addr} {as : List Addr} {rows : List (List Int)} {w B k j : Nat} {row : List Int} {y : Int} (h : NewTab H H' p as rows w B) (hx : as[k]? = some x) (hr : rows[k]? = some row) (hy : y.natAbs ≤ B) : NewTab H (upd H' x (.lst ((row.map V.int).set j (.int y)))) p as (rows.set k (row.set j y)) w B := by
  have npx : p ≠ x := fun z => h.np (by rw [z]; exact List.mem_of_getElem? hx)
  have o := h.ok row (List.mem_of_getElem? hr)
  refine ⟨h.p0, h.a0, h.nd, h.np, ⟨?_, rows_set h.tab.2 h.nd hx (by rw [List.map_set])⟩, fun r hr' => ?_⟩
  · rw [upd_ne npx]
    exact h.tab.1
  · rcases List.mem_or_eq_of_mem_set hr' with q | q
    · exact h.ok r q
    · rw [q]
      refine ⟨by rw [List.length_set]; exact o.1, fun z hz => ?_⟩
      rcases List.mem_or_eq_of_mem_set hz with q2 | q2
      · exact o.2 z q2
      · rw [q2]
        exact hy
section
variable {prog : Program} {w : World} {A : Around} {E : Value → Shared → Prop} {s : Shared}
theorem slice_rev2 {sl : Addr} {vl vu vs : Value} {Q : Int × Int × Nat → Shared → Prop} (hs : s.heap.IsSliceOf sl vl vu vs) (pl : IsPart vl none) (pu : IsPart vu none) (ps : IsPart vs (some (-1)))
    (h : Q (1, -1, 2) s) : wpAny (model prog w) A (Builtin.Slice.sliceApplied (.ref sl) (pure ((2 : Nat) : Int))) Q E s := by
  obtain ⟨os, hos, hcs, hds⟩ := id hs
  unfold Builtin.Slice.sliceApplied Builtin.Slice.sliceFields
  refine wpAny_bind (wpAny_bind (wpAny_field hos hds (x := vl) rfl (wpAny_bind (wpAny_field hos hds (x := vu) rfl (wpAny_bind (wpAny_field hos hds (x := vs) rfl (wpAny_pure ?_)))))))
  refine wpAny_bind (slicePart_ ps ?_)
  show wpAny _ _ (if ((-1 : Int) == 0) = true then _ else _) _ _ s
  rw [if_neg (by decide)]
  refine wpAny_bind (slicePart_ pl (wpAny_bind (slicePart_ pu (wpAny_bind (wpAny_pure ?_)))))
  exact wpAny_pure h
theorem item_rev2 {t sl : Addr} {x y vl vu vs : Value} {Q : Value → Shared → Prop} (ht : IsTup s.heap t #[x, y]) (hs : s.heap.IsSliceOf sl vl vu vs) (pl : IsPart vl none) (pu : IsPart vu none) (ps : IsPart vs (some (-1)))
    (h : Q (.ref s.heap.objs.size) { s with heap := s.heap.push { cls := .type "tuple", data := .seq #[y, x] } }) : wpAny (model prog w) A (getItem (.ref t) (.ref sl)) Q E s := by
  have htake : sizeOk (.seq (#[y, x] : Array Value)) := by
    show 2 ≤ sizeLine
    decide
  obtain ⟨os, hos, hcs, hds⟩ := id hs
  have hTs : s.TypeIs (.ref sl) "slice" := ⟨os, hos, hcs⟩
  unfold getItem
  try with_reducible refine wpAny_holding ?_
  first | refine wpAny_bind (wpAny_pure ?_) | skip
  refine wpAny_bind (wpAny_sequenceKey ht.typeIs (by decide) ?_)
  refine wpAny_bind (wpAny_callSpecial?_slot (name := Str.ofString "__getitem__") ht.typeIs PyProof.Rows.slot_tuple_getitem
    (wpAny_call_entry PyProof.Rows.slot_tuple_getitem ht.typeIs entry_tuple_getitem ?_ (args_tuple_getitem _ _)))
  show wpAny _ _ (Builtin.Tuple.tupleItemsOf (.ref t) >>= _) _ _ s
  refine wpAny_bind (tupleItemsOf_ ht ?_)
  refine wpAny_bind (wpAny_typeOf hTs ?_)
  rw [if_pos (by decide)]
  refine wpAny_bind (slice_rev2 hs pl pu ps ?_)
  show wpAny _ _ (if (((1 : Int) == 0 && (-1 : Int) == 1 && (2 : Nat) == 2) = true) then _ else _) _ _ s
  rw [if_neg (by decide)]
  first
    | exact wpAny_bind (m := Builtin.Tuple.tupleExact _) (wpAny_newObj_type (wpAny_pure ⟨_, rfl, wpAny_pure h⟩) htake)
    | exact wpAny_bind (m := Builtin.Tuple.tupleExact _) (wpAny_newObj_type (wpAny_bind (wpAny_pure (wpAny_pure ⟨_, rfl, wpAny_pure h⟩))) htake)
    | exact wpAny_bind (wpAny_bind (m := Builtin.Tuple.tupleExact _) (wpAny_newObj_type (wpAny_pure (wpAny_pure ⟨_, rfl, wpAny_pure h⟩)) htake))
    | exact wpAny_bind (wpAny_bind (m := Builtin.Tuple.tupleExact _) (wpAny_newObj_type (wpAny_pure ⟨_, rfl, wpAny_pure h⟩) htake))
end
section
variable {X : Cx}
/-- t[::-1], t a pair -/
def tRevT (K : PySem.W.Frag) (te : TE) : TE := fun σ H Q => te σ H fun v H1 => ∃ a x y, v = .ref a ∧ SqT K H1 a [x, y] ∧ ∀ p, H1 p = none → Q (.ref p) (upd H1 p (.tup [y, x]))
theorem pe_revT {e : Expr} {te : TE} {k : Nat} {p1 p2 p3 pos : Pos} (he : PE X e te) : PE X (.Subscript e (.Slice none none (some (.UnaryOp .USub (.Constant (.int 1) k p1) p2)) p3) pos) (tRevT X.K te) := by
  refine ⟨fun pins s σ H Q I h => ?_⟩
  refine Subscript_ (thn (he.run pins s σ H _ I h) fun v s1 ⟨z, H1, I1, r1, q1⟩ => ?_)
  obtain ⟨a, x, y, ex, hx, q⟩ := q1
  subst ex
  cases r1
  have hst : PO X (some (.UnaryOp .USub (.Constant (.int 1) k p1) p2)) (tPart (tUn (rU fun i => .int (-i)) (tC (.int 1)))) := po_some (pe_un un_neg pe_int)
  refine wpAny_Slice (thn (po_none.run pins s1 σ H1 (fun o H2 => o = none ∧ H2 = H1) I1 ⟨rfl, rfl⟩) fun vl s2 ⟨l, H2, I2, pl, el, e2⟩ => ?_)
  subst el e2
  refine thn (po_none.run pins s2 σ H2 (fun o H3 => o = none ∧ H3 = H2) I2 ⟨rfl, rfl⟩) fun vu s3 ⟨u, H3, I3, pu, eu, e3⟩ => ?_
  subst eu e3
  refine thn (hst.run pins s3 σ H3 (fun o H4 => o = some (-1) ∧ H4 = H3) I3 ⟨1, rfl, -1, rfl, rfl, rfl⟩) fun vs s4 ⟨o, H4, I4, ps, eo, e4⟩ => ?_
  subst eo e4
  have I5 : Inv X pins σ H4 { s4 with heap := s4.heap.push { cls := .type "slice", data := .fields #[vl, vu, vs] } } := I4.kept (t' := s4.toks) fun b ob q => Heap.get?_push_of_some _ q
  obtain ⟨its, r, ht, hz⟩ := I5.tuple hx
  obtain ⟨ua, ub, rfl, ra, rb⟩ := vals2 r
  show wpAny (model X.prog X.w) X.A (subscriptTail e (.Slice none none (some (.UnaryOp .USub (.Constant (.int 1) k p1) p2)) p3) (.ref a) (.ref s4.heap.objs.size)) (EP X pins σ Q) X.xe { s4 with heap := s4.heap.push { cls := .type "slice", data := .fields #[vl, vu, vs] } }
  refine tail_any (ops := [.ref a, .ref s4.heap.objs.size]) ht.typeIs (PyProof.Rows.slot_tuple_getitem.lookup) ?_ (by with_unfolding_all rfl)
  refine item_rev2 ht (Heap.IsSliceOf.new _ vl vu vs) pl pu ps ?_
  refine ⟨.ref _, _, I5.laid (t' := s4.toks) (o := .tup [y, x]) (fun b ob q => Heap.get?_push_of_some _ q) (Nat.le_refl _) ?_, rfl, q _ (I5.hok.fresh (Nat.le_refl _))⟩
  exact ⟨by show 2 ≤ sizeLine; decide, [ub, ua], .cons rb (.cons ra .nil), IsTup.new _ _⟩
end

theorem mem_dims {rows : List (List Int)} {w B : Nat} (h : ∀ r ∈ rows, r.length = w ∧ ∀ y ∈ r, y.natAbs ≤ B) {r : List Int} (hr : r ∈ rows) : r.length = w := (h r hr).1
/-- a table as the program takes it: 1 to 8 rows of 1 to 8 -/
structure TabOk (H : Hp) (p : Addr) (as : List Addr) (rows : List (List Int)) (m w : Nat) : Prop where
  tab : Tab H p as rows
  m_ : rows.length = m
  w_ : ∀ r ∈ rows, r.length = w
  b : 1 ≤ m ∧ m ≤ 8 ∧ 1 ≤ w ∧ w ≤ 8
theorem TabOk.ex {H H' : Hp} {p : Addr} {as : List Addr} {rows : List (List Int)} {m w : Nat} (h : TabOk H p as rows m w) (e : Ex H H') : TabOk H' p as rows m w := ⟨h.tab.ex e, h.m_, h.w_, h.b⟩
theorem TabOk.al {H : Hp} {p : Addr} {as : List Addr} {rows : List (List Int)} {m w : Nat} (h : TabOk H p as rows m w) : as.length = m := by rw [Paired.length h.tab.2, h.m_]
theorem TabOk.row0 {H : Hp} {p : Addr} {as : List Addr} {rows : List (List Int)} {m w : Nat} (h : TabOk H p as rows m w) : ∃ a0 r0, as[0]? = some a0 ∧ rows[0]? = some r0 ∧ H a0 = some (.lst (r0.map V.int)) ∧ r0.length = w ∧ atI (as.map V.ref) 0 = some (.ref a0) := by
  have hb := h.b
  have hl := h.al
  obtain ⟨a0, ha0⟩ : ∃ a0, as[0]? = some a0 := ⟨_, List.getElem?_eq_getElem (by omega)⟩
  obtain ⟨r0, hr0, hh⟩ := paired_get h.tab.2 ha0
  exact ⟨a0, r0, ha0, hr0, hh, h.w_ r0 (List.mem_of_getElem? hr0), atI_nat (j := 0) (by rw [List.getElem?_map, ha0]; rfl)⟩
theorem all_true (n : Nat) : (List.replicate n true).all id = true := by
  induction n with
  | zero => rfl
  | succ n ih => rw [List.replicate_succ, List.all_cons, ih]; rfl
/-- [f(x) for x in xs], each True -/
theorem el_yes {K : PySem.W.Frag} {n j : Nat} {a : Addr} {xs : List V} {te : TE} {vs : List Nat} {σ : L2.St} {H : Hp} (hσ : σ[n]? = some (some (.ref a))) (hx : H a = some (.lst xs)) (hl : xs.length ≤ 1000)
    (hs : ∀ x H', x ∈ xs → Ex H H' → Ev te ((wipe σ vs).set j (some x)) H' (.bl true)) (hw : ∀ x, wipe ((wipe σ vs).set j (some x)) vs = wipe σ vs) : EvL (tLc (iList K (tVar n)) (gName j) tYes te vs) σ H ((List.replicate xs.length true).map V.bl) := by
  intro H0 e0 Q0 q0
  have hx0 := e0 _ _ hx
  refine ⟨_, hσ, a, rfl, ⟨_, SqL.of hx0⟩, fun D hD => ?_⟩
  refine lc_list (K := K) (a := a) (xs := xs) (fun i H' => Ex H0 H' ∧ H' D = some (.lst ((List.replicate i true).map V.bl))) ⟨Ex.new hD, upd_same⟩ (fun i H' _ p => SqL.of (p.1 _ _ hx0)) (fun i x H' gx p => ?_) (fun H' p => ?_)
  · obtain ⟨p1, p2⟩ := p
    have hi := (List.getElem?_eq_some_iff.mp gx).1
    refine ⟨hw _, ?_⟩
    show te _ _ _
    refine hs x H (List.mem_of_getElem? gx) (Ex.refl H) _ (e0.trans p1) _ fun H4 e4 => ?_
    refine ⟨_, e4 _ _ p2, ?_, Ex.mut (p1.trans e4) hD, ?_⟩
    · rw [List.length_map, List.length_replicate]
      exact small1000 (by omega)
    · rw [upd_same, List.replicate_succ', List.map_append]
      rfl
  · obtain ⟨p1, p2⟩ := p
    exact q0 D H' hD p1 p2
theorem ev_all {K : PySem.W.Frag} {ta : TE} {n : Nat} {σ : L2.St} {H : Hp} (h : EvL ta σ H ((List.replicate n true).map V.bl)) : Ev (tCB (rAll K) (tCons ta tNil)) σ H (.bl true) := fun H1 e Q q =>
  h H1 e _ fun p H2 _ e2 hp => ⟨p, _, rfl, SqL.of hp, by rw [all_true]; exact q H2 e2⟩
theorem ev_fn {sp : Sp} {E : XK} {ta : TA} {σ : L2.St} {H : Hp} {vs : List V} {z : V} (h : EvA ta σ H vs) (hs : ∀ H1, Ex H H1 → ∀ Q : VK, (∀ H2, Ex H1 H2 → Q z H2) → sp vs H1 Q E) : Ev (tCall sp [] E ta) σ H z := fun H1 e Q q =>
  h H1 e _ fun H2 e2 => by
    rw [List.append_nil]
    exact hs H2 (e.trans e2) Q fun H3 e3 => q H3 (e2.trans e3)
theorem ev_isi {K : PySem.W.Frag} {ta tb : TE} {σ : L2.St} {H : Hp} {x : V} {n : String} {t : String} {b : Bool} (ha : Ev ta σ H x) (hb : Ev tb σ H (.ty n)) (ht : ∀ H1, Ex H H1 → TyX K H1 x (.type t)) (hk : kitB t n = some b) : Ev (tCB (rIsi K) (tCons ta (tCons tb tNil))) σ H (.bl b) := fun H1 e Q q =>
  ha H1 e _ fun H2 e2 => hb H2 (e.trans e2) _ fun H3 e3 => ⟨x, .ty n, _, _, b, rfl, .ty n, ht H3 ((e.trans e2).trans e3), kit_ty hk, q H3 (e2.trans e3)⟩
theorem rv_le {i j : Int} {H : Hp} : RV (rI0 fun i j => .bl (decide (i ≤ j))) (.int i) (.int j) H (.bl (decide (i ≤ j))) := rv_I0
/-- a rising list of places below n -/
def Rising (n : Int) (ns : List Int) : Prop := (∀ x ∈ ns, 0 ≤ x ∧ x < n) ∧ ns.Pairwise (· < ·)

/-- [[..] for y in ys], ys whole numbers: new rows -/
theorem lc_rowsL {K : PySem.W.Frag} {nn : Nat} {te : TE} {vs : List Nat} {j : Nat} {σ : L2.St} {H : Hp} {Q : VK} {a : Addr} {ys : List Int} (F : Int → List Int) (hσ : σ[nn]? = some (some (.ref a))) (hx : H a = some (.lst (ys.map V.int))) (hm : ys.length ≤ 1000) (hw : ∀ u, wipe ((wipe σ vs).set j (some u)) vs = wipe σ vs)
    (he : ∀ y H1, y ∈ ys → Ex H H1 → EvL te ((wipe σ vs).set j (some (.int y))) H1 ((F y).map V.int))
    (k : ∀ p as H2, H p = none → (∀ a ∈ as, H a = none) → as.Nodup → p ∉ as → Ex H H2 → Tab H2 p as (ys.map F) → Q (.ref p) H2) : tLc (iList K (tVar nn)) (gName j) tYes te vs σ H Q := by
  refine ⟨_, hσ, a, rfl, ⟨_, SqL.of hx⟩, fun D hD => ?_⟩
  refine lc_list (K := K) (a := a) (xs := ys.map V.int) (fun i H' => ∃ as, Ex H H' ∧ H' D = some (.lst (as.map V.ref)) ∧ RowsAt H' as ((ys.take i).map F) ∧ (∀ a ∈ as, H a = none) ∧ as.Nodup ∧ D ∉ as) ⟨[], Ex.new hD, upd_same, .nil, fun a ha => by simp at ha, List.nodup_nil, by simp⟩ (fun i H' _ ⟨_, p1, _⟩ => SqL.of (p1 _ _ hx)) (fun i x H' gx p => ?_) (fun H' p => ?_)
  · obtain ⟨as, p1, p2, p3, p4, p5, p6⟩ := p
    rw [List.getElem?_map] at gx
    obtain ⟨y, hy, rfl⟩ := Option.map_eq_some_iff.mp gx
    have hi := (List.getElem?_eq_some_iff.mp hy).1
    have el : as.length = i := by rw [Paired.length p3, List.length_map, List.length_take]; omega
    refine ⟨hw _, ?_⟩
    show te _ H' _
    refine he y H' (List.mem_of_getElem? hy) p1 H' (Ex.refl _) _ fun r H4 nr e4 hr => ?_
    have nrD : r ≠ D := fun z => by
      rw [z, p2] at nr
      cases nr
    refine ⟨_, e4 _ _ p2, ?_, as ++ [r], Ex.mut (p1.trans e4) hD, ?_, ?_, ?_, ?_, ?_⟩
    · rw [List.length_map, el]
      exact small1000 (by omega)
    · rw [upd_same, List.map_append]
      rfl
    · rw [take_snoc hy, List.map_append]
      refine paired_snoc (rows_but p3 fun b hb o g => ?_) ?_
      · rw [upd_ne (fun z => p6 (by rw [← z]; exact hb))]
        exact e4 _ _ g
      · rw [upd_ne nrD]
        exact hr
    · intro b hb
      rcases List.mem_append.mp hb with h | h
      · exact p4 b h
      · rw [show b = r by simpa using h]
        exact fresh_back p1 nr
    · refine List.nodup_append.mpr ⟨p5, by simp, fun b hb c hc z => ?_⟩
      have : c = r := by simpa using hc
      have hb' : r ∈ as := by rw [← this, ← z]; exact hb
      obtain ⟨x, _, hx'⟩ := paired_mem p3 hb'
      rw [nr] at hx'
      cases hx'
    · intro hb
      rcases List.mem_append.mp hb with h | h
      · exact p6 h
      · exact nrD (by simpa using h : D = r).symm
  · obtain ⟨as, p1, p2, p3, p4, p5, p6⟩ := p
    rw [List.length_map, List.take_length] at p3
    exact k D as H' hD p4 p5 p6 p1 ⟨p2, p3⟩
/-- [f(y) for y in ys], ys whole numbers -/
theorem el_mapI {K : PySem.W.Frag} {n : Nat} {te : TE} {vs : List Nat} {j : Nat} {σ : L2.St} {H : Hp} {a : Addr} {qs : List Int} (f : Int → Int) (hσ : σ[n]? = some (some (.ref a))) (hx : H a = some (.lst (qs.map V.int))) (hz : qs.length ≤ 1000)
    (hw : ∀ u, wipe ((wipe σ vs).set j (some u)) vs = wipe σ vs)
    (he : ∀ y H1, y ∈ qs → Ex H H1 → Ev te ((wipe σ vs).set j (some (.int y))) H1 (.int (f y))) : EvL (tLc (iList K (tVar n)) (gName j) tYes te vs) σ H ((qs.map f).map V.int) := fun H1 e1 Q q => by
  have hx1 := e1 _ _ hx
  refine ⟨_, hσ, a, rfl, ⟨_, SqL.of hx1⟩, fun D hD => ?_⟩
  refine lc_list (K := K) (a := a) (xs := qs.map V.int) (fun i H' => Ex H1 H' ∧ H' D = some (.lst (((qs.map f).take i).map V.int))) ⟨Ex.new hD, upd_same⟩ (fun i H' _ p => SqL.of (p.1 _ _ hx1)) (fun i x H' gx p => ?_) (fun H' p => ?_)
  · obtain ⟨p1, p2⟩ := p
    rw [List.getElem?_map] at gx
    obtain ⟨b, hb, rfl⟩ := Option.map_eq_some_iff.mp gx
    refine ⟨hw _, ?_⟩
    show te _ _ _
    refine he b H (List.mem_of_getElem? hb) (Ex.refl H) _ (e1.trans p1) _ fun H4 e4 => ?_
    refine ⟨_, e4 _ _ p2, ?_, Ex.mut (p1.trans e4) hD, ?_⟩
    · rw [List.length_map, List.length_take, List.length_map]
      exact small1000 (by omega)
    · have hzz : (qs.map f)[i]? = some (f b) := by rw [List.getElem?_map, hb]; rfl
      rw [upd_same, take_snoc hzz, List.map_append]
      rfl
  · obtain ⟨p1, p2⟩ := p
    rw [List.take_of_length_le (by rw [List.length_map, List.length_map]; omega)] at p2
    exact q D H' hD p1 p2
theorem TabOk.row {H : Hp} {p : Addr} {as : List Addr} {rows : List (List Int)} {m w : Nat} (h : TabOk H p as rows m w) {i : Int} (h0 : 0 ≤ i) (h1 : i < m) : ∃ a r, atI (as.map V.ref) i = some (.ref a) ∧ rows[i.toNat]? = some r ∧ H a = some (.lst (r.map V.int)) ∧ r.length = w := by
  have hl := h.al
  obtain ⟨a, ha⟩ : ∃ a, as[i.toNat]? = some a := ⟨_, List.getElem?_eq_getElem (by omega)⟩
  obtain ⟨r, hr, hh⟩ := paired_get h.tab.2 ha
  exact ⟨a, r, at_of (j := i.toNat) (by omega) (by rw [List.getElem?_map, ha]; rfl), hr, hh, h.w_ r (List.mem_of_getElem? hr)⟩
theorem atI_rowI {ns : List Int} {i : Int} (h0 : 0 ≤ i) (h : i < ns.length) : atI (ns.map V.int) i = some (.int (ns[i.toNat]?.getD 0)) := by
  have e : i = ((i.toNat : Nat) : Int) := by omega
  have h2 := atI_row (ns := ns) (kk := i.toNat) (by omega)
  rw [← e] at h2
  exact h2

/-- [[..] for x, row in zip(xs, rows)]: new rows -/
theorem lc_rowsZ {K : PySem.W.Frag} {ta : TA} {te : TE} {vs : List Nat} {j1 j2 : Nat} {σ : L2.St} {H : Hp} {Q : VK} {a b : Addr} {xs : List Int} {as : List Addr} {rows : List (List Int)} (F : Int → List Int → List Int) (h : EvA ta σ H [.ref a, .ref b]) (hx : H a = some (.lst (xs.map V.int))) (ht : Tab H b as rows) (hl : xs.length = rows.length) (hz : xs.length ≤ 1000)
    (hw : ∀ u v, wipe (((wipe σ vs).set j1 (some u)).set j2 (some v)) vs = wipe σ vs)
    (he : ∀ x c r H1, x ∈ xs → r ∈ rows → H c = some (.lst (r.map V.int)) → Ex H H1 → EvL te (((wipe σ vs).set j1 (some (.int x))).set j2 (some (.ref c))) H1 ((F x r).map V.int))
    (k : ∀ p bs H2, H p = none → (∀ a ∈ bs, H a = none) → bs.Nodup → p ∉ bs → Ex H H2 → Tab H2 p bs (List.zipWith F xs rows) → Q (.ref p) H2) : tLc (iZip K ta) (g2 K j1 j2) tYes te vs σ H Q := by
  refine h H (Ex.refl H) _ fun H1 e1 => ⟨a, b, _, _, rfl, SqL.of (e1 _ _ hx), SqL.of (e1 _ _ ht.1), fun D hD => ?_⟩
  have hDH : H D = none := fresh_back e1 hD
  have el0 : as.length = rows.length := Paired.length ht.2
  refine lc_zip (xs := xs.map V.int) (ys := as.map V.ref) (by rw [List.length_map, List.length_map, el0]; exact hl) (fun i H' => ∃ bs, Ex H1 H' ∧ H' D = some (.lst (bs.map V.ref)) ∧ RowsAt H' bs ((List.zipWith F xs rows).take i) ∧ (∀ a ∈ bs, H a = none) ∧ bs.Nodup ∧ D ∉ bs) ⟨[], Ex.new hD, upd_same, .nil, fun a ha => by simp at ha, List.nodup_nil, by simp⟩ (fun i H' ⟨_, p1, _⟩ => ⟨SqL.of ((e1.trans p1) _ _ hx), SqL.of ((e1.trans p1) _ _ ht.1)⟩) (fun i x y T H' gx gy p nT => ?_) (fun H' p => ?_)
  · obtain ⟨bs, p1, p2, p3, p4, p5, p6⟩ := p
    rw [List.getElem?_map] at gx gy
    obtain ⟨x', hx', rfl⟩ := Option.map_eq_some_iff.mp gx
    obtain ⟨c, hc, rfl⟩ := Option.map_eq_some_iff.mp gy
    obtain ⟨r, hr, hh⟩ := paired_get ht.2 hc
    have hi := (List.getElem?_eq_some_iff.mp hx').1
    have el : bs.length = i := by rw [Paired.length p3, List.length_take, List.length_zipWith]; omega
    have xT : Ex H' (upd H' T (.tup [.int x', .ref c])) := Ex.new nT
    refine ⟨T, _, rfl, SqT.of upd_same, rfl, _, _, rfl, _, _, rfl, rfl, hw _ _, ?_⟩
    show te _ _ _
    refine he x' c r H (List.mem_of_getElem? hx') (List.mem_of_getElem? hr) hh (Ex.refl H) _ ((e1.trans p1).trans xT) _ fun q H4 nq e4 hq => ?_
    have nqD : q ≠ D := fun z => by
      rw [z, xT _ _ p2] at nq
      cases nq
    have nqH' : H' q = none := fresh_back xT nq
    refine ⟨_, e4 _ _ (xT _ _ p2), ?_, bs ++ [q], Ex.mut ((p1.trans xT).trans e4) hD, ?_, ?_, ?_, ?_, ?_⟩
    · rw [List.length_map, el]
      exact small1000 (by omega)
    · rw [upd_same, List.map_append]
      rfl
    · have hzz : (List.zipWith F xs rows)[i]? = some (F x' r) := by rw [List.getElem?_zipWith, hx', hr]
      rw [take_snoc hzz]
      refine paired_snoc (rows_but p3 fun b hb o g => ?_) ?_
      · rw [upd_ne (fun z => p6 (by rw [← z]; exact hb))]
        exact e4 _ _ (xT _ _ g)
      · rw [upd_ne nqD]
        exact hq
    · intro b hb
      rcases List.mem_append.mp hb with h | h
      · exact p4 b h
      · rw [show b = q by simpa using h]
        exact fresh_back (e1.trans p1) nqH'
    · refine List.nodup_append.mpr ⟨p5, by simp, fun b hb c' hc' z => ?_⟩
      have : c' = q := by simpa using hc'
      have hb' : q ∈ bs := by rw [← this, ← z]; exact hb
      obtain ⟨y, _, hy⟩ := paired_mem p3 hb'
      rw [nqH'] at hy
      cases hy
    · intro hb
      rcases List.mem_append.mp hb with h | h
      · exact p6 h
      · exact nqD (by simpa using h : D = q).symm
  · obtain ⟨bs, p1, p2, p3, p4, p5, p6⟩ := p
    rw [List.take_of_length_le (by rw [List.length_zipWith, List.length_map]; omega)] at p3
    exact k D bs H' hDH p4 p5 p6 (e1.trans p1) ⟨p2, p3⟩
theorem flat_ints (ns : List Int) : (ns.map V.int).all flatV = true := by
  rw [List.all_eq_true]
  intro x hx
  obtain ⟨i, _, rfl⟩ := List.mem_map.mp hx
  rfl
/-- -1 at the picked places, else 1 -/
def sgnAt (ns : List Int) (kk : Nat) : Int := if inV (.int (kk : Int)) (ns.map V.int) = true then -1 else 1
theorem sgnAt_two (ns : List Int) (kk : Nat) : sgnAt ns kk = 1 ∨ sgnAt ns kk = -1 := by
  unfold sgnAt
  split
  · exact .inr rfl
  · exact .inl rfl
def sgns (ns : List Int) (m : Nat) : List Int := (List.range m).map (sgnAt ns)
theorem sgns_mem {ns : List Int} {m : Nat} {x : Int} (h : x ∈ sgns ns m) : x = 1 ∨ x = -1 := by
  obtain ⟨kk, _, rfl⟩ := List.mem_map.mp h
  exact sgnAt_two ns kk
def signedOf (rows : List (List Int)) (ris cis : List Int) (m w : Nat) : List (List Int) := List.zipWith (fun s r => List.zipWith (fun c y => s * c * y) (sgns cis w) r) (sgns ris m) rows
theorem bd_sgn {x : Int} (h : x = 1 ∨ x = -1) : Bd 2 x := by
  rcases h with rfl | rfl <;> (unfold Bd; decide)

section
variable {P : Program} {w : World} {K : PySem.W.Frag} {mg : Str → Option Value} {base : Heap}
-- DEF is_whole

def sp_is_whole (K : PySem.W.Frag) : Sp := fun vs H Q _ => ∃ (x : V) (t : String), vs = [x] ∧ TyX K H x (.type t) ∧ tyOk t ∧ Q (.bl (t == "int")) H

theorem ok_is_whole (T : Txt K mg) : FnOk P w K mg base CX0 1 T.f_is_whole T.fd_is_whole ["thing"] (sp_is_whole K) := by
  refine Fun.ok T.F_is_whole sc_is_whole (fun vs H Q E h => ?_) (fun cdv A outer s H vs Q E hr h => ?_)
  · obtain ⟨_, _, rfl, _⟩ := h; rfl
  · refine ⟨_, (pss_one (ps_ret (pe_and (pe_callB (id := "isinstance") (r := rIsi K) call_isi (by rfl) T.n_isinstance (by decide +kernel) (pa_cons (pv 0) (pa_cons (pe_bltn (v := .ty "int") (by rfl) T.n_int (by decide +kernel) rfl) pa_nil))) (pe_one (pe_not (pe_callB (id := "isinstance") (r := rIsi K) call_isi (by rfl) T.n_isinstance (by decide +kernel) (pa_cons (pv 0) (pa_cons (pe_bltn (v := .ty "bool") (by rfl) T.n_bool (by decide +kernel) rfl) pa_nil)))))))), ?_⟩
    obtain ⟨x, t, rfl, ty, ok, q⟩ := h
    refine ⟨x, rfl, x, _, _, _, _, rfl, ClsV.ty _, ty, kit_ty (ty_int ok), _, rfl, ?_⟩
    rcases ok with rfl | rfl | rfl | rfl | rfl | rfl | rfl
    · exact iteT ⟨x, rfl, x, _, _, _, _, rfl, ClsV.ty _, ty, kit_ty (ty_bool (.inl rfl)), _, rfl, q⟩
    · exact iteT ⟨x, rfl, x, _, _, _, _, rfl, ClsV.ty _, ty, kit_ty (ty_bool (.inr (.inl rfl))), _, rfl, q⟩
    all_goals exact iteF q
-- DEF _law_source_of

def sp__law_source_of (K : PySem.W.Frag) : Sp := fun vs H Q _ => ∃ c : Int, vs = [.int c] ∧ ∀ (s : Addr) (H' : Hp), H s = none → Ex H H' → SrcAt H' s 0 → Q (.ref s) H'

theorem ok__law_source_of (T : Txt K mg) : FnOk P w K mg base CX0 1 T.f__law_source_of T.fd__law_source_of ["_law_cell"] (sp__law_source_of K) := by
  refine Fun.ok T.F__law_source_of sc__law_source_of (fun vs H Q E h => ?_) (fun cdv A outer s H vs Q E hr h => ?_)
  · obtain ⟨_, rfl, _⟩ := h; rfl
  · refine ⟨_, (pss_one (ps_ret (pe_lst (pa_cons (pe_op op_mul (pv 0) (pe_callTy (T := "int") call_int1 (by rfl) T.n_int (by decide +kernel) (pa_cons (pe_cmpR op_ge (pv 0) (pe_op op_pow pe_int pe_int) (nomark _)) pa_nil))) (pa_cons (pe_op op_mod (pv 0) pe_int) (pa_cons pe_int pa_nil)))))), ?_⟩
    obtain ⟨c, rfl, k⟩ := h
    refine ⟨_, rfl, _, rfl, _, _, rfl, rfl, ⟨by decide, by decide, by decide⟩, _, _, rfl, rfl, .inr ⟨_, rfl, _, _, rfl, rfl, .inr ?_, ?_⟩⟩
    · split <;> exact ⟨by decide, by decide⟩
    refine ⟨_, rfl, _, _, rfl, rfl, (by show (0 : Int) < 2147483647; decide), (by show 3 ≤ sizeLine; decide), fun s hs => ?_⟩
    exact k s _ hs (Ex.new hs) ⟨_, _, _, upd_same, Int.emod_nonneg _ (by decide), Int.emod_lt_of_pos _ (by decide), Int.le_refl _, Int.le_refl _⟩
-- DEF _law_next

def sp__law_next (K : PySem.W.Frag) : Sp := fun vs H Q _ => ∃ (s : Addr) (m n : Int), vs = [.ref s, .int m] ∧ SrcAt H s n ∧ n ≤ 1000000000 ∧ 0 < m ∧ Bd 8000 m ∧
  ∀ (f : Int) (H' : Hp), 0 ≤ f → f < m → ExB s H H' → SrcAt H' s (n + 1) → Q (.int f) H'

theorem ok__law_next (T : Txt K mg) : FnOk P w K mg base CX0 1 T.f__law_next T.fd__law_next ["_law_source", "_law_many"] (sp__law_next K) := by
  refine Fun.ok T.F__law_next sc__law_next (fun vs H Q E h => ?_) (fun cdv A outer s H vs Q E hr h => ?_)
  · obtain ⟨_, _, _, rfl, _⟩ := h; rfl
  · refine ⟨_, (pss_cons (ps_if (pt_cmpR op_gt (pe_ix (r := rIxL K) ix_list (pv 0) pe_int (fun _ _ => rfl)) pe_int (nomark _))
        (pss_cons (ps_set (i := 2) sc__law_next.nd rfl (by first | exact Or.inl rfl | exact Or.inr rfl) (pe_op op_mod (pe_ix (r := rIxL K) ix_list (pv 0) pe_int (fun _ _ => rfl)) (pv 1)))
          (pss_cons (ps_asg (pe_op op_fdivW (pe_ix (r := rIxL K) ix_list (pv 0) pe_int (fun _ _ => rfl)) (pv 1)) (pg_sub (pv 0) pe_int set_list))
          (pss_one (ps_ret (pv 2)))))
        pss_nil)
      (pss_cons (ps_asg (pe_op op_add (pe_ix (r := rIxL K) ix_list (pv 0) pe_int (fun _ _ => rfl)) pe_int) (pg_sub (pv 0) pe_int set_list))
      (pss_cons (ps_set (i := 3) sc__law_next.nd rfl (by first | exact Or.inl rfl | exact Or.inr rfl) (pe_ix (r := rIxL K) ix_list (pe_lst (pa_cons pe_int (pa_cons pe_int (pa_cons pe_int (pa_cons pe_int (pa_cons pe_int (pa_cons pe_int (pa_cons pe_int pa_nil)))))))) (pe_op op_mod (pe_ix (r := rIxL K) ix_list (pv 0) pe_int (fun _ _ => rfl)) pe_int) (fun _ _ => rfl)))
      (pss_cons (ps_set (i := 4) sc__law_next.nd rfl (by first | exact Or.inl rfl | exact Or.inr rfl) (pe_op op_mod (pe_op op_pow (pe_op op_add (pe_op op_add (pe_ix (r := rIxL K) ix_list (pv 0) pe_int (fun _ _ => rfl)) (pe_op op_mul pe_int (pe_ix (r := rIxL K) ix_list (pv 0) pe_int (fun _ _ => rfl)))) pe_int) pe_int) (pv 3)))
      (pss_cons (ps_set (i := 4) sc__law_next.nd rfl (by first | exact Or.inl rfl | exact Or.inr rfl) (pe_op op_mod (pe_op op_mul (pe_op op_add (pv 4) (pe_ix (r := rIxL K) ix_list (pv 0) pe_int (fun _ _ => rfl))) (pe_op op_add (pe_op op_fdiv (pv 4) pe_int) pe_int)) (pv 3)))
      (pss_one (ps_ret (pe_op op_mod (pe_op op_fdiv (pv 4) pe_int) (pv 1))))))))), ?_⟩
    obtain ⟨s, m, n, rfl, ⟨p, u, r, hs, hu0, hu1, hr0, hr1⟩, hn, hm, bm, k⟩ := h
    refine ⟨_, rfl, s, _, _, _, rfl, rfl, SqL.of hs, rfl, _, _, rfl, rfl, _, rfl, ?_⟩
    refine ite2 (fun hp => ?_) (fun _ => ?_)
    · refine ⟨_, rfl, s, _, _, _, rfl, rfl, SqL.of hs, rfl, _, rfl, _, _, rfl, rfl, hm, ?_⟩
      refine ⟨_, rfl, s, _, _, _, rfl, rfl, SqL.of hs, rfl, _, rfl, _, _, rfl, rfl, Bd.divOk hm (bm.mono (by decide : 8000 ≤ 9000)), ?_⟩
      refine ⟨_, rfl, s, _, _, 0, rfl, rfl, hs, rfl, ?_⟩
      refine ⟨_, rfl, ?_⟩
      exact k _ _ (Int.emod_nonneg _ (by omega)) (Int.emod_lt_of_pos _ hm) (ExB.upd _ _ _) ⟨_, _, _, upd_same, hu0, hu1, hr0, by omega⟩
    · refine ⟨_, rfl, s, _, _, _, rfl, rfl, SqL.of hs, rfl, _, _, rfl, rfl, ?_⟩
      refine ⟨_, rfl, s, _, _, 2, rfl, rfl, hs, rfl, ?_⟩
      have hs2 : upd H s (.lst [.int p, .int u, .int (r + 1)]) s = some (.lst [.int p, .int u, .int (r + 1)]) := upd_same
      show tSeq _ _ _ _ (upd H s (.lst [.int p, .int u, .int (r + 1)]))
      generalize hH : upd H s (.lst [.int p, .int u, .int (r + 1)]) = H2 at hs2 ⊢
      refine ⟨(by show 7 ≤ sizeLine; decide), fun l hl => ?_⟩
      have nls : s ≠ l := ne_of_none hs2 hl
      have hs3 : upd H2 l (.lst [V.int 2147483647, V.int 2147483629, V.int 2147483587, V.int 2147483579, V.int 2147483563, V.int 2147483549, V.int 2147483543]) s = some (.lst [.int p, .int u, .int (r + 1)]) := by
        rw [upd_ne nls]
        exact hs2
      obtain ⟨pr, hpr, hp0, hp1⟩ := prime_at (r + 1) (by omega)
      refine ⟨_, rfl, s, _, _, _, rfl, rfl, SqL.of hs3, rfl, _, _, rfl, rfl, (by show (0 : Int) < 7; decide), l, _, _, _, rfl, rfl, SqL.of upd_same, hpr, ?_⟩
      have eH : ExB s H2 (upd H2 l (.lst [V.int 2147483647, V.int 2147483629, V.int 2147483587, V.int 2147483579, V.int 2147483563, V.int 2147483549, V.int 2147483543])) := ExB.of (Ex.new hl)
      generalize upd H2 l (.lst [V.int 2147483647, V.int 2147483629, V.int 2147483587, V.int 2147483579, V.int 2147483563, V.int 2147483549, V.int 2147483543]) = H3 at hs3 eH ⊢
      -- figure
      refine ⟨_, rfl, s, _, _, _, rfl, rfl, SqL.of hs3, rfl, _, rfl, s, _, _, _, rfl, rfl, SqL.of hs3, rfl, _, _, rfl, rfl, .inl ⟨by decide, by decide⟩, _, _, rfl, rfl, _, _, rfl, rfl, _, _, rfl, rfl, ⟨by decide, by decide, ?_⟩, ?_⟩
      · show (u + 7919 * (r + 1) + 1).natAbs < 2 ^ 64
        omega
      refine ⟨_, rfl, _, _, rfl, rfl, hp0, ?_⟩
      have f0 : 0 ≤ (u + 7919 * (r + 1) + 1) ^ (5 : Int).toNat % pr := Int.emod_nonneg _ (by omega)
      have f1 : (u + 7919 * (r + 1) + 1) ^ (5 : Int).toNat % pr < pr := Int.emod_lt_of_pos _ hp0
      show tSeq _ _ _ [some (.ref s), some (.int m), _, some (.int pr), some (.int ((u + 7919 * (r + 1) + 1) ^ (5 : Int).toNat % pr))] _
      generalize (u + 7919 * (r + 1) + 1) ^ (5 : Int).toNat % pr = f at f0 f1 ⊢
      refine ⟨_, rfl, _, rfl, s, _, _, _, rfl, rfl, SqL.of hs3, rfl, _, _, rfl, rfl, ?_⟩
      refine ⟨_, rfl, _, _, rfl, rfl, ⟨by decide, by decide⟩, _, _, rfl, rfl, _, _, rfl, rfl, .inl ?_, ?_⟩
      · constructor <;> omega
      refine ⟨_, rfl, _, _, rfl, rfl, hp0, ?_⟩
      refine ⟨_, rfl, _, _, rfl, rfl, ⟨by decide, by decide⟩, _, rfl, _, _, rfl, rfl, hm, ?_⟩
      refine k _ _ (Int.emod_nonneg _ (by omega)) (Int.emod_lt_of_pos _ hm) (ExB.trans ?_ eH) ⟨_, _, _, hs3, hu0, hu1, by omega, by omega⟩
      rw [← hH]
      exact ExB.upd _ _ _
-- DEF _law_cell_at

def sp__law_cell_at (K : PySem.W.Frag) : Sp := fun vs H Q _ => ∃ (a : Addr) (ns : List Int) (k : Int), vs = [.ref a, .int k] ∧ SqL K H a (ns.map V.int) ∧ 0 ≤ k ∧ ∀ c : Int, Q (.int c) H

theorem ok__law_cell_at (T : Txt K mg) : FnOk P w K mg base CX0 1 T.f__law_cell_at T.fd__law_cell_at ["_law_script", "_law_k"] (sp__law_cell_at K) := by
  refine Fun.ok T.F__law_cell_at sc__law_cell_at (fun vs H Q E h => ?_) (fun cdv A outer s H vs Q E hr h => ?_)
  · obtain ⟨_, _, _, rfl, _⟩ := h; rfl
  · refine ⟨_, (pss_cons (ps_if (pt_cmpR op_lt (pv 1) (pe_callB (id := "len") (r := rLenS K) call_len_seq (by rfl) T.n_len PySem.boot_len (pa_cons (pv 0) pa_nil)) (nomark _))
        (pss_one (ps_ret (pe_ix (r := rIxL K) ix_list (pv 0) (pv 1) (fun _ _ => rfl))))
        pss_nil)
      (pss_one (ps_ret pe_int))), ?_⟩
    obtain ⟨a, ns, k, rfl, hS, hk, q⟩ := h
    refine ⟨_, rfl, _, rfl, a, _, rfl, .inl hS, _, _, rfl, rfl, _, rfl, ?_⟩
    refine ite2 (fun hp => ?_) (fun _ => q 0)
    have hlt : k < ((ns.map V.int).length : Int) := of_decide_eq_true hp
    rw [List.length_map] at hlt
    have hn : k.toNat < ns.length := by omega
    have g : (ns.map V.int)[k.toNat]? = some (.int ns[k.toNat]) := by
      rw [List.getElem?_map, List.getElem?_eq_getElem hn]
      rfl
    refine ⟨_, rfl, _, rfl, a, _, k, _, rfl, rfl, hS, at_of (j := k.toNat) (by omega) g, ?_⟩
    exact q _
-- DEF is_row

def sp_is_row (K : PySem.W.Frag) : Sp := fun vs H Q _ => ∃ (a : Addr) (ns : List Int), vs = [.ref a] ∧ H a = some (.lst (ns.map V.int)) ∧ 1 ≤ ns.length ∧ ns.length ≤ 8 ∧ ∀ H', Ex H H' → Q (.bl true) H'

theorem ok_is_row (T : Txt K mg) : FnOk P w K mg base CX0 2 T.f_is_row T.fd_is_row ["thing"] (sp_is_row K) := by
  refine Fun.ok T.F_is_row sc_is_row (fun vs H Q E h => ?_) (fun cdv A outer s H vs Q E hr h => ?_)
  · obtain ⟨_, _, rfl, _⟩ := h; rfl
  · refine ⟨_, (pss_cons (ps_if (PW.pt (pw_or (pt_not (pt_val (pe_callB (id := "isinstance") (r := rIsi K) call_isi (by rfl) T.n_isinstance (by decide +kernel) (pa_cons (pv 0) (pa_cons (pe_bltn (v := .ty "list") (by rfl) T.n_list (by decide +kernel) rfl) pa_nil))))) (pw_or1 (pt_not (pt_chain op_le op_le pe_int (pe_callB (id := "len") (r := rLenS K) call_len_seq (by rfl) T.n_len PySem.boot_len (pa_cons (pv 0) pa_nil)) (pe_glob (v := .int 8) (by rfl) T.g_MOST ⟨_, rfl⟩))))))
        (pss_one (ps_ret pe_bl))
        pss_nil)
      (pss_one (ps_ret (pe_callB (id := "all") (r := rAll K) (cr_all rfl) (by rfl) T.n_all (by decide +kernel) (pa_cons (pe_lc (own := [("entry", 1)]) (wi := iList K _) (g := gName 1) (tt := tYes) rfl sc_is_row.nd (pi_list (pv 0)) (blkOk_by (N := ["thing", "entry"]) (sc := (defScope s_is_row)) (by decide +kernel)) (fun _ _ _ _ _ => pg_name (i := 1) sc_is_row.nd rfl (Or.inl rfl)) (fun _ _ _ _ _ => pts_nil) (fun _ _ _ _ _ => (pe_call (ok_is_whole T) hr (by rfl) T.g_is_whole T.k_is_whole T.b_is_whole .nil pass0 (pa_cons (pv 1) pa_nil)))) pa_nil))))), ?_⟩
    obtain ⟨a, ns, rfl, ha, h1, h8, k⟩ := h
    refine q_when (b := false) (et_is (et_or (et_not (et_B (ev_isi (t := "list") (b := true) (ev_var rfl) ev_c (fun H1 e => .base (.lst (e _ _ ha))) (by decide +kernel)))) (fun _ => et_not (et_test (ev_chain ev_c (ev_is (ev_len (ev_var rfl) (SqL.of ha)) (by rw [List.length_map])) ev_c rv_le rv_le)))) ?_) (fun z => nomatch z) (fun _ H1 e1 => ?_)
    · rw [decide_eq_true (show (1 : Int) ≤ (ns.length : Int) by omega), decide_eq_true (show (ns.length : Int) ≤ 8 by omega)]
      rfl
    refine s_ret (ev_all (el_yes (a := a) rfl (e1 _ _ ha) (by rw [List.length_map]; omega) (fun x H' hx e => ?_) (fun x => rfl))) fun H2 e2 => k H2 (e1.trans e2)
    obtain ⟨i, _, rfl⟩ := List.mem_map.mp hx
    exact ev_fn (ea_cons (ev_var rfl) ea_nil) fun H3 e3 Q3 q3 => ⟨_, "int", rfl, .base (.int _), .inl rfl, q3 H3 (Ex.refl _)⟩
-- DEF _law_one

def sp__law_one (K : PySem.W.Frag) : Sp := fun vs H Q _ => ∃ (s l : Addr) (n : Int) (xs : List V), vs = [.ref s, .ref l] ∧ SrcAt H s n ∧ n ≤ 500000000 ∧ l ≠ s ∧ SqL K H l xs ∧ 0 < xs.length ∧ xs.length ≤ 1000 ∧
  ∀ v ∈ xs, ∀ H', ExB s H H' → SrcAt H' s (n + 1) → Q v H'

theorem ok__law_one (T : Txt K mg) : FnOk P w K mg base CX0 2 T.f__law_one T.fd__law_one ["_law_source", "_law_some"] (sp__law_one K) := by
  refine Fun.ok T.F__law_one sc__law_one (fun vs H Q E h => ?_) (fun cdv A outer s H vs Q E hr h => ?_)
  · obtain ⟨_, _, _, _, rfl, _⟩ := h; rfl
  · refine ⟨_, (pss_one (ps_ret (pe_ix (r := rIxL K) ix_list (pv 1) (pe_call (ok__law_next T) hr (by rfl) T.g__law_next T.k__law_next T.b__law_next .nil pass0 (pa_cons (pv 0) (pa_cons (pe_callB (id := "len") (r := rLenS K) call_len_seq (by rfl) T.n_len PySem.boot_len (pa_cons (pv 1) pa_nil)) pa_nil))) (fun _ _ => rfl)))), ?_⟩
    obtain ⟨s, l, n, xs, rfl, hs, hn, nls, hl, h0, h1, k⟩ := h
    refine ⟨_, rfl, _, rfl, _, rfl, l, xs, rfl, .inl hl, s, _, n, rfl, hs, by omega, by omega, (by show xs.length < 2 ^ 8000; exact Nat.lt_of_le_of_lt h1 (by decide +kernel)), fun f H' f0 f1 e s' => ?_⟩
    have hk : f.toNat < xs.length := by omega
    refine ⟨l, xs, f, xs[f.toNat], rfl, rfl, e.l nls hl, at_of (j := f.toNat) (by omega) (List.getElem?_eq_getElem hk), ?_⟩
    exact k _ (List.getElem_mem hk) H' e s'
-- DEF _law_mixed

def sp__law_mixed (K : PySem.W.Frag) : Sp := fun vs H Q _ => ∃ (s l : Addr) (n : Int) (xs : List V), vs = [.ref s, .ref l] ∧ SrcAt H s n ∧ n ≤ 500000000 ∧ l ≠ s ∧ SqL K H l xs ∧ xs.length ≤ 100 ∧ (∀ v ∈ xs, DatV K H s v) ∧
  ∀ (ys : List V) (p : Addr) (H' : Hp), ys.Perm xs → H p = none → ExB s H H' → SrcAt H' s (n + 100) → H' p = some (.lst ys) → Q (.ref p) H'

theorem ok__law_mixed (T : Txt K mg) : FnOk P w K mg base CX0 2 T.f__law_mixed T.fd__law_mixed ["_law_source", "_law_some"] (sp__law_mixed K) := by
  refine Fun.ok T.F__law_mixed sc__law_mixed (fun vs H Q E h => ?_) (fun cdv A outer s H vs Q E hr h => ?_)
  · obtain ⟨_, _, _, _, rfl, _⟩ := h; rfl
  · refine ⟨_, (pss_cons (ps_set (i := 2) sc__law_mixed.nd rfl (by first | exact Or.inl rfl | exact Or.inr rfl) (pe_callTy (T := "list") (r := rListS K) call_list_of (by rfl) T.n_list (by decide +kernel) (pa_cons (pv 1) pa_nil)))
      (pss_cons (ps_set (i := 3) sc__law_mixed.nd rfl (by first | exact Or.inl rfl | exact Or.inr rfl) (pe_lst pa_nil))
      (pss_cons (ps_while PassesOwn.never (pt_cmpR (r := rNeD K) (op_neD hr.units) (pv 2) (pe_lst pa_nil) (nomark _))
        (pss_one (ps_expr (pe_bm PySem.F.plainAttrs_list PySem.F.slot_list_append PySem.F.type_list_append mt_append (pv 3) (pa_cons (pe_bm PySem.F.plainAttrs_list PySem.F.slot_list_pop PySem.F.type_list_pop mt_popAt (pv 2) (pa_cons (pe_call (ok__law_next T) hr (by rfl) T.g__law_next T.k__law_next T.b__law_next .nil pass0 (pa_cons (pv 0) (pa_cons (pe_callB (id := "len") (r := rLenS K) call_len_seq (by rfl) T.n_len PySem.boot_len (pa_cons (pv 2) pa_nil)) pa_nil))) pa_nil)) pa_nil)))))
      (pss_one (ps_ret (pv 3)))))), ?_⟩
    obtain ⟨s, l, n, xs, rfl, hs, hn, nls, hl, h1, hd, k⟩ := h
    -- left, found
    refine ⟨_, rfl, l, xs, rfl, .inl hl, fun q nq => ?_⟩
    refine ⟨Nat.zero_le _, fun p np => ?_⟩
    have nqs : q ≠ s := hs.ne nq
    have nps : p ≠ s := (hs.ex (Ex.new nq)).ne np
    have npq : p ≠ q := (ne_of_none upd_same np).symm
    have npH : H p = none := fresh_back (Ex.new nq) np
    refine ⟨fun m σ H' => ∃ ls fs : List V, σ = [some (.ref s), some (.ref l), some (.ref q), some (.ref p)] ∧ m = ls.length ∧ (fs ++ ls).Perm xs ∧ H' q = some (.lst ls) ∧ H' p = some (.lst fs) ∧ ExB s H H' ∧ SrcAt H' s (n + fs.length),
      ⟨xs.length, xs, [], rfl, rfl, .refl _, ?_, upd_same, ?_, ?_⟩, ?_⟩
    · rw [upd_ne npq.symm]
      exact upd_same
    · exact ExB.of ((Ex.new nq).trans (Ex.new np))
    · exact (hs.ex ((Ex.new nq).trans (Ex.new np))).le (by simp)
    rintro m σ H1 ⟨ls, fs, rfl, rfl, hp, hq, hpf, e1, s1⟩
    have hlen : fs.length + ls.length = xs.length := by
      rw [← List.length_append]
      exact hp.length_eq
    obtain ⟨ds, d1, d2, d3⟩ := dat_all (K := K) (H := H1) (s := s) (xs := ls) fun v hv => (hd v (hp.mem_iff.mp (List.mem_append_right _ hv))).exB e1
    refine ⟨_, rfl, Nat.zero_le _, fun z nz => ?_⟩
    have x1 : Ex H1 (upd H1 z (.lst [])) := Ex.new nz
    refine ⟨_, _, .lst (SqL.of (x1 _ _ hq)) (dpAll_ex x1 d1), .lst (SqL.of upd_same) .nil, shaped_list d2 (by omega), rfl, _, rfl, ?_⟩
    rw [eqv_nil]
    cases ls with
    | nil =>
      cases d1
      refine iteF ?_
      refine ⟨_, rfl, ?_⟩
      rw [List.append_nil] at hp
      exact k fs p _ hp npH (e1.trans (ExB.of x1)) ((s1.ex x1).le (by have := hp.length_eq; omega)) (x1 _ _ hpf)
    | cons y0 ls0 =>
      cases d1 with
      | cons _ _ =>
        refine iteT ?_
        refine ⟨fun σ' H' => ∃ ls' fs' : List V, σ' = [some (.ref s), some (.ref l), some (.ref q), some (.ref p)] ∧ ls'.length < (y0 :: ls0).length ∧ (fs' ++ ls').Perm xs ∧ H' q = some (.lst ls') ∧ H' p = some (.lst fs') ∧ ExB s H H' ∧ SrcAt H' s (n + fs'.length),
          fun σ' H' ⟨ls', fs', a1, a2, a3, a4, a5, a6, a7⟩ => ⟨ls'.length, a2, ls', fs', a1, rfl, a3, a4, a5, a6, a7⟩, ?_⟩
        refine ⟨_, rfl, .inl ⟨rfl, _, SqL.of (x1 _ _ hpf)⟩, _, rfl, .inl ⟨rfl, _, SqL.of (x1 _ _ hq)⟩, _, rfl, _, rfl, q, _, rfl, .inl (SqL.of (x1 _ _ hq)), s, _, n + fs.length, rfl, s1.ex x1, by omega, (by simp only [List.length_cons]; omega), ?_, fun f H2 f0 f1 e2 s2 => ?_⟩
        · show (((y0 :: ls0).length : Nat) : Int).natAbs < 2 ^ 8000
          rw [Int.natAbs_natCast]
          exact Nat.lt_of_le_of_lt (show (y0 :: ls0).length ≤ 100 by omega) (by decide +kernel)
        · have hk : f.toNat < (y0 :: ls0).length := by omega
          have hy := List.getElem?_eq_getElem hk
          refine ⟨q, _, f, f.toNat, _, rfl, rfl, e2 _ _ nqs (x1 _ _ hq), by omega, by omega, seqIx (n := 0) f0 f1, hy, ?_⟩
          refine ⟨p, fs, _, rfl, rfl, ?_, small1000 (by omega), ?_⟩
          · rw [upd_ne npq]
            exact e2 _ _ nps (x1 _ _ hpf)
          · refine ⟨_, _, rfl, ?_, (perm_pop hy).trans hp, ?_, upd_same, ?_, ?_⟩
            · rw [List.length_eraseIdx_of_lt hk]
              omega
            · rw [upd_ne npq.symm]
              exact upd_same
            · refine fun b o nb h => ?_
              have nbp := ne_of_none h npH
              have nbq := ne_of_none h nq
              rw [upd_ne nbp, upd_ne nbq]
              exact e2 _ _ nb (x1 _ _ (e1 _ _ nb h))
            · have s3 : SrcAt H2 s (n + ((fs ++ [(y0 :: ls0)[f.toNat]]).length : Nat)) := s2.le (by rw [List.length_append]; simp; omega)
              obtain ⟨a1, a2, a3, a4, a5⟩ := s3
              exact ⟨a1, a2, a3, by rw [upd_ne nps.symm, upd_ne nqs.symm]; exact a4, a5⟩
-- DEF is_table

def sp_is_table (K : PySem.W.Frag) : Sp := fun vs H Q _ => ∃ (p : Addr) (as : List Addr) (rows : List (List Int)) (m w : Nat), vs = [.ref p] ∧ TabOk H p as rows m w ∧ ∀ H', Ex H H' → Q (.bl true) H'

theorem ok_is_table (T : Txt K mg) : FnOk P w K mg base CX0 3 T.f_is_table T.fd_is_table ["thing"] (sp_is_table K) := by
  refine Fun.ok T.F_is_table sc_is_table (fun vs H Q E h => ?_) (fun cdv A outer s H vs Q E hr h => ?_)
  · obtain ⟨_, _, _, _, _, rfl, _⟩ := h; rfl
  · refine ⟨_, (pss_cons (ps_if (PW.pt (pw_or (pt_not (pt_val (pe_callB (id := "isinstance") (r := rIsi K) call_isi (by rfl) T.n_isinstance (by decide +kernel) (pa_cons (pv 0) (pa_cons (pe_bltn (v := .ty "list") (by rfl) T.n_list (by decide +kernel) rfl) pa_nil))))) (pw_or1 (pt_not (pt_chain op_le op_le pe_int (pe_callB (id := "len") (r := rLenS K) call_len_seq (by rfl) T.n_len PySem.boot_len (pa_cons (pv 0) pa_nil)) (pe_glob (v := .int 8) (by rfl) T.g_MOST ⟨_, rfl⟩))))))
        (pss_one (ps_ret pe_bl))
        pss_nil)
      (pss_cons (ps_if (pt_not (pt_val (pe_callB (id := "all") (r := rAll K) (cr_all rfl) (by rfl) T.n_all (by decide +kernel) (pa_cons (pe_lc (own := [("row", 1)]) (wi := iList K _) (g := gName 1) (tt := tYes) rfl sc_is_table.nd (pi_list (pv 0)) (blkOk_by (N := ["thing", "row"]) (sc := (defScope s_is_table)) (by decide +kernel)) (fun _ _ _ _ _ => pg_name (i := 1) sc_is_table.nd rfl (Or.inl rfl)) (fun _ _ _ _ _ => pts_nil) (fun _ _ _ _ _ => (pe_call (ok_is_row T) hr (by rfl) T.g_is_row T.k_is_row T.b_is_row .nil pass0 (pa_cons (pv 1) pa_nil)))) pa_nil))))
        (pss_one (ps_ret pe_bl))
        pss_nil)
      (pss_one (ps_ret (pe_callB (id := "all") (r := rAll K) (cr_all rfl) (by rfl) T.n_all (by decide +kernel) (pa_cons (pe_lc (own := [("row", 1)]) (wi := iList K _) (g := gName 1) (tt := tYes) rfl sc_is_table.nd (pi_list (pv 0)) (blkOk_by (N := ["thing", "row"]) (sc := (defScope s_is_table)) (by decide +kernel)) (fun _ _ _ _ _ => pg_name (i := 1) sc_is_table.nd rfl (Or.inl rfl)) (fun _ _ _ _ _ => pts_nil) (fun _ _ _ _ _ => (pe_cmpR op_eq (pe_callB (id := "len") (r := rLenS K) call_len_seq (by rfl) T.n_len PySem.boot_len (pa_cons (pv 1) pa_nil)) (pe_callB (id := "len") (r := rLenS K) call_len_seq (by rfl) T.n_len PySem.boot_len (pa_cons (pe_ix (r := rIxL K) ix_list (pv 0) pe_int (fun _ _ => rfl)) pa_nil)) (nomark _)))) pa_nil)))))), ?_⟩
    obtain ⟨p, as, rows, m, w, rfl, hT, k⟩ := h
    have hb := hT.b
    refine q_when (b := false) (et_is (et_or (et_not (et_B (ev_isi (t := "list") (b := true) (ev_var rfl) ev_c (fun H1 e => .base (.lst (e _ _ hT.tab.1))) (by decide +kernel)))) (fun _ => et_not (et_test (ev_chain ev_c (ev_is (ev_len (ev_var rfl) (SqL.of hT.tab.1)) (by rw [List.length_map, hT.al])) ev_c rv_le rv_le)))) ?_) (fun z => nomatch z) (fun _ H1 e1 => ?_)
    · rw [decide_eq_true (show (1 : Int) ≤ (m : Int) by omega), decide_eq_true (show (m : Int) ≤ 8 by omega)]
      rfl
    have hT1 := hT.ex e1
    refine q_when (b := false) (et_not (et_B (ev_all (el_yes (a := p) rfl hT1.tab.1 (by rw [List.length_map, hT.al]; omega) (fun x H' hx e => ?_) (fun x => rfl))))) (fun z => nomatch z) (fun _ H2 e2 => ?_)
    · obtain ⟨a, ha, rfl⟩ := List.mem_map.mp hx
      obtain ⟨r, hr, hh⟩ := paired_mem hT1.tab.2 ha
      have := hT1.w_ r hr
      exact ev_fn (ea_cons (ev_var rfl) ea_nil) fun H3 e3 Q3 q3 => ⟨a, r, rfl, (e.trans e3) _ _ hh, by omega, by omega, q3⟩
    have hT2 := hT1.ex e2
    refine s_ret (ev_all (el_yes (a := p) rfl hT2.tab.1 (by rw [List.length_map, hT.al]; omega) (fun x H' hx e => ?_) (fun x => rfl))) fun H3 e3 => k H3 ((e1.trans e2).trans e3)
    obtain ⟨a, ha, rfl⟩ := List.mem_map.mp hx
    obtain ⟨r, hr, hh⟩ := paired_mem hT2.tab.2 ha
    obtain ⟨a0, r0, _, _, hh0, hl0, at0⟩ := hT2.row0
    have := hT2.w_ r hr
    refine ev_is (ev_op (ev_len (ev_var rfl) (SqL.of (e _ _ hh))) (ev_len (ev_op (ev_var rfl) ev_c (rv_ixL (SqL.of (e _ _ hT2.tab.1)) at0)) (SqL.of (e _ _ hh0))) (rv_eq rfl)) ?_
    rw [List.length_map, List.length_map, hl0, this]
    exact congrArg V.bl (decide_eq_true rfl)
-- DEF check_table

def sp_check_table (K : PySem.W.Frag) : Sp := fun vs H Q _ => ∃ (p : Addr) (as : List Addr) (rows : List (List Int)) (m w : Nat), vs = [.ref p] ∧ TabOk H p as rows m w ∧ ∀ H', Ex H H' → Q .non H'

theorem ok_check_table (T : Txt K mg) : FnOk P w K mg base CX0 4 T.f_check_table T.fd_check_table ["thing"] (sp_check_table K) := by
  refine Fun.ok T.F_check_table sc_check_table (fun vs H Q E h => ?_) (fun cdv A outer s H vs Q E hr h => ?_)
  · obtain ⟨_, _, _, _, _, rfl, _⟩ := h; rfl
  · refine ⟨_, (pss_one (ps_if (pt_not (pt_val (pe_call (ok_is_table T) hr (by rfl) T.g_is_table T.k_is_table T.b_is_table .nil pass0 (pa_cons (pv 0) pa_nil))))
        (pss_one ps_never)
        pss_nil)), ?_⟩
    obtain ⟨p, as, rows, m, w, rfl, hT, k⟩ := h
    exact ⟨_, rfl, p, as, rows, m, w, rfl, hT, fun H' e => ⟨true, rfl, iteF (k H' e)⟩⟩
-- DEF shape

def sp_shape (K : PySem.W.Frag) : Sp := fun vs H Q _ => ∃ (p : Addr) (as : List Addr) (rows : List (List Int)) (m w : Nat), vs = [.ref p] ∧ TabOk H p as rows m w ∧ ∀ t H', H t = none → Ex H H' → H' t = some (.tup [.int m, .int w]) → Q (.ref t) H'

theorem ok_shape (T : Txt K mg) : FnOk P w K mg base CX0 5 T.f_shape T.fd_shape ["table"] (sp_shape K) := by
  refine Fun.ok T.F_shape sc_shape (fun vs H Q E h => ?_) (fun cdv A outer s H vs Q E hr h => ?_)
  · obtain ⟨_, _, _, _, _, rfl, _⟩ := h; rfl
  · refine ⟨_, (pss_cons (ps_expr (pe_call (ok_check_table T) hr (by rfl) T.g_check_table T.k_check_table T.b_check_table .nil pass0 (pa_cons (pv 0) pa_nil)))
      (pss_one (ps_ret (pe_tup (pa_cons (pe_callB (id := "len") (r := rLenS K) call_len_seq (by rfl) T.n_len PySem.boot_len (pa_cons (pv 0) pa_nil)) (pa_cons (pe_callB (id := "len") (r := rLenS K) call_len_seq (by rfl) T.n_len PySem.boot_len (pa_cons (pe_ix (r := rIxL K) ix_list (pv 0) pe_int (fun _ _ => rfl)) pa_nil)) pa_nil)))))), ?_⟩
    obtain ⟨p, as, rows, m, w, rfl, hT, k⟩ := h
    refine ⟨_, rfl, p, as, rows, m, w, rfl, hT, fun H1 e1 => ?_⟩
    have hT1 := hT.ex e1
    obtain ⟨a0, r0, _, _, hh0, hl0, at0⟩ := hT1.row0
    refine s_retU (eu_tup (ea_cons (ev_is (ev_len (ev_var rfl) (SqL.of hT1.tab.1)) (by rw [List.length_map, hT.al])) (ea_cons (ev_is (ev_len (ev_op (ev_var rfl) ev_c (rv_ixL (SqL.of hT1.tab.1) at0)) (SqL.of hh0)) (by rw [List.length_map, hl0])) ea_nil)) (Nat.le_of_ble_eq_true rfl)) fun t H2 nt e2 ht => k t H2 (fresh_back e1 nt) (e1.trans e2) ht
-- DEF joined
theorem el_rgL {te : TE} {σ : L2.St} {H : Hp} {k : Nat} (h : Ev te σ H (.int (k : Int))) (hk : k ≤ 1000) : EvL (tLstRg (tRg1 te)) σ H ((numsTo k).map V.int) := fun H1 e Q q => h H1 e _ fun H2 e2 => ⟨_, rfl, by unfold RgOk; omega, fun p np => by
  rw [rgV_nums, Int.toNat_natCast]
  exact q p _ (fresh_back e2 np) (e2.trans (Ex.new np)) upd_same⟩
def grpL (k : Nat) (g : Int → Int) : List Int := (numsTo k).map g
theorem grp_len {k : Nat} {g : Int → Int} : (grpL k g).length = k := by
  unfold grpL
  rw [List.length_map, numsTo_length]
theorem grp_at {k : Nat} {g : Int → Int} {a : Int} (h0 : 0 ≤ a) (h1 : a < k) : atI ((grpL k g).map V.int) a = some (.int (g a)) := by
  refine at_of (j := a.toNat) (by omega) ?_
  unfold grpL numsTo
  rw [List.getElem?_map, List.getElem?_map, List.getElem?_map, List.getElem?_range (by omega)]
  show some (V.int (g ((a.toNat : Nat) : Int))) = _
  rw [Int.toNat_of_nonneg h0]
def sp_joined (K : PySem.W.Frag) : Sp := fun vs H Q _ => ∃ (p : Addr) (k : Nat) (g : Int → Int) (a b : Int), vs = [.ref p, .int a, .int b] ∧ H p = some (.lst ((grpL k g).map V.int)) ∧ k ≤ 1000 ∧ 0 ≤ a ∧ a < k ∧ 0 ≤ b ∧ b < k ∧
  ∀ q H', H q = none → Ex H H' → H' q = some (.lst ((grpL k (Gr.join g a b)).map V.int)) → Q (.ref q) H'

theorem ok_joined (T : Txt K mg) : FnOk P w K mg base CX0 1 T.f_joined T.fd_joined ["groups", "one", "other"] (sp_joined K) := by
  refine Fun.ok T.F_joined sc_joined (fun vs H Q E h => ?_) (fun cdv A outer s H vs Q E hr h => ?_)
  · obtain ⟨_, _, _, _, _, rfl, _⟩ := h; rfl
  · refine ⟨_, (pss_one (ps_ret (pe_lc (own := [("group", 3)]) (wi := iList K _) (g := gName 3) (tt := tYes) rfl sc_joined.nd (pi_list (pv 0)) (blkOk_by (N := ["groups", "one", "other", "group"]) (sc := (defScope s_joined)) (by decide +kernel)) (fun _ _ _ _ _ => pg_name (i := 3) sc_joined.nd rfl (Or.inl rfl)) (fun _ _ _ _ _ => pts_nil) (fun _ _ _ _ _ => (pe_ifExp (pt_cmpR op_eq (pv 3) (pe_ix (r := rIxL K) ix_list (pv 0) (pv 2) (fun _ _ => rfl)) (nomark _)) (pe_ix (r := rIxL K) ix_list (pv 0) (pv 1) (fun _ _ => rfl)) (pv 3)))))), ?_⟩
    obtain ⟨p, k, g, a, b, rfl, hp, hk, a0, a1, b0, b1, kk⟩ := h
    refine s_retL (el_mapI (K := K) (n := 0) (fun x => if x = g b then g a else x) rfl hp (by rw [grp_len]; exact hk) (fun u => rfl) fun y H1 hy e1 => ?_) fun q H1 nq e1 hq => kk q H1 nq e1 ?_
    · refine ev_if (b := decide (y = g b)) (et_is (et_test (ev_op (ev_var rfl) (ev_op (ev_var rfl) (ev_var rfl) (rv_ixL (SqL.of (e1 _ _ hp)) (grp_at b0 b1))) (rv_eq rfl))) ?_) (fun z => ?_) (fun z => ?_)
      · by_cases c : y = g b
        · rw [c, decide_eq_true rfl, decide_eq_true rfl]
        · rw [decide_eq_false c, decide_eq_false (fun z => c (V.int.inj z))]
      · rw [if_pos (of_decide_eq_true z)]
        exact ev_op (ev_var rfl) (ev_var rfl) (rv_ixL (SqL.of (e1 _ _ hp)) (grp_at a0 a1))
      · rw [if_neg (of_decide_eq_false z)]
        exact ev_var rfl
    · have e : (grpL k g).map (fun x => if x = g b then g a else x) = grpL k (Gr.join g a b) := by
        unfold grpL
        rw [List.map_map]
        rfl
      rw [hq, e]
-- DEF summed
structure TN (s : Addr) (H : Hp) (p : Addr) (as : List Addr) (rows : List (List Int)) : Prop where
  tab : Tab H p as rows
  ps : p ≠ s
  ass : ∀ a ∈ as, a ≠ s
theorem TN.ex {s : Addr} {H H' : Hp} {p : Addr} {as : List Addr} {rows : List (List Int)} (h : TN s H p as rows) (e : Ex H H') : TN s H' p as rows := ⟨h.tab.ex e, h.ps, h.ass⟩
theorem TN.exB {s : Addr} {H H' : Hp} {p : Addr} {as : List Addr} {rows : List (List Int)} (h : TN s H p as rows) (e : ExB s H H') : TN s H' p as rows := ⟨⟨e _ _ h.ps h.tab.1, rows_but h.tab.2 fun a ha o g => e a o (h.ass a ha) g⟩, h.ps, h.ass⟩
theorem TN.of {s : Addr} {n : Int} {H0 H : Hp} {p : Addr} {as : List Addr} {rows : List (List Int)} (hs : SrcAt H0 s n) (hp : H0 p = none) (ha : ∀ a ∈ as, H0 a = none) (h : Tab H p as rows) : TN s H p as rows := ⟨h, hs.ne hp, fun a q => hs.ne (ha a q)⟩
theorem dp_rows {K : PySem.W.Frag} {H : Hp} : ∀ {as : List Addr} {rows : List (List Int)}, RowsAt H as rows → DpAll K H (as.map V.ref) (rows.map fun r => PyData.list (r.map PyData.int))
  | _, _, .nil => .nil
  | _, _, .cons h t => .cons (.lst (SqL.of h) (dpAll_ints _)) (dp_rows t)
theorem canLay_rows : ∀ rows : List (List Int), PyData.canLayAll0 (rows.map fun r => PyData.list (r.map PyData.int)) = true
  | [] => rfl
  | r :: rs => by
    show (PyData.canLayAll0 (r.map PyData.int) && PyData.canLayAll0 (rs.map fun r => PyData.list (r.map PyData.int))) = true
    rw [canLay_ints, canLay_rows rs]
    rfl
theorem depth_rows : ∀ rows : List (List Int), PyData.depthAll (rows.map fun r => PyData.list (r.map PyData.int)) ≤ 1
  | [] => Nat.zero_le _
  | r :: rs => by
    show max (PyData.depthAll (r.map PyData.int) + 1) (PyData.depthAll (rs.map fun r => PyData.list (r.map PyData.int))) ≤ 1
    have := depth_rows rs
    rw [depth_ints]
    omega
theorem rv_neT {K : PySem.W.Frag} {H : Hp} {p q : Addr} {as bs : List Addr} {rows : List (List Int)} (hp : Tab H p as rows) (hq : Tab H q bs rows) : RV (rNeD K) (.ref p) (.ref q) H (.bl false) := fun H1 e Q k => by
  have sh : SeqAt.shaped (.list (rows.map fun r => PyData.list (r.map PyData.int))) = true := shaped_list (canLay_rows rows) (Nat.le_trans (depth_rows rows) (by decide))
  refine ⟨_, _, .lst (SqL.of (e _ _ hp.1)) (dp_rows (hp.2.ex e)), .lst (SqL.of (e _ _ hq.1)) (dp_rows (hq.2.ex e)), sh, sh, ?_⟩
  rw [SeqAt.eqv_refl _ (SeqAt.canLay_of_shaped sh)]
  exact k H1 (Ex.refl _)
theorem lc_rowsT {K : PySem.W.Frag} {nn : Nat} {te : TE} {vs : List Nat} {j : Nat} {σ : L2.St} {H : Hp} {Q : VK} {a : Addr} {as0 : List Addr} {rows : List (List Int)} (F : List Int → List Int) (hσ : σ[nn]? = some (some (.ref a))) (ht : Tab H a as0 rows) (hm : rows.length ≤ 1000) (hw : ∀ u, wipe ((wipe σ vs).set j (some u)) vs = wipe σ vs)
    (he : ∀ c r H1, r ∈ rows → H c = some (.lst (r.map V.int)) → Ex H H1 → EvL te ((wipe σ vs).set j (some (.ref c))) H1 ((F r).map V.int))
    (k : ∀ p as H2, H p = none → (∀ a ∈ as, H a = none) → as.Nodup → p ∉ as → Ex H H2 → Tab H2 p as (rows.map F) → Q (.ref p) H2) : tLc (iList K (tVar nn)) (gName j) tYes te vs σ H Q := by
  refine ⟨_, hσ, a, rfl, ⟨_, SqL.of ht.1⟩, fun D hD => ?_⟩
  refine lc_list (K := K) (a := a) (xs := as0.map V.ref) (fun i H' => ∃ as, Ex H H' ∧ H' D = some (.lst (as.map V.ref)) ∧ RowsAt H' as ((rows.take i).map F) ∧ (∀ a ∈ as, H a = none) ∧ as.Nodup ∧ D ∉ as) ⟨[], Ex.new hD, upd_same, .nil, fun a ha => by simp at ha, List.nodup_nil, by simp⟩ (fun i H' _ ⟨_, p1, _⟩ => SqL.of (p1 _ _ ht.1)) (fun i x H' gx p => ?_) (fun H' p => ?_)
  · obtain ⟨as, p1, p2, p3, p4, p5, p6⟩ := p
    rw [List.getElem?_map] at gx
    obtain ⟨c0, hc0, rfl⟩ := Option.map_eq_some_iff.mp gx
    obtain ⟨y, hy, hh⟩ := paired_get ht.2 hc0
    have hi := (List.getElem?_eq_some_iff.mp hy).1
    have el : as.length = i := by rw [Paired.length p3, List.length_map, List.length_take]; omega
    refine ⟨hw _, ?_⟩
    show te _ H' _
    refine he c0 y H' (List.mem_of_getElem? hy) hh p1 H' (Ex.refl _) _ fun r H4 nr e4 hr => ?_
    have nrD : r ≠ D := fun z => by
      rw [z, p2] at nr
      cases nr
    refine ⟨_, e4 _ _ p2, ?_, as ++ [r], Ex.mut (p1.trans e4) hD, ?_, ?_, ?_, ?_, ?_⟩
    · rw [List.length_map, el]
      exact small1000 (by omega)
    · rw [upd_same, List.map_append]
      rfl
    · rw [take_snoc hy, List.map_append]
      refine paired_snoc (rows_but p3 fun b hb o g => ?_) ?_
      · rw [upd_ne (fun z => p6 (by rw [← z]; exact hb))]
        exact e4 _ _ g
      · rw [upd_ne nrD]
        exact hr
    · intro b hb
      rcases List.mem_append.mp hb with h | h
      · exact p4 b h
      · rw [show b = r by simpa using h]
        exact fresh_back p1 nr
    · refine List.nodup_append.mpr ⟨p5, by simp, fun b hb c hc z => ?_⟩
      have : c = r := by simpa using hc
      have hb' : r ∈ as := by rw [← this, ← z]; exact hb
      obtain ⟨x, _, hx'⟩ := paired_mem p3 hb'
      rw [nr] at hx'
      cases hx'
    · intro hb
      rcases List.mem_append.mp hb with h | h
      · exact p6 h
      · exact nrD (by simpa using h : D = r).symm
  · obtain ⟨as, p1, p2, p3, p4, p5, p6⟩ := p
    rw [List.length_map, Paired.length ht.2, List.take_length] at p3
    exact k D as H' hD p4 p5 p6 p1 ⟨p2, p3⟩
theorem cutV_ints (ns : List Int) (lo hi : Option Int) : ∃ zs : List Int, cutV (ns.map V.int) lo hi = zs.map V.int := by
  refine ⟨(ns.drop (HT.sIx (ns.map V.int).length 0 lo)).take (HT.sIx (ns.map V.int).length (ns.map V.int).length hi - HT.sIx (ns.map V.int).length 0 lo), ?_⟩
  unfold cutV
  rw [List.map_take, List.map_drop]
theorem paired_app {α β : Type} {R : α → β → Prop} : ∀ {xs : List α} {ys : List β} {xs2 : List α} {ys2 : List β}, Paired R xs ys → Paired R xs2 ys2 → Paired R (xs ++ xs2) (ys ++ ys2)
  | _, _, _, _, .nil, h => h
  | _, _, _, _, .cons a t, h => .cons a (paired_app t h)
theorem paired_take {α β : Type} {R : α → β → Prop} : ∀ {xs : List α} {ys : List β} (n : Nat), Paired R xs ys → Paired R (xs.take n) (ys.take n)
  | _, _, 0, _ => by rw [List.take_zero, List.take_zero]; exact .nil
  | _, _, n + 1, .nil => by rw [List.take_nil, List.take_nil]; exact .nil
  | _, _, n + 1, .cons a t => .cons a (paired_take n t)

theorem at_row_ {rows : List (List Int)} {i : Nat} {r : List Int} (h : rows[i]? = some r) (b : Nat) : Dt.at_ rows i b = r[b]?.getD 0 := by
  unfold Dt.at_
  rw [h]
  rfl
theorem dec_nat {x y : Nat} : decide (V.int (x : Int) = V.int (y : Int)) = decide (x = y) := by
  by_cases c : x = y
  · subst c
    rw [decide_eq_true rfl, decide_eq_true rfl]
  · rw [decide_eq_false c, decide_eq_false (fun z => c (by have := V.int.inj z; omega))]
theorem get_i {ns : List Int} {i : Nat} {y : Int} (h : ns[i]? = some y) : ns[i]?.getD 0 = y := by rw [h]; rfl
theorem mem_i {ns : List Int} {j : Nat} (h : j < ns.length) : ns[j]?.getD 0 ∈ ns := by
  rw [List.getElem?_eq_getElem h]
  exact List.getElem_mem _

theorem six_at {n j : Nat} (hj : j < n) (h8 : n ≤ 8) : HT.sIx n n (some (j : Int)) = j := by
  have hn : n = 1 ∨ n = 2 ∨ n = 3 ∨ n = 4 ∨ n = 5 ∨ n = 6 ∨ n = 7 ∨ n = 8 := by omega
  have hm : j = 0 ∨ j = 1 ∨ j = 2 ∨ j = 3 ∨ j = 4 ∨ j = 5 ∨ j = 6 ∨ j = 7 := by omega
  rcases hn with rfl | rfl | rfl | rfl | rfl | rfl | rfl | rfl <;> rcases hm with rfl | rfl | rfl | rfl | rfl | rfl | rfl | rfl <;> first | rfl | omega
theorem six_at1 {n j : Nat} (hj : j < n) (h8 : n ≤ 8) : HT.sIx n 0 (some ((j : Int) + 1)) = j + 1 := by
  have hn : n = 1 ∨ n = 2 ∨ n = 3 ∨ n = 4 ∨ n = 5 ∨ n = 6 ∨ n = 7 ∨ n = 8 := by omega
  have hm : j = 0 ∨ j = 1 ∨ j = 2 ∨ j = 3 ∨ j = 4 ∨ j = 5 ∨ j = 6 ∨ j = 7 := by omega
  rcases hn with rfl | rfl | rfl | rfl | rfl | rfl | rfl | rfl <;> rcases hm with rfl | rfl | rfl | rfl | rfl | rfl | rfl | rfl <;> first | rfl | omega
theorem lc_rowsE {K : PySem.W.Frag} {tl te : TE} {vs : List Nat} {j : Nat} {σ : L2.St} {Hz : Hp} {Q : VK} {as0 : List Addr} {rows : List (List Int)} (F : List Int → List Int) (hl : EvL tl σ Hz (as0.map V.ref)) (ht0 : RowsAt Hz as0 rows) (hm : rows.length ≤ 1000) (hw : ∀ u, wipe ((wipe σ vs).set j (some u)) vs = wipe σ vs)
    (he : ∀ c r H1, r ∈ rows → H1 c = some (.lst (r.map V.int)) → Ex Hz H1 → EvL te ((wipe σ vs).set j (some (.ref c))) H1 ((F r).map V.int))
    (k : ∀ p as H2, Hz p = none → (∀ a ∈ as, Hz a = none) → as.Nodup → p ∉ as → Ex Hz H2 → Tab H2 p as (rows.map F) → Q (.ref p) H2) : tLc (iList K tl) (gName j) tYes te vs σ Hz Q := by
  refine hl Hz (Ex.refl Hz) _ fun a H na e0 ha => ⟨a, rfl, ⟨_, SqL.of ha⟩, fun D hD => ?_⟩
  have ht : Tab H a as0 rows := ⟨ha, ht0.ex e0⟩
  replace he : ∀ c r H1, r ∈ rows → H c = some (.lst (r.map V.int)) → Ex H H1 → EvL te ((wipe σ vs).set j (some (.ref c))) H1 ((F r).map V.int) := fun c r H1 hr hc e1 => he c r H1 hr (e1 _ _ hc) (e0.trans e1)
  replace k : ∀ p as H2, H p = none → (∀ a ∈ as, H a = none) → as.Nodup → p ∉ as → Ex H H2 → Tab H2 p as (rows.map F) → Q (.ref p) H2 := fun p as H2 np nas nd npas e t => k p as H2 (fresh_back e0 np) (fun a ha => fresh_back e0 (nas a ha)) nd npas (e0.trans e) t
  refine lc_list (K := K) (a := a) (xs := as0.map V.ref) (fun i H' => ∃ as, Ex H H' ∧ H' D = some (.lst (as.map V.ref)) ∧ RowsAt H' as ((rows.take i).map F) ∧ (∀ a ∈ as, H a = none) ∧ as.Nodup ∧ D ∉ as) ⟨[], Ex.new hD, upd_same, .nil, fun a ha => by simp at ha, List.nodup_nil, by simp⟩ (fun i H' _ ⟨_, p1, _⟩ => SqL.of (p1 _ _ ht.1)) (fun i x H' gx p => ?_) (fun H' p => ?_)
  · obtain ⟨as, p1, p2, p3, p4, p5, p6⟩ := p
    rw [List.getElem?_map] at gx
    obtain ⟨c0, hc0, rfl⟩ := Option.map_eq_some_iff.mp gx
    obtain ⟨y, hy, hh⟩ := paired_get ht.2 hc0
    have hi := (List.getElem?_eq_some_iff.mp hy).1
    have el : as.length = i := by rw [Paired.length p3, List.length_map, List.length_take]; omega
    refine ⟨hw _, ?_⟩
    show te _ H' _
    refine he c0 y H' (List.mem_of_getElem? hy) hh p1 H' (Ex.refl _) _ fun r H4 nr e4 hr => ?_
    have nrD : r ≠ D := fun z => by
      rw [z, p2] at nr
      cases nr
    refine ⟨_, e4 _ _ p2, ?_, as ++ [r], Ex.mut (p1.trans e4) hD, ?_, ?_, ?_, ?_, ?_⟩
    · rw [List.length_map, el]
      exact small1000 (by omega)
    · rw [upd_same, List.map_append]
      rfl
    · rw [take_snoc hy, List.map_append]
      refine paired_snoc (rows_but p3 fun b hb o g => ?_) ?_
      · rw [upd_ne (fun z => p6 (by rw [← z]; exact hb))]
        exact e4 _ _ g
      · rw [upd_ne nrD]
        exact hr
    · intro b hb
      rcases List.mem_append.mp hb with h | h
      · exact p4 b h
      · rw [show b = r by simpa using h]
        exact fresh_back p1 nr
    · refine List.nodup_append.mpr ⟨p5, by simp, fun b hb c hc z => ?_⟩
      have : c = r := by simpa using hc
      have hb' : r ∈ as := by rw [← this, ← z]; exact hb
      obtain ⟨x, _, hx'⟩ := paired_mem p3 hb'
      rw [nr] at hx'
      cases hx'
    · intro hb
      rcases List.mem_append.mp hb with h | h
      · exact p6 h
      · exact nrD (by simpa using h : D = r).symm
  · obtain ⟨as, p1, p2, p3, p4, p5, p6⟩ := p
    rw [List.length_map, Paired.length ht.2, List.take_length] at p3
    exact k D as H' hD p4 p5 p6 p1 ⟨p2, p3⟩
theorem el_cat {ta tb : TE} {σ : L2.St} {H : Hp} {xs ys : List V} (ha : EvL ta σ H xs) (hb : EvL tb σ H ys) (hz : xs.length + ys.length ≤ 100000) : EvL (tOp rCat ta tb) σ H (xs ++ ys) := fun H1 e Q q =>
  ha H1 e _ fun p H2 np e2 hp => hb H2 (e.trans e2) _ fun r H3 nr e3 hr => ⟨p, r, xs, ys, rfl, rfl, e3 _ _ hp, hr, sz_of hz, fun l nl => q l _ (fresh_back (e2.trans e3) nl) ((e2.trans e3).trans (Ex.new nl)) upd_same⟩
def EvTab (te : TE) (σ : L2.St) (H : Hp) (rows : List (List Int)) : Prop := ∀ H1, Ex H H1 → ∀ Q : VK, (∀ p as H2, H1 p = none → (∀ a ∈ as, H1 a = none) → as.Nodup → p ∉ as → Ex H1 H2 → Tab H2 p as rows → Q (.ref p) H2) → te σ H1 Q
theorem ev_neTab {K : PySem.W.Frag} {ta tb : TE} {σ : L2.St} {H : Hp} {rows : List (List Int)} {q : Addr} {bs : List Addr} (ha : EvTab ta σ H rows) (hb : Ev tb σ H (.ref q)) (hq : Tab H q bs rows) : Ev (tOp (rNeD K) ta tb) σ H (.bl false) := fun H1 e Q k =>
  ha H1 e _ fun p as H2 _ _ _ _ e2 hp => hb H2 (e.trans e2) _ fun H3 e3 => rv_neT (hp.ex e3) (hq.ex ((e.trans e2).trans e3)) H3 (Ex.refl _) Q fun H4 e4 => k H4 ((e2.trans e3).trans e4)
theorem ev_neTab2 {K : PySem.W.Frag} {ta tb : TE} {σ : L2.St} {H : Hp} {rows : List (List Int)} (ha : EvTab ta σ H rows) (hb : EvTab tb σ H rows) : Ev (tOp (rNeD K) ta tb) σ H (.bl false) := fun H1 e Q k =>
  ha H1 e _ fun p as H2 _ _ _ _ e2 hp => hb H2 (e.trans e2) _ fun q bs H3 _ _ _ _ e3 hq => rv_neT (hp.ex e3) hq H3 (Ex.refl _) Q fun H4 e4 => k H4 ((e2.trans e3).trans e4)
theorem paired_drop {α β : Type} {R : α → β → Prop} : ∀ {xs : List α} {ys : List β} (n : Nat), Paired R xs ys → Paired R (xs.drop n) (ys.drop n)
  | _, _, 0, h => h
  | _, _, n + 1, .nil => by rw [List.drop_nil, List.drop_nil]; exact .nil
  | _, _, n + 1, .cons a t => paired_drop n t
theorem cut_drop1 (l : List Addr) (h : 1 ≤ l.length) (h8 : l.length ≤ 8) : cutV (l.map V.ref) (some 1) none = (l.drop 1).map V.ref := by
  have e1 : HT.sIx (l.map V.ref).length (l.map V.ref).length none = (l.map V.ref).length := rfl
  have e3 : HT.sIx (l.map V.ref).length 0 (some (1 : Int)) = 1 := by
    rw [List.length_map]
    exact six_at1 (j := 0) (by omega) h8
  unfold cutV
  rw [e1, e3, List.map_drop]
  exact List.take_of_length_le (by rw [List.length_drop]; exact Nat.le_refl _)
theorem el_listN {K : PySem.W.Frag} {ta : TE} {σ : L2.St} {H : Hp} {xs : List V} (ha : EvL ta σ H xs) : EvL (tCB (rListS K) (tCons ta tNil)) σ H xs := fun H1 e Q q =>
  ha H1 e _ fun p H2 np e2 hp => ⟨p, xs, rfl, Or.inl (sq_of hp), fun l hl => q l _ (fresh_back e2 hl) (e2.trans (Ex.new hl)) upd_same⟩
theorem six_to {m n : Nat} (h : n ≤ m) (h8 : m ≤ 8) : HT.sIx m m (some (n : Int)) = n := by
  have hm : m = 0 ∨ m = 1 ∨ m = 2 ∨ m = 3 ∨ m = 4 ∨ m = 5 ∨ m = 6 ∨ m = 7 ∨ m = 8 := by omega
  have hn : n = 0 ∨ n = 1 ∨ n = 2 ∨ n = 3 ∨ n = 4 ∨ n = 5 ∨ n = 6 ∨ n = 7 ∨ n = 8 := by omega
  rcases hm with rfl | rfl | rfl | rfl | rfl | rfl | rfl | rfl | rfl <;> rcases hn with rfl | rfl | rfl | rfl | rfl | rfl | rfl | rfl | rfl <;> first | rfl | omega
theorem cut_to (xs : List V) {n : Nat} (h : n ≤ xs.length) (h8 : xs.length ≤ 8) : cutV xs none (some (n : Int)) = xs.take n := by
  unfold cutV
  have e0 : HT.sIx xs.length 0 none = 0 := rfl
  rw [e0, six_to h h8, List.drop_zero, Nat.sub_zero]
theorem lc_rowsY {K : PySem.W.Frag} {ta : TA} {te : TE} {vs : List Nat} {j1 j2 : Nat} {σ : L2.St} {H : Hp} {Q : VK} {a b : Addr} {xs : List Int} {as : List Addr} {rows : List (List Int)} (F : List Int → Int → List Int) (h : EvA ta σ H [.ref b, .ref a]) (hx : H a = some (.lst (xs.map V.int))) (ht : Tab H b as rows) (hl : xs.length = rows.length) (hz : xs.length ≤ 1000)
    (hw : ∀ u v, wipe (((wipe σ vs).set j1 (some u)).set j2 (some v)) vs = wipe σ vs)
    (he : ∀ x c r H1, x ∈ xs → r ∈ rows → H c = some (.lst (r.map V.int)) → Ex H H1 → EvL te (((wipe σ vs).set j1 (some (.ref c))).set j2 (some (.int x))) H1 ((F r x).map V.int))
    (k : ∀ p bs H2, H p = none → (∀ a ∈ bs, H a = none) → bs.Nodup → p ∉ bs → Ex H H2 → Tab H2 p bs (List.zipWith F rows xs) → Q (.ref p) H2) : tLc (iZip K ta) (g2 K j1 j2) tYes te vs σ H Q := by
  refine h H (Ex.refl H) _ fun H1 e1 => ⟨b, a, _, _, rfl, SqL.of (e1 _ _ ht.1), SqL.of (e1 _ _ hx), fun D hD => ?_⟩
  have hDH : H D = none := fresh_back e1 hD
  have el0 : as.length = rows.length := Paired.length ht.2
  refine lc_zip (xs := as.map V.ref) (ys := xs.map V.int) (by rw [List.length_map, List.length_map, el0]; exact hl.symm) (fun i H' => ∃ bs, Ex H1 H' ∧ H' D = some (.lst (bs.map V.ref)) ∧ RowsAt H' bs ((List.zipWith F rows xs).take i) ∧ (∀ a ∈ bs, H a = none) ∧ bs.Nodup ∧ D ∉ bs) ⟨[], Ex.new hD, upd_same, .nil, fun a ha => by simp at ha, List.nodup_nil, by simp⟩ (fun i H' ⟨_, p1, _⟩ => ⟨SqL.of ((e1.trans p1) _ _ ht.1), SqL.of ((e1.trans p1) _ _ hx)⟩) (fun i y x T H' gy gx p nT => ?_) (fun H' p => ?_)
  · obtain ⟨bs, p1, p2, p3, p4, p5, p6⟩ := p
    rw [List.getElem?_map] at gx gy
    obtain ⟨x', hx', rfl⟩ := Option.map_eq_some_iff.mp gx
    obtain ⟨c, hc, rfl⟩ := Option.map_eq_some_iff.mp gy
    obtain ⟨r, hr, hh⟩ := paired_get ht.2 hc
    have hi := (List.getElem?_eq_some_iff.mp hx').1
    have el : bs.length = i := by rw [Paired.length p3, List.length_take, List.length_zipWith]; omega
    have xT : Ex H' (upd H' T (.tup [.ref c, .int x'])) := Ex.new nT
    refine ⟨T, _, rfl, SqT.of upd_same, rfl, _, _, rfl, _, _, rfl, rfl, hw _ _, ?_⟩
    show te _ _ _
    refine he x' c r H (List.mem_of_getElem? hx') (List.mem_of_getElem? hr) hh (Ex.refl H) _ ((e1.trans p1).trans xT) _ fun q H4 nq e4 hq => ?_
    have nqD : q ≠ D := fun z => by
      rw [z, xT _ _ p2] at nq
      cases nq
    have nqH' : H' q = none := fresh_back xT nq
    refine ⟨_, e4 _ _ (xT _ _ p2), ?_, bs ++ [q], Ex.mut ((p1.trans xT).trans e4) hD, ?_, ?_, ?_, ?_, ?_⟩
    · rw [List.length_map, el]
      exact small1000 (by omega)
    · rw [upd_same, List.map_append]
      rfl
    · have hzz : (List.zipWith F rows xs)[i]? = some (F r x') := by rw [List.getElem?_zipWith, hr, hx']
      rw [take_snoc hzz]
      refine paired_snoc (rows_but p3 fun b hb o g => ?_) ?_
      · rw [upd_ne (fun z => p6 (by rw [← z]; exact hb))]
        exact e4 _ _ (xT _ _ g)
      · rw [upd_ne nqD]
        exact hq
    · intro b hb
      rcases List.mem_append.mp hb with h | h
      · exact p4 b h
      · rw [show b = q by simpa using h]
        exact fresh_back (e1.trans p1) nqH'
    · refine List.nodup_append.mpr ⟨p5, by simp, fun b hb c' hc' z => ?_⟩
      have : c' = q := by simpa using hc'
      have hb' : q ∈ bs := by rw [← this, ← z]; exact hb
      obtain ⟨y, _, hy⟩ := paired_mem p3 hb'
      rw [nqH'] at hy
      cases hy
    · intro hb
      rcases List.mem_append.mp hb with h | h
      · exact p6 h
      · exact nqD (by simpa using h : D = q).symm
  · obtain ⟨bs, p1, p2, p3, p4, p5, p6⟩ := p
    rw [List.take_of_length_le (by rw [List.length_zipWith, List.length_map, el0]; omega)] at p3
    exact k D bs H' hDH p4 p5 p6 (e1.trans p1) ⟨p2, p3⟩

theorem bd_zero {n : Nat} : Bd n 0 := by
  unfold Bd
  exact Nat.two_pow_pos n
theorem el_zeros {K : PySem.W.Frag} {tl : TE} {vs : List Nat} {j : Nat} {σ : L2.St} {H : Hp} {a : Addr} {xs : List V} {n : Nat} (h : Ev tl σ H (.ref a)) (hx : SqL K H a xs) (hn : xs.length = n) (hz : n ≤ 1000) (hw : ∀ x, wipe ((wipe σ vs).set j (some x)) vs = wipe σ vs) :
    EvL (tLc (iList K tl) (gName j) tYes (tC (.int 0)) vs) σ H ((Sm.zeros n).map V.int) := by
  have g := el_lcL (K := K) (t := tYes) (te := tC (.int 0)) (j := j) (vs := vs) (σ := σ) (H := H) (fun _ => true) (fun _ => .int 0) h hx (by omega) hw (fun o x H1 e ho Hx ex Qx qx => qx Hx (Ex.refl _)) (fun o x H1 e ho hf => ev_c)
  have eg : given xs.length (fun _ => true) (fun _ => V.int 0) = (Sm.zeros n).map V.int := by
    unfold given Sm.zeros
    rw [hn, List.filter_eq_self.mpr (fun _ _ => rfl), List.map_replicate, List.map_const', List.length_range]
  rw [eg] at g
  exact g
theorem six_m1 {n : Nat} (h : 1 ≤ n) (h8 : n ≤ 8) : HT.sIx n n (some (-1 : Int)) = n - 1 := by
  have hn : n = 1 ∨ n = 2 ∨ n = 3 ∨ n = 4 ∨ n = 5 ∨ n = 6 ∨ n = 7 ∨ n = 8 := by omega
  rcases hn with rfl | rfl | rfl | rfl | rfl | rfl | rfl | rfl <;> rfl
theorem cut_m1 (ns : List Int) (h : 1 ≤ ns.length) (h8 : ns.length ≤ 8) : cutV (ns.map V.int) none (some (-1)) = (ns.take (ns.length - 1)).map V.int := by
  unfold cutV
  have e0 : HT.sIx (ns.map V.int).length 0 none = 0 := rfl
  have e1 : HT.sIx (ns.map V.int).length (ns.map V.int).length (some (-1 : Int)) = ns.length - 1 := by
    rw [List.length_map]
    exact six_m1 h h8
  rw [e0, e1, List.drop_zero, Nat.sub_zero, List.map_take]
theorem atI_last (ns : List Int) (h : 1 ≤ ns.length) (h8 : ns.length ≤ 8) : atI (ns.map V.int) (-1) = some (.int (Sm.nth ns (ns.length - 1))) := by
  have hn : ns.length = 1 ∨ ns.length = 2 ∨ ns.length = 3 ∨ ns.length = 4 ∨ ns.length = 5 ∨ ns.length = 6 ∨ ns.length = 7 ∨ ns.length = 8 := by omega
  match ns, h8, hn with
  | [a], _, _ => rfl
  | [a, b], _, _ => rfl
  | [a, b, c], _, _ => rfl
  | [a, b, c, d], _, _ => rfl
  | [a, b, c, d, e], _, _ => rfl
  | [a, b, c, d, e, f], _, _ => rfl
  | [a, b, c, d, e, f, g], _, _ => rfl
  | [a, b, c, d, e, f, g, i], _, _ => rfl
  | [], _, h => simp at h
  | _ :: _ :: _ :: _ :: _ :: _ :: _ :: _ :: _ :: l, h, _ => simp at h
theorem ev_catRR {ta tb : TE} {σ : L2.St} {H : Hp} {a b : Addr} {xs ys : List V} (ha : Ev ta σ H (.ref a)) (hb : Ev tb σ H (.ref b)) (h1 : H a = some (.lst xs)) (h2 : H b = some (.lst ys)) (hz : xs.length + ys.length ≤ 100000) : EvL (tOp rCat ta tb) σ H (xs ++ ys) := fun H1 e Q q =>
  ha H1 e _ fun H2 e2 => hb H2 (e.trans e2) _ fun H3 e3 => ⟨a, b, xs, ys, rfl, rfl, ((e.trans e2).trans e3) _ _ h1, ((e.trans e2).trans e3) _ _ h2, sz_of hz, fun l nl => q l _ (fresh_back (e2.trans e3) nl) ((e2.trans e3).trans (Ex.new nl)) upd_same⟩
theorem el_catVL {ta tb : TE} {σ : L2.St} {H : Hp} {a : Addr} {xs ys : List V} (ha : Ev ta σ H (.ref a)) (h : H a = some (.lst xs)) (hb : EvL tb σ H ys) (hz : xs.length + ys.length ≤ 100000) : EvL (tOp rCat ta tb) σ H (xs ++ ys) := fun H1 e Q q =>
  ha H1 e _ fun H2 e2 => hb H2 (e.trans e2) _ fun r H3 nr e3 hr => ⟨a, r, xs, ys, rfl, rfl, ((e.trans e2).trans e3) _ _ h, hr, sz_of hz, fun l nl => q l _ (fresh_back (e2.trans e3) nl) ((e2.trans e3).trans (Ex.new nl)) upd_same⟩
theorem el_catLV {ta tb : TE} {σ : L2.St} {H : Hp} {a : Addr} {xs ys : List V} (hb : EvL ta σ H ys) (ha : Ev tb σ H (.ref a)) (h : H a = some (.lst xs)) (hz : ys.length + xs.length ≤ 100000) : EvL (tOp rCat ta tb) σ H (ys ++ xs) := fun H1 e Q q =>
  hb H1 e _ fun r H2 nr e2 hr => ha H2 (e.trans e2) _ fun H3 e3 => ⟨r, a, ys, xs, rfl, rfl, e3 _ _ hr, ((e.trans e2).trans e3) _ _ h, sz_of hz, fun l nl => q l _ (fresh_back (e2.trans e3) nl) ((e2.trans e3).trans (Ex.new nl)) upd_same⟩
theorem nodup_app {xs ys : List Addr} (h1 : xs.Nodup) (h2 : ys.Nodup) (h : ∀ a ∈ xs, a ∉ ys) : (xs ++ ys).Nodup := List.nodup_append.mpr ⟨h1, h2, fun a ha b hb z => h a ha (by rw [z]; exact hb)⟩

def sp_summed (K : PySem.W.Frag) : Sp := fun vs H Q _ => ∃ (pl pu px pd pc pr : Addr) (ls rs : List Addr) (L R : List (List Int)) (u x d c : List Int), vs = [.ref pl, .ref pu, .ref px, .ref pd, .ref pc, .ref pr] ∧ Tab H pl ls L ∧ Tab H pr rs R ∧ H pu = some (.lst (u.map V.int)) ∧ H px = some (.lst (x.map V.int)) ∧ H pd = some (.lst (d.map V.int)) ∧ H pc = some (.lst (c.map V.int)) ∧
  u.length = L.length ∧ d.length = R.length ∧ L.length + R.length ≤ 8 ∧ c.length + x.length ≤ 8 ∧ (∀ r ∈ L, r.length ≤ 8) ∧ (∀ r ∈ R, r.length ≤ 8) ∧ (∀ y ∈ u, Bd 140 y) ∧ (∀ y ∈ x, Bd 140 y) ∧ (∀ y ∈ d, Bd 140 y) ∧ (∀ y ∈ c, Bd 140 y) ∧
  ∀ q qs H', H q = none → (∀ a ∈ qs, H a = none) → qs.Nodup → q ∉ qs → Ex H H' → Tab H' q qs (Sm.glue L u x d c R) → Q (.ref q) H'

theorem ok_summed (T : Txt K mg) : FnOk P w K mg base CX0 1 T.f_summed T.fd_summed ["left", "upper", "across", "lower", "along", "right"] (sp_summed K) := by
  refine Fun.ok T.F_summed sc_summed (fun vs H Q E h => ?_) (fun cdv A outer s H vs Q E hr h => ?_)
  · obtain ⟨_, _, _, _, _, _, _, _, _, _, _, _, _, _, rfl, _⟩ := h; rfl
  · refine ⟨_, (pss_cons (ps_if (PW.pt (pw_or (pt_cmpR op_gt (pe_op op_add (pe_callB (id := "len") (r := rLenS K) call_len_seq (by rfl) T.n_len PySem.boot_len (pa_cons (pv 0) pa_nil)) (pe_callB (id := "len") (r := rLenS K) call_len_seq (by rfl) T.n_len PySem.boot_len (pa_cons (pv 5) pa_nil))) (pe_glob (v := .int 8) (by rfl) T.g_MOST ⟨_, rfl⟩) (nomark _)) (pw_or1 (pt_cmpR op_gt (pe_op op_add (pe_callB (id := "len") (r := rLenS K) call_len_seq (by rfl) T.n_len PySem.boot_len (pa_cons (pv 4) pa_nil)) (pe_callB (id := "len") (r := rLenS K) call_len_seq (by rfl) T.n_len PySem.boot_len (pa_cons (pv 2) pa_nil))) (pe_glob (v := .int 8) (by rfl) T.g_MOST ⟨_, rfl⟩) (nomark _)))))
        (pss_one ps_never)
        pss_nil)
      (pss_cut (ps_setLc (i := 6) (own := [("row", 8), ("number", 9)]) (wi := iZip K _) (g := gTup K 2 (gCons (gName 8) (gCons (gName 9) gNil))) (tt := tYes) rfl sc_summed.nd rfl rfl (sw_true rfl rfl rfl (by decide +kernel)) (pi_zip (by rfl) T.n_zip (pa_cons (pv 0) (pa_cons (pv 1) pa_nil))) (blkOk_by (N := ["left", "upper", "across", "lower", "along", "right", "above", "below", "row", "number", "entry"]) (sc := (defScope s_summed)) (by decide +kernel)) (fun _ _ _ _ _ => (pg_tup rfl (pgs_cons (pg_name (i := 8) sc_summed.nd rfl (Or.inl rfl)) (pgs_cons (pg_name (i := 9) sc_summed.nd rfl (Or.inr rfl)) pgs_nil)))) (fun _ _ _ _ _ => pts_nil) (fun _ _ _ _ _ => (pe_op op_cat (pv 8) (pe_lc (own := [("entry", 10)]) (wi := iList K _) (g := gName 10) (tt := tYes) rfl sc_summed.nd (pi_list (pv 2)) (blkOk_by (N := ["left", "upper", "across", "lower", "along", "right", "above", "below", "row", "number", "entry"]) (sc := (relS ({ kind := .function, names := [(".0", .local), ("row", .local), ("number", .cell), ("across", .free)], isGenerator := false, isCoroutine := false } : Scope) (defScope s_summed))) (by decide +kernel)) (fun _ _ _ _ _ => pg_name (i := 10) sc_summed.nd rfl (Or.inl rfl)) (fun _ _ _ _ _ => pts_nil) (fun _ _ _ _ _ => (pe_op op_mulW (pv 9) (pv 10)))))))
      (pss_cut (ps_setLc (i := 7) (own := [("row", 8), ("number", 9)]) (wi := iZip K _) (g := gTup K 2 (gCons (gName 8) (gCons (gName 9) gNil))) (tt := tYes) rfl sc_summed.nd rfl rfl (sw_true rfl rfl rfl (by decide +kernel)) (pi_zip (by rfl) T.n_zip (pa_cons (pv 5) (pa_cons (pv 3) pa_nil))) (blkOk_by (N := ["left", "upper", "across", "lower", "along", "right", "above", "below", "row", "number", "entry"]) (sc := (defScope s_summed)) (by decide +kernel)) (fun _ _ _ _ _ => (pg_tup rfl (pgs_cons (pg_name (i := 8) sc_summed.nd rfl (Or.inl rfl)) (pgs_cons (pg_name (i := 9) sc_summed.nd rfl (Or.inr rfl)) pgs_nil)))) (fun _ _ _ _ _ => pts_nil) (fun _ _ _ _ _ => (pe_op op_cat (pe_lc (own := [("entry", 10)]) (wi := iList K _) (g := gName 10) (tt := tYes) rfl sc_summed.nd (pi_list (pv 4)) (blkOk_by (N := ["left", "upper", "across", "lower", "along", "right", "above", "below", "row", "number", "entry"]) (sc := (relS ({ kind := .function, names := [(".0", .local), ("row", .local), ("number", .cell), ("along", .free)], isGenerator := false, isCoroutine := false } : Scope) (defScope s_summed))) (by decide +kernel)) (fun _ _ _ _ _ => pg_name (i := 10) sc_summed.nd rfl (Or.inl rfl)) (fun _ _ _ _ _ => pts_nil) (fun _ _ _ _ _ => (pe_op op_mulW (pv 9) (pv 10)))) (pv 8))))
      (pss_one (ps_ret (pe_op op_cat (pv 6) (pv 7))))))), ?_⟩
    obtain ⟨pl, pu, px, pd, pc, pr, ls, rs, L, R, u, x, d, c, rfl, hL, hR, hu, hx, hd, hc, lu, ld, l8, c8, wL, wR, bu, bx, bd, bc, k⟩ := h
    have all := Paired.length hL.2
    have arl := Paired.length hR.2
    refine q_when (b := false) (et_is (et_or (a := false) (b := false) (et_is (et_test (ev_op (ev_op (ev_len (ev_var (i := 0) rfl) (SqL.of hL.1)) (ev_len (ev_var (i := 5) rfl) (SqL.of hR.1)) rv_I0) ev_c rv_I0)) (decide_eq_false ?_)) (fun _ => et_is (et_test (ev_op (ev_op (ev_len (ev_var (i := 4) rfl) (SqL.of hc)) (ev_len (ev_var (i := 2) rfl) (SqL.of hx)) rv_I0) ev_c rv_I0)) (decide_eq_false ?_))) rfl) (fun z => nomatch z) (fun _ H1 e1 => ?_)
    · rw [List.length_map, List.length_map, all, arl]
      omega
    · rw [List.length_map, List.length_map]
      omega
    have hL1 := hL.ex e1
    have hR1 := hR.ex e1
    refine ⟨fun σ' H' => ∃ (pa : Addr) (as : List Addr), σ' = [some (.ref pl), some (.ref pu), some (.ref px), some (.ref pd), some (.ref pc), some (.ref pr), some (.ref pa), none, none, none, none] ∧ Ex H1 H' ∧ Tab H' pa as (List.zipWith (fun r n => r ++ x.map fun y => n * y) L u) ∧ (∀ a ∈ as, H1 a = none) ∧ as.Nodup, ?_, ?_⟩
    · refine lc_rowsY (K := K) (a := pu) (b := pl) (F := fun r n => r ++ x.map fun y => n * y) (xs := u) (rows := L) (as := ls) (ea_cons (ev_var rfl) (ea_cons (ev_var rfl) ea_nil)) (e1 _ _ hu) hL1 lu (by omega) (fun u v => rfl) (fun n a r H2 hn hr ha e2 => ?_) (fun p bs H2 np nbs nd npb e2 h => ⟨p, bs, rfl, e2, h, nbs, nd⟩)
      rw [List.map_append]
      exact el_catVL (ev_var rfl) (e2 _ _ ha) (el_mapI (K := K) (n := 2) (fun y => n * y) rfl ((e1.trans e2) _ _ hx) (by omega) (fun u => rfl) (fun y H3 hy e3 => ev_op (ev_var rfl) (ev_var rfl) (rv_I ((bu n hn).mulOk (bx y hy))))) (by rw [List.length_map, List.length_map, List.length_map]; have := wL r hr; omega)
    rintro σ' H2 ⟨pa, as, rfl, e2, hA, nas, nda⟩
    refine ⟨fun σ' H' => ∃ (pb : Addr) (bs : List Addr), σ' = [some (.ref pl), some (.ref pu), some (.ref px), some (.ref pd), some (.ref pc), some (.ref pr), some (.ref pa), some (.ref pb), none, none, none] ∧ Ex H2 H' ∧ Tab H' pb bs (List.zipWith (fun r n => (c.map fun y => n * y) ++ r) R d) ∧ (∀ a ∈ bs, H2 a = none) ∧ bs.Nodup, ?_, ?_⟩
    · refine lc_rowsY (K := K) (a := pd) (b := pr) (F := fun r n => (c.map fun y => n * y) ++ r) (xs := d) (rows := R) (as := rs) (ea_cons (ev_var rfl) (ea_cons (ev_var rfl) ea_nil)) ((e1.trans e2) _ _ hd) (hR1.ex e2) ld (by omega) (fun u v => rfl) (fun n a r H3 hn hr ha e3 => ?_) (fun p bs H3 np nbs nd npb e3 h => ⟨p, bs, rfl, e3, h, nbs, nd⟩)
      rw [List.map_append]
      exact el_catLV (el_mapI (K := K) (n := 4) (fun y => n * y) rfl (((e1.trans e2).trans e3) _ _ hc) (by omega) (fun u => rfl) (fun y H4 hy e4 => ev_op (ev_var rfl) (ev_var rfl) (rv_I ((bd n hn).mulOk (bc y hy))))) (ev_var rfl) (e3 _ _ ha) (by rw [List.length_map, List.length_map, List.length_map]; have := wR r hr; omega)
    rintro σ' H3 ⟨pb, bs, rfl, e3, hB, nbs, ndb⟩
    have hA3 := hA.ex e3
    have la := Paired.length hA.2
    have lb := Paired.length hB.2
    rw [List.length_zipWith] at la lb
    refine s_retL (ev_catRR (ev_var (i := 6) rfl) (ev_var (i := 7) rfl) hA3.1 hB.1 (by rw [List.length_map, List.length_map]; omega)) fun q H4 nq e4 hq => ?_
    have e13 := (e1.trans e2).trans e3
    rw [← List.map_append] at hq
    refine k q (as ++ bs) H4 (fresh_back e13 nq) (fun a ha => ?_) (nodup_app nda ndb fun a ha hb => ?_) (fun ha => ?_) (e13.trans e4) ⟨hq, paired_app (hA3.2.ex e4) (hB.2.ex e4)⟩
    · rcases List.mem_append.mp ha with h | h
      · exact fresh_back e1 (nas a h)
      · exact fresh_back (e1.trans e2) (nbs a h)
    · obtain ⟨y, _, hy⟩ := paired_mem hA.2 ha
      rw [nbs a hb] at hy
      cases hy
    · rcases List.mem_append.mp ha with h | h
      · obtain ⟨y, _, hy⟩ := paired_mem hA3.2 h
        rw [nq] at hy
        cases hy
      · obtain ⟨y, _, hy⟩ := paired_mem hB.2 h
        rw [nq] at hy
        cases hy
-- DEF _law_due

theorem dec_ltN {x y : Nat} : decide ((x : Int) < (y : Int)) = decide (x < y) := decide_eq_decide.mpr (by omega)
theorem ev_cell {K : PySem.W.Frag} {tt ta tb : TE} {σ : L2.St} {H : Hp} {p : Addr} {as : List Addr} {rows : List (List Int)} {m w a b : Nat} {x y : Int} (ht : Ev tt σ H (.ref p)) (ha : Ev ta σ H (.int x)) (hb : Ev tb σ H (.int y)) (hT : TabOk H p as rows m w) (ex : x = (a : Int)) (ey : y = (b : Int)) (h1 : a < m) (h2 : b < w) :
    Ev (tOp (rIxL K) (tOp (rIxL K) tt ta) tb) σ H (.int (Dt.at_ rows a b)) := by
  obtain ⟨ra, rr, hra, hrr, hrh, hrl⟩ := hT.row (i := (a : Int)) (by omega) (by omega)
  rw [Int.toNat_natCast] at hrr
  subst ex ey
  exact ev_op (ev_op ht ha (rv_ixL (SqL.of hT.tab.1) hra)) hb (rv_ixL (SqL.of hrh) (by rw [at_row_ hrr]; exact atI_row (by omega)))
theorem s_callN {sp : Sp} {E : XK} {ta : TA} {vs : List V} {D : Ends} {σ : L2.St} {H : Hp} {i : Nat} (ha : EvA ta σ H vs) (h : ∀ H1, Ex H H1 → sp vs H1 (fun v H2 => D.nx (σ.set i (some v)) H2) E) : tAsg (tCall sp [] E ta) (gName i) D σ H := ha H (Ex.refl H) _ fun H1 e => by
  rw [List.append_nil]
  exact h H1 e
/-- the ends of a table: an entry other than 0 joins its row and its column -/
def eRow (rows : List (List Int)) (m i j : Nat) : Gr.Edges := ((List.range j).filter fun c : Nat => Dt.at_ rows i c != 0).map fun c : Nat => ((i : Int), (m : Int) + (c : Int))
def eRows (rows : List (List Int)) (m w i : Nat) : Gr.Edges := (List.range i).flatMap fun i => eRow rows m i w
theorem eRow_yes {rows : List (List Int)} {m i j : Nat} (h : Dt.at_ rows i j ≠ 0) : eRow rows m i (j + 1) = eRow rows m i j ++ [((i : Int), (m : Int) + (j : Int))] := by
  unfold eRow
  rw [List.range_succ, List.filter_append, List.filter_cons_of_pos (by simpa using h), List.filter_nil, List.map_append]
  rfl
theorem eRow_no {rows : List (List Int)} {m i j : Nat} (h : Dt.at_ rows i j = 0) : eRow rows m i (j + 1) = eRow rows m i j := by
  unfold eRow
  rw [List.range_succ, List.filter_append, List.filter_cons_of_neg (by simpa using h), List.filter_nil, List.append_nil]
theorem eRows_step (rows : List (List Int)) (m w i : Nat) : eRows rows m w (i + 1) = eRows rows m w i ++ eRow rows m i w := by
  unfold eRows
  rw [List.range_succ, List.flatMap_append, List.flatMap_cons, List.flatMap_nil, List.append_nil]
theorem eRows_in {rows : List (List Int)} {m w : Nat} : ∀ e ∈ eRows rows m w m, Bk.In (m + w) e.1 ∧ Bk.In (m + w) e.2 := fun e he => by
  obtain ⟨i, hi, he⟩ := List.mem_flatMap.mp he
  obtain ⟨c, hc, rfl⟩ := List.mem_map.mp he
  have h1 := List.mem_range.mp hi
  have h2 := List.mem_range.mp (List.mem_filter.mp hc).1
  exact ⟨⟨by show 0 ≤ (i : Int); omega, by show (i : Int) < _; omega⟩, ⟨by show 0 ≤ (m : Int) + (c : Int); omega, by show (m : Int) + (c : Int) < _; omega⟩⟩
def blocksOf (rows : List (List Int)) (m w : Nat) : List (List Int × List Int) := Bk.blocksG (Gr.joins (eRows rows m w m) id) m w
/-- the blocks at tuples of two lists -/
def BlocksAt (H : Hp) (ts : List (Addr × Addr × Addr)) (bs : List (List Int × List Int)) : Prop := Paired (fun (a : Addr × Addr × Addr) b => H a.1 = some (.tup [.ref a.2.1, .ref a.2.2]) ∧ H a.2.1 = some (.lst (b.1.map V.int)) ∧ H a.2.2 = some (.lst (b.2.map V.int))) ts bs
theorem BlocksAt.ex {H H' : Hp} {ts : List (Addr × Addr × Addr)} {bs : List (List Int × List Int)} (h : BlocksAt H ts bs) (e : Ex H H') : BlocksAt H' ts bs := paired_imp (fun _ _ ⟨a, b, c⟩ => ⟨e _ _ a, e _ _ b, e _ _ c⟩) h
theorem paired_map2 {α β γ : Type} {R : α → β → Prop} {f : γ → α} {g : γ → β} : ∀ {L : List γ}, (∀ x ∈ L, R (f x) (g x)) → Paired R (L.map f) (L.map g)
  | [], _ => .nil
  | x :: L, h => .cons (h x (.head _)) (paired_map2 fun y hy => h y (.tail _ hy))
/-- the blocks put together of the first t places; L the first places so far -/
structure BI (H0 G : Hp) (d : Addr) (g : Int → Int) (m t : Nat) (L : List Nat) (R C T : Nat → Addr) : Prop where
  ex : Ex H0 G
  d0 : H0 d = none
  dk : G d = some (.dK (L.map fun f : Nat => ((Sum.inl (g (f : Int)) : Key), V.ref (T f))))
  tp : ∀ f ∈ L, G (T f) = some (.tup [.ref (R f), .ref (C f)])
  rw_ : ∀ f ∈ L, G (R f) = some (.lst ((Bk.rowsT g m t f).map V.int))
  cl : ∀ f ∈ L, G (C f) = some (.lst ((Bk.colsT g m t f).map V.int))
  r0 : ∀ f ∈ L, H0 (R f) = none
  c0 : ∀ f ∈ L, H0 (C f) = none
  rc : ∀ f ∈ L, ∀ k ∈ L, R f ≠ C k
  rr : ∀ f ∈ L, ∀ k ∈ L, R f = R k → f = k
  cc : ∀ f ∈ L, ∀ k ∈ L, C f = C k → f = k
theorem BI.on {H0 G G' : Hp} {d : Addr} {g : Int → Int} {m t : Nat} {L : List Nat} {R C T : Nat → Addr} (b : BI H0 G d g m t L R C T) (e : Ex G G') : BI H0 G' d g m t L R C T :=
  ⟨b.ex.trans e, b.d0, e _ _ b.dk, fun f h => e _ _ (b.tp f h), fun f h => e _ _ (b.rw_ f h), fun f h => e _ _ (b.cl f h), b.r0, b.c0, b.rc, b.rr, b.cc⟩
theorem BI.row {H0 G : Hp} {d : Addr} {g : Int → Int} {m t : Nat} {R C T : Nat → Addr} {f : Nat} (b : BI H0 G d g m t (Bk.firsts g (t + 1)) R C T) (hf : f ∈ Bk.firsts g (t + 1)) (eg : g f = g t) (ht : t < m) :
    BI H0 (upd G (R f) (.lst ((Bk.rowsT g m t f).map V.int ++ [.int (t : Int)]))) d g m (t + 1) (Bk.firsts g (t + 1)) R C T := by
  have nd : d ≠ R f := fun z => by
    have := b.dk
    rw [z, b.rw_ f hf] at this
    cases this
  refine ⟨Ex.mut b.ex (b.r0 f hf), b.d0, by rw [upd_ne nd]; exact b.dk, fun k hk => ?_, fun k hk => ?_, fun k hk => ?_, b.r0, b.c0, b.rc, b.rr, b.cc⟩
  · rw [upd_ne fun z => by
      have := b.tp k hk
      rw [z, b.rw_ f hf] at this
      cases this]
    exact b.tp k hk
  · by_cases e : k = f
    · subst e
      rw [upd_same, Bk.rowsT_step, if_pos ⟨ht, eg.symm⟩, List.map_append]
      rfl
    · rw [upd_ne fun z => e (b.rr k hk f hf z), Bk.rowsT_step, if_neg fun z => e (Bk.firsts_uniq hk hf (z.2.symm.trans eg.symm))]
      exact b.rw_ k hk
  · rw [upd_ne fun z => b.rc f hf k hk z.symm, Bk.colsT_step, if_neg fun z => z.1 ht]
    exact b.cl k hk
theorem BI.col {H0 G : Hp} {d : Addr} {g : Int → Int} {m t : Nat} {R C T : Nat → Addr} {f : Nat} (b : BI H0 G d g m t (Bk.firsts g (t + 1)) R C T) (hf : f ∈ Bk.firsts g (t + 1)) (eg : g f = g t) (ht : ¬ t < m) :
    BI H0 (upd G (C f) (.lst ((Bk.colsT g m t f).map V.int ++ [.int ((t : Int) - (m : Int))]))) d g m (t + 1) (Bk.firsts g (t + 1)) R C T := by
  have nd : d ≠ C f := fun z => by
    have := b.dk
    rw [z, b.cl f hf] at this
    cases this
  refine ⟨Ex.mut b.ex (b.c0 f hf), b.d0, by rw [upd_ne nd]; exact b.dk, fun k hk => ?_, fun k hk => ?_, fun k hk => ?_, b.r0, b.c0, b.rc, b.rr, b.cc⟩
  · rw [upd_ne fun z => by
      have := b.tp k hk
      rw [z, b.cl f hf] at this
      cases this]
    exact b.tp k hk
  · rw [upd_ne fun z => b.rc k hk f hf z, Bk.rowsT_step, if_neg fun z => ht z.1]
    exact b.rw_ k hk
  · by_cases e : k = f
    · subst e
      rw [upd_same, Bk.colsT_step, if_pos ⟨ht, eg.symm⟩, List.map_append]
      rfl
    · rw [upd_ne fun z => e (b.cc k hk f hf z), Bk.colsT_step, if_neg fun z => e (Bk.firsts_uniq hk hf (z.2.symm.trans eg.symm))]
      exact b.cl k hk
theorem val_firsts {g : Int → Int} {T : Nat → Addr} {x : Int} {v : V} : ∀ {L : List Nat}, valV (L.map fun f : Nat => ((Sum.inl (g (f : Int)) : Key), V.ref (T f))) (Sum.inl x : Key) = some v → ∃ f ∈ L, g f = x ∧ v = .ref (T f)
  | [], h => by cases h
  | a :: L, h => by
    unfold valV at h
    rw [List.map_cons, List.find?_cons] at h
    by_cases c : (Sum.inl (g (a : Int)) : Key) = Sum.inl x
    · simp only [decide_eq_true c] at h
      cases h
      exact ⟨a, .head _, Sum.inl.inj c, rfl⟩
    · simp only [decide_eq_false c] at h
      obtain ⟨f, hf, r⟩ := val_firsts (L := L) (by unfold valV; exact h)
      exact ⟨f, .tail _ hf, r⟩
theorem val_none {g : Int → Int} {T : Nat → Addr} {x : Int} : ∀ {L : List Nat}, valV (L.map fun f : Nat => ((Sum.inl (g (f : Int)) : Key), V.ref (T f))) (Sum.inl x : Key) = none → ∀ f ∈ L, g f ≠ x
  | a :: L, h, f, hf => by
    unfold valV at h
    rw [List.map_cons, List.find?_cons] at h
    by_cases c : (Sum.inl (g (a : Int)) : Key) = Sum.inl x
    · simp only [decide_eq_true c] at h
      cases h
    · simp only [decide_eq_false c] at h
      rcases List.mem_cons.mp hf with rfl | hf
      · exact fun z => c (by rw [z])
      · exact val_none (L := L) (by unfold valV; exact h) f hf
theorem BI.new {H0 G G' : Hp} {d : Addr} {g : Int → Int} {m t : Nat} {R C T : Nat → Addr} {r c u : Addr} (b : BI H0 G d g m t (Bk.firsts g t) R C T) (nn : ∀ f ∈ Bk.firsts g t, g f ≠ g t) (e : Ex G G') (nr : G r = none) (nc : G c = none) (rc : r ≠ c) (hr : G' r = some (.lst [])) (hc : G' c = some (.lst [])) (hu : G' u = some (.tup [.ref r, .ref c])) :
    BI H0 (upd G' d (.dK (putK ((Bk.firsts g t).map fun f : Nat => ((Sum.inl (g (f : Int)) : Key), V.ref (T f))) (Sum.inl (g t)) (.ref u)))) d g m t (Bk.firsts g (t + 1)) (fun f => if f = t then r else R f) (fun f => if f = t then c else C f) (fun f => if f = t then u else T f) := by
  have old : ∀ f ∈ Bk.firsts g t, f ≠ t := fun f hf z => by
    have := Bk.firsts_lt hf
    omega
  have dk' := e _ _ b.dk
  have hn : valV ((Bk.firsts g t).map fun f : Nat => ((Sum.inl (g (f : Int)) : Key), V.ref (T f))) (Sum.inl (g t) : Key) = none := by
    cases c : valV ((Bk.firsts g t).map fun f : Nat => ((Sum.inl (g (f : Int)) : Key), V.ref (T f))) (Sum.inl (g t) : Key) with
    | none => rfl
    | some v =>
      obtain ⟨f, hf, h1, _⟩ := val_firsts c
      exact absurd h1 (nn f hf)
  have nlst : ∀ {a : Addr} {xs : List V}, G' a = some (.lst xs) → a ≠ d := fun h z => by
    rw [z, dk'] at h
    cases h
  have ntup : ∀ {a : Addr} {xs : List V}, G' a = some (.tup xs) → a ≠ d := fun h z => by
    rw [z, dk'] at h
    cases h
  have mem : ∀ f, f ∈ Bk.firsts g (t + 1) → f ∈ Bk.firsts g t ∨ f = t := fun f hf => by
    rw [Bk.firsts_new nn] at hf
    rcases List.mem_append.mp hf with h | h
    · exact .inl h
    · exact .inr (List.mem_singleton.mp h)
  have ne0 : ∀ {a b : Addr} {o : HO}, G a = some o → G b = none → b ≠ a := fun h n z => by
    rw [z, h] at n
    cases n
  have z0 := Bk.rowsT_new (g := g) (m := m) (n := t) nn
  refine ⟨Ex.mut (b.ex.trans e) b.d0, b.d0, ?_, fun f hf => ?_, fun f hf => ?_, fun f hf => ?_, fun f hf => ?_, fun f hf => ?_, fun f hf k hk => ?_, fun f hf k hk => ?_, fun f hf k hk => ?_⟩
  · rw [upd_same, putK_new _ hn, Bk.firsts_new nn, List.map_append]
    congr 3
    · refine List.map_congr_left fun f hf => ?_
      rw [if_neg (old f hf)]
    · show _ = [((Sum.inl (g (t : Int)) : Key), V.ref (if t = t then u else T t))]
      rw [if_pos rfl]
  · rcases mem f hf with h | rfl
    · rw [if_neg (old f h), if_neg (old f h), if_neg (old f h)]
      have q := e _ _ (b.tp f h)
      rw [upd_ne (ntup q)]
      exact q
    · rw [if_pos rfl, if_pos rfl, if_pos rfl, upd_ne (ntup hu)]
      exact hu
  · rcases mem f hf with h | rfl
    · rw [if_neg (old f h)]
      have q := e _ _ (b.rw_ f h)
      rw [upd_ne (nlst q)]
      exact q
    · rw [if_pos rfl, upd_ne (nlst hr), z0.1]
      exact hr
  · rcases mem f hf with h | rfl
    · rw [if_neg (old f h)]
      have q := e _ _ (b.cl f h)
      rw [upd_ne (nlst q)]
      exact q
    · rw [if_pos rfl, upd_ne (nlst hc), z0.2]
      exact hc
  · rcases mem f hf with h | rfl
    · rw [if_neg (old f h)]
      exact b.r0 f h
    · rw [if_pos rfl]
      exact fresh_back b.ex nr
  · rcases mem f hf with h | rfl
    · rw [if_neg (old f h)]
      exact b.c0 f h
    · rw [if_pos rfl]
      exact fresh_back b.ex nc
  · rcases mem f hf with h | rfl <;> rcases mem k hk with h' | rfl
    · rw [if_neg (old f h), if_neg (old k h')]
      exact b.rc f h k h'
    · rw [if_neg (old f h), if_pos rfl]
      exact (ne0 (b.rw_ f h) nc).symm
    · rw [if_pos rfl, if_neg (old k h')]
      exact ne0 (b.cl k h') nr
    · rw [if_pos rfl, if_pos rfl]
      exact rc
  · rcases mem f hf with h | rfl <;> rcases mem k hk with h' | rfl
    · rw [if_neg (old f h), if_neg (old k h')]
      exact b.rr f h k h'
    · rw [if_neg (old f h), if_pos rfl]
      exact fun z => absurd z.symm (ne0 (b.rw_ f h) nr)
    · rw [if_pos rfl, if_neg (old k h')]
      exact fun z => absurd z (ne0 (b.rw_ k h') nr)
    · exact fun _ => rfl
  · rcases mem f hf with h | rfl <;> rcases mem k hk with h' | rfl
    · rw [if_neg (old f h), if_neg (old k h')]
      exact b.cc f h k h'
    · rw [if_neg (old f h), if_pos rfl]
      exact fun z => absurd z.symm (ne0 (b.cl f h) nc)
    · rw [if_pos rfl, if_neg (old k h')]
      exact fun z => absurd z (ne0 (b.cl k h') nc)
    · exact fun _ => rfl

theorem ev_many {K : PySem.W.Frag} {tt : TE} {σ : L2.St} {H : Hp} {p : Addr} {as : List Addr} {rows : List (List Int)} {m w : Nat} (ht : Ev tt σ H (.ref p)) (hT : TabOk H p as rows m w) : Ev (tCB (rLenS K) (tCons tt tNil)) σ H (.int (m : Int)) := ev_is (ev_len ht (SqL.of hT.tab.1)) (by rw [List.length_map, hT.al])
theorem ev_wide {K : PySem.W.Frag} {tt : TE} {σ : L2.St} {H : Hp} {p : Addr} {as : List Addr} {rows : List (List Int)} {m w : Nat} (ht : Ev tt σ H (.ref p)) (hT : TabOk H p as rows m w) : Ev (tCB (rLenS K) (tCons (tOp (rIxL K) tt (tC (.int 0))) tNil)) σ H (.int (w : Int)) := by
  obtain ⟨a0, r0, _, _, hh0, hl0, at0⟩ := hT.row0
  exact ev_is (ev_len (ev_op ht ev_c (rv_ixL (SqL.of hT.tab.1) at0)) (SqL.of hh0)) (by rw [List.length_map, hl0])
theorem q_pair {te : TE} {g : TG} {tz : TS} {D : Ends} {σ : L2.St} {H : Hp} {xs : List V} (h : EvU te σ H xs) (k : ∀ p H1, H p = none → Ex H H1 → H1 p = some (.tup xs) → g (.ref p) σ H1 (tz D)) : tSeq (tAsg te g) tz D σ H := h H (Ex.refl H) _ fun p H1 np e hp => k p H1 np e hp
theorem ev_min2 {ta tb : TE} {σ : L2.St} {H : Hp} {i j : Int} (ha : Ev ta σ H (.int i)) (hb : Ev tb σ H (.int j)) : Ev (tCB (fun xs H Q => ∃ i j, xs = [.int i, .int j] ∧ Q (.int (if j < i then j else i)) H) (tCons ta (tCons tb tNil))) σ H (.int (if j < i then j else i)) := fun H1 e Q q =>
  ha H1 e _ fun H2 e2 => hb H2 (e.trans e2) _ fun H3 e3 => ⟨i, j, rfl, q H3 (e2.trans e3)⟩
theorem el_sortSet {w : World} {K : PySem.W.Frag} {ta : TE} {σ : L2.St} {H : Hp} {a : Addr} {zs ks : List Int} (h : Ev ta σ H (.ref a)) (ha : SqL K H a (zs.map V.int)) (hz : zs.length < 64) (h1 : ks.Pairwise (· < ·)) (h2 : ∀ k, k ∈ ks ↔ k ∈ zs) : EvL (tCB (rSortedSet w) (tCons (tCB (SetL.rSetL K w) (tCons ta tNil)) tNil)) σ H (ks.map V.int) := fun H1 e Q q =>
  h H1 e _ fun H2 e2 => ⟨a, zs, rfl, ex_l (e.trans e2) ha, by omega, fun p c np hc => ⟨p, _, c, rfl, upd_same, by omega, fun ns p2 s1 s2 sl np2 => by
    have : ns = ks := Bk.sorted_eq s1 h1 fun x => by rw [s2, decide_eq_true_eq, h2]
    subst this
    exact q p2 _ (fresh_back (e2.trans (Ex.new np)) np2) ((e2.trans (Ex.new np)).trans (Ex.new np2)) upd_same⟩⟩
theorem grp_set {k : Nat} {g : Int → Int} {a : Nat} {v : Int} : ((grpL k g).map V.int).set a (.int v) = (grpL k fun x => if x = (a : Int) then v else g x).map V.int := by
  unfold grpL numsTo
  refine List.ext_getElem? fun i => ?_
  rw [List.getElem?_set, List.getElem?_map, List.getElem?_map, List.getElem?_map, List.getElem?_map, List.getElem?_map, List.getElem?_map]
  simp only [List.length_map, List.length_range]
  by_cases hi : i < k
  · rw [List.getElem?_range hi]
    by_cases e : a = i
    · subst e
      rw [if_pos rfl, if_pos hi]
      show some (V.int v) = some (V.int (if (a : Int) = (a : Int) then v else g a))
      rw [if_pos rfl]
    · rw [if_neg e]
      show some (V.int (g i)) = some (V.int (if (i : Int) = (a : Int) then v else g i))
      rw [if_neg (by omega)]
  · rw [List.getElem?_eq_none (by rw [List.length_range]; omega)]
    by_cases e : a = i
    · rw [if_pos e, if_neg (by omega)]
      rfl
    · rw [if_neg e]
      rfl
theorem low_two {M : Int → Int} {a b : Int} : (fun x => if x = b then (if M b < M a then M b else M a) else if x = a then (if M b < M a then M b else M a) else M x) = Bk.low M (a, b) := by
  funext x
  unfold Bk.low
  by_cases h1 : x = b
  · rw [if_pos h1, if_pos (show x = (a, b).1 ∨ x = (a, b).2 from Or.inr h1)]
  · rw [if_neg h1]
    by_cases h2 : x = a
    · rw [if_pos h2, if_pos (show x = (a, b).1 ∨ x = (a, b).2 from Or.inl h2)]
    · rw [if_neg h2, if_neg (show ¬ (x = (a, b).1 ∨ x = (a, b).2) from fun z => z.elim h2 h1)]
theorem given_rows {n : Nat} {p : Nat → Bool} : given n p (fun i => .int (i : Int)) = (Bk.cast ((List.range n).filter p)).map V.int := by
  unfold given Bk.cast
  rw [List.map_map]
  rfl
theorem blocks_but {H : Hp} {x : Addr} {o : HO} : ∀ {ts : List (Addr × Addr × Addr)} {bs : List (List Int × List Int)}, BlocksAt H ts bs → (∀ a ∈ ts, a.1 ≠ x ∧ a.2.1 ≠ x ∧ a.2.2 ≠ x) → BlocksAt (upd H x o) ts bs
  | _, _, .nil, _ => .nil
  | _, _, .cons h t, n => .cons ⟨by rw [upd_ne (n _ (.head _)).1]; exact h.1, by rw [upd_ne (n _ (.head _)).2.1]; exact h.2.1, by rw [upd_ne (n _ (.head _)).2.2]; exact h.2.2⟩ (blocks_but t fun a ha => n a (.tail _ ha))
/-- the marks that stand: the first places -/
def marksOf (rows : List (List Int)) (m w : Nat) : List Int := Bk.cast (Bk.firsts (Gr.joins (eRows rows m w m) id) (m + w))
def sp__law_due (K : PySem.W.Frag) : Sp := fun vs H Q _ => ∃ (p : Addr) (as : List Addr) (rows : List (List Int)) (m w : Nat), vs = [.ref p] ∧ TabOk H p as rows m w ∧
  ∀ q (ts : List (Addr × Addr × Addr)) H', H q = none → Ex H H' → H' q = some (.lst (ts.map fun a => V.ref a.1)) → BlocksAt H' ts (blocksOf rows m w) → Q (.ref q) H'

theorem ok__law_due (T : Txt K mg) : FnOk P w K mg base CX0 1 T.f__law_due T.fd__law_due ["_law_table"] (sp__law_due K) := by
  refine Fun.ok T.F__law_due sc__law_due (fun vs H Q E h => ?_) (fun cdv A outer s H vs Q E hr h => ?_)
  · obtain ⟨_, _, _, _, _, rfl, _⟩ := h; rfl
  · refine ⟨_, (pss_cons (ps_asg (pe_tup (pa_cons (pe_callB (id := "len") (r := rLenS K) call_len_seq (by rfl) T.n_len PySem.boot_len (pa_cons (pv 0) pa_nil)) (pa_cons (pe_callB (id := "len") (r := rLenS K) call_len_seq (by rfl) T.n_len PySem.boot_len (pa_cons (pe_ix (r := rIxL K) ix_list (pv 0) pe_int (fun _ _ => rfl)) pa_nil)) pa_nil))) (pg_tup rfl (pgs_cons (pg_name (i := 1) sc__law_due.nd rfl (by first | exact Or.inl rfl | exact Or.inr rfl)) (pgs_cons (pg_name (i := 2) sc__law_due.nd rfl (by first | exact Or.inl rfl | exact Or.inr rfl)) pgs_nil))))
      (pss_cut (ps_set (i := 3) sc__law_due.nd rfl (by first | exact Or.inl rfl | exact Or.inr rfl) (pe_listRg rfl (by rfl) T.n_list (prg_1 (by rfl) T.n_range (pe_op op_add (pv 1) (pv 2)))))
      (pss_cons (ps_for PassesOwn.never rfl (pi_range1 (by rfl) T.n_range (pa_cons (pe_op op_add (pv 1) (pv 2)) pa_nil)) (pg_name (i := 4) sc__law_due.nd rfl (by first | exact Or.inl rfl | exact Or.inr rfl))
        (pss_one (ps_for PassesOwn.never rfl (pi_range1 (by rfl) T.n_range (pa_cons (pv 1) pa_nil)) (pg_name (i := 5) sc__law_due.nd rfl (by first | exact Or.inl rfl | exact Or.inr rfl))
            (pss_one (ps_for PassesOwn.never rfl (pi_range1 (by rfl) T.n_range (pa_cons (pv 2) pa_nil)) (pg_name (i := 6) sc__law_due.nd rfl (by first | exact Or.inl rfl | exact Or.inr rfl))
                (pss_one (ps_if (pt_cmpR op_ne (pe_ix (r := rIxL K) ix_list (pe_ix (r := rIxL K) ix_list (pv 0) (pv 5) (fun _ _ => rfl)) (pv 6) (fun _ _ => rfl)) pe_int (nomark _))
                    (pss_cons (ps_set (i := 7) sc__law_due.nd rfl (by first | exact Or.inl rfl | exact Or.inr rfl) (pe_callB (call_min2 rfl) (by rfl) T.n_min (by decide +kernel) (pa_cons (pe_ix (r := rIxL K) ix_list (pv 3) (pv 5) (fun _ _ => rfl)) (pa_cons (pe_ix (r := rIxL K) ix_list (pv 3) (pe_op op_add (pv 1) (pv 6)) (fun _ _ => rfl)) pa_nil))))
                      (pss_cons (ps_asg (pv 7) (pg_sub (pv 3) (pv 5) set_list))
                      (pss_one (ps_asg (pv 7) (pg_sub (pv 3) (pe_op op_add (pv 1) (pv 6)) set_list)))))
                    pss_nil)))))))
      (pss_cut (ps_set (i := 8) sc__law_due.nd rfl (by first | exact Or.inl rfl | exact Or.inr rfl) (pe_lst pa_nil))
      (pss_cons (ps_for PassesOwn.never rfl (pi_list (pe_callB (id := "sorted") (r := rSortedSet w) (cr_sortedSet rfl) (by rfl) T.n_sorted (by decide +kernel) (pa_cons (pe_callTy (T := "set") (r := SetL.rSetL K w) (SetL.cr_setL rfl) (by rfl) T.n_set (by decide +kernel) (pa_cons (pv 3) pa_nil)) pa_nil))) (pg_name (i := 9) sc__law_due.nd rfl (by first | exact Or.inl rfl | exact Or.inr rfl))
        (pss_cut (ps_setLc (i := 10) (own := [("_law_row", 5)]) (g := gName 5) (tt := _) rfl sc__law_due.nd rfl rfl (sw_true rfl rfl rfl (by decide +kernel)) (pi_range1 (by rfl) T.n_range (pa_cons (pv 1) pa_nil)) (blkOk_by (N := ["_law_table", "_law_many", "_law_wide", "_law_marks", "_law_turn", "_law_row", "_law_column", "_law_least", "_law_found", "_law_mark", "_law_rows"]) (sc := (defScope s__law_due)) (by decide +kernel)) (fun _ _ _ _ _ => pg_name (i := 5) sc__law_due.nd rfl (Or.inl rfl)) (fun _ _ _ _ _ => pts_one (pt_cmpR op_eq (pe_ix (r := rIxL K) ix_list (pv 3) (pv 5) (fun _ _ => rfl)) (pv 9) (nomark _))) (fun _ _ _ _ _ => (pv 5)))
          (pss_one (ps_expr (pe_bm PySem.F.plainAttrs_list PySem.F.slot_list_append PySem.F.type_list_append mt_append (pv 8) (pa_cons (pe_tup (pa_cons (pv 10) (pa_cons (pe_lc (own := [("_law_column", 6)]) (g := gName 6) (tt := _) rfl sc__law_due.nd (pi_range1 (by rfl) T.n_range (pa_cons (pv 2) pa_nil)) (blkOk_by (N := ["_law_table", "_law_many", "_law_wide", "_law_marks", "_law_turn", "_law_row", "_law_column", "_law_least", "_law_found", "_law_mark", "_law_rows"]) (sc := (defScope s__law_due)) (by decide +kernel)) (fun _ _ _ _ _ => pg_name (i := 6) sc__law_due.nd rfl (Or.inl rfl)) (fun _ _ _ _ _ => pts_one (pt_cmpR op_eq (pe_ix (r := rIxL K) ix_list (pv 3) (pe_op op_add (pv 1) (pv 6)) (fun _ _ => rfl)) (pv 9) (nomark _))) (fun _ _ _ _ _ => (pv 6))) pa_nil))) pa_nil))))))
      (pss_one (ps_ret (pv 8)))))))), ?_⟩
    obtain ⟨p, as, rows, m, w, rfl, hT, k⟩ := h
    have hd := hT.b
    refine q_pair (eu_tup (ea_cons (ev_many (ev_var (i := 0) rfl) hT) (ea_cons (ev_wide (ev_var (i := 0) rfl) hT) ea_nil)) (Nat.le_of_ble_eq_true rfl)) fun t H1 nt e1 ht => ⟨t, _, rfl, SqT.of ht, rfl, _, _, rfl, _, _, rfl, rfl, ?_⟩
    -- marks
    refine ⟨fun σ' H' => ∃ pm, σ' = [some (.ref p), some (.int m), some (.int w), some (.ref pm), none, none, none, none, none, none, none] ∧ Ex H H' ∧ H pm = none ∧ H' pm = some (.lst ((grpL (m + w) id).map V.int)), ?_, ?_⟩
    · refine s_asgL (el_rgL (k := m + w) (ev_is (ev_op (ev_var (i := 1) rfl) (ev_var (i := 2) rfl) rv_I0) (by rw [Int.natCast_add])) (by omega)) fun pm H2 nm e2 h2 => ⟨pm, rfl, e1.trans e2, fresh_back e1 nm, ?_⟩
      rw [h2]
      unfold grpL
      rw [List.map_id]
    rintro σ' H2 ⟨pm, rfl, e2, nm, hm⟩
    refine q_forR1 (n := ((m + w : Nat) : Int)) (ea_cons (ev_is (ev_op (ev_var (i := 1) rfl) (ev_var (i := 2) rfl) rv_I0) (by rw [Int.natCast_add])) ea_nil) (by omega) (fun t σ' H' => ∃ y4 y5 y6 y7 : Option V, σ' = [some (.ref p), some (.int m), some (.int w), some (.ref pm), y4, y5, y6, y7, none, none, none] ∧ Ex H H' ∧ H' pm = some (.lst ((grpL (m + w) (Bk.lowN (eRows rows m w m) t)).map V.int))) (fun H3 e3 => ⟨_, _, _, _, rfl, e2.trans e3, e3 _ _ hm⟩) (fun t σ' H3 ht hP => ?_) (fun σ' H3 hP => ?_)
    · obtain ⟨y4, y5, y6, y7, rfl, e3, hm3⟩ := hP
      refine s_forR1 (n := (m : Int)) (ea_cons (ev_var (i := 1) rfl) ea_nil) (by omega) (fun i σ' H' => ∃ y5 y6 y7 : Option V, σ' = [some (.ref p), some (.int m), some (.int w), some (.ref pm), some (.int (t : Int)), y5, y6, y7, none, none, none] ∧ Ex H H' ∧ H' pm = some (.lst ((grpL (m + w) (Bk.lows (eRows rows m w i) (Bk.lowN (eRows rows m w m) t))).map V.int))) (fun H4 e4 => ⟨_, _, _, rfl, e3.trans e4, e4 _ _ hm3⟩) (fun i σ' H4 hi hP => ?_) (fun σ' H4 hP => ?_)
      · obtain ⟨y5, y6, y7, rfl, e4, hm4⟩ := hP
        have him : i < m := by omega
        refine s_forR1 (n := (w : Int)) (ea_cons (ev_var (i := 2) rfl) ea_nil) (by omega) (fun j σ' H' => ∃ y6 y7 : Option V, σ' = [some (.ref p), some (.int m), some (.int w), some (.ref pm), some (.int (t : Int)), some (.int (i : Int)), y6, y7, none, none, none] ∧ Ex H H' ∧ H' pm = some (.lst ((grpL (m + w) (Bk.lows (eRows rows m w i ++ eRow rows m i j) (Bk.lowN (eRows rows m w m) t))).map V.int))) (fun H5 e5 => ⟨_, _, rfl, e4.trans e5, by rw [show eRow rows m i 0 = [] from rfl, List.append_nil]; exact e5 _ _ hm4⟩) (fun j σ' H5 hj hP => ?_) (fun σ' H5 hP => ?_)
        · obtain ⟨y6, y7, rfl, e5, hm5⟩ := hP
          have hjw : j < w := by omega
          refine s_when (b := !decide (V.int (Dt.at_ rows i j) = .int 0)) (et_test (ev_op (ev_cell (ev_var (i := 0) rfl) (ev_var (i := 5) rfl) (ev_var (i := 6) rfl) (hT.ex e5) rfl rfl him hjw) ev_c (rv_ne rfl))) (fun z H6 e6 => ?_) (fun z H6 e6 => ?_)
          · have nz : Dt.at_ rows i j ≠ 0 := fun q => by
              rw [q, decide_eq_true rfl] at z
              cases z
            rw [eRow_yes nz, ← List.append_assoc, Bk.lows_snoc]
            generalize Bk.lows (eRows rows m w i ++ eRow rows m i j) (Bk.lowN (eRows rows m w m) t) = M at hm5 ⊢
            have hm6 := e6 _ _ hm5
            refine q_asg (ev_min2 (ev_op (ev_var (i := 3) rfl) (ev_var (i := 5) rfl) (rv_ixL (SqL.of hm6) (grp_at (by omega) (by omega)))) (ev_op (ev_var (i := 3) rfl) (ev_op (ev_var (i := 1) rfl) (ev_var (i := 6) rfl) rv_I0) (rv_ixL (SqL.of hm6) (grp_at (by omega) (by omega))))) fun H7 e7 => ?_
            refine q_setL (l := pm) (j := i) (e7 _ _ hm6) (ev_var (i := 7) rfl) (ev_var (i := 3) rfl) (ev_var (i := 5) rfl) (by rw [List.length_map, grp_len]; omega) fun H8 e8 => ?_
            refine s_setL (l := pm) (j := m + j) upd_same (ev_var (i := 7) rfl) (ev_var (i := 3) rfl) (ev_is (ev_op (ev_var (i := 1) rfl) (ev_var (i := 6) rfl) rv_I0) (by rw [Int.natCast_add])) (by rw [List.length_set, List.length_map, grp_len]; omega) fun H9 e9 => ⟨_, _, rfl, Ex.mut ((Ex.mut (((e5.trans e6).trans e7).trans e8) nm).trans e9) nm, ?_⟩
            rw [upd_same, grp_set, grp_set, Int.natCast_add, low_two]
          · have zz : Dt.at_ rows i j = 0 := by
              apply Classical.byContradiction
              intro q
              rw [decide_eq_false (fun h => q (V.int.inj h))] at z
              cases z
            exact ⟨_, _, rfl, e5.trans e6, by rw [eRow_no zz]; exact e6 _ _ hm5⟩
        · obtain ⟨y6, y7, rfl, e5, hm5⟩ := hP
          rw [Int.toNat_natCast] at hm5
          exact ⟨_, _, _, rfl, e5, by rw [eRows_step]; exact hm5⟩
      · obtain ⟨y5, y6, y7, rfl, e4, hm4⟩ := hP
        rw [Int.toNat_natCast] at hm4
        exact ⟨_, _, _, _, rfl, e4, hm4⟩
    obtain ⟨y4, y5, y6, y7, rfl, e3, hm3⟩ := hP
    rw [Int.toNat_natCast] at hm3
    -- found
    refine ⟨fun σ' H' => ∃ pf, σ' = [some (.ref p), some (.int m), some (.int w), some (.ref pm), y4, y5, y6, y7, some (.ref pf), none, none] ∧ Ex H3 H' ∧ H3 pf = none ∧ H' pf = some (.lst []), ?_, ?_⟩
    · exact s_asgL (el_lst (vs := []) ea_nil (Nat.le_of_ble_eq_true rfl)) fun pf H4 nf e4 h4 => ⟨pf, rfl, e4, nf, h4⟩
    rintro σ' H4 ⟨pf, rfl, e4, nf, hf⟩
    have hm4 := e4 _ _ hm3
    have hIn : ∀ e ∈ eRows rows m w m, Bk.In (m + w) e.1 ∧ Bk.In (m + w) e.2 := eRows_in
    have ks := Bk.marks_ok hIn
    have dq := Bk.due_eq hIn ks.1 ks.2
    refine q_forNL (xs := (marksOf rows m w).map V.int) (el_sortSet (zs := grpL (m + w) (Bk.lowN (eRows rows m w m) (m + w))) (ev_var (i := 3) rfl) (SqL.of hm4) (by rw [grp_len]; omega) ks.1 fun x => (ks.2 x).trans ?_) (fun pl n σ' H' => ∃ (y9 y5 y6 y10 : Option V) (ts : List (Addr × Addr × Addr)), σ' = [some (.ref p), some (.int m), some (.int w), some (.ref pm), y4, y5, y6, y7, some (.ref pf), y9, y10] ∧ Ex H3 H' ∧ H' pl = some (.lst ((marksOf rows m w).map V.int)) ∧ pl ≠ pf ∧ H' pf = some (.lst (ts.map fun a => V.ref a.1)) ∧ BlocksAt H' ts (((marksOf rows m w).take n).map fun k => Bk.blk (fun x : Nat => Bk.lowN (eRows rows m w m) (m + w) (x : Int) == k) m w) ∧ (∀ a ∈ ts, a.1 ≠ pf ∧ a.2.1 ≠ pf ∧ a.2.2 ≠ pf)) (fun pl H5 nl e5 h5 => ⟨_, _, _, _, [], rfl, e4.trans e5, h5, (fun z => by rw [z, hf] at nl; cases nl), e5 _ _ hf, .nil, fun a ha => nomatch ha⟩) (fun pl n σ' H' _ ⟨_, _, _, _, _, _, _, h, _⟩ => SqL.of h) (fun pl n x σ' H5 hx hP => ?_) (fun pl σ' H5 hP => ?_)
    · unfold grpL
      rw [List.mem_map]
      refine ⟨fun ⟨y, hy, e⟩ => ⟨(y : Int), mem_numsTo.mpr ⟨by omega, by omega⟩, e⟩, fun ⟨y, hy, e⟩ => ?_⟩
      have hy := mem_numsTo.mp hy
      exact ⟨y.toNat, by omega, by rw [Int.toNat_of_nonneg hy.1]; exact e⟩
    · obtain ⟨y9, y5, y6, y10, ts, rfl, e5, hl, npl, hf5, hB, hn⟩ := hP
      rw [List.getElem?_map] at hx
      obtain ⟨x, hx', rfl⟩ := Option.map_eq_some_iff.mp hx
      have lk : n < (marksOf rows m w).length := (List.getElem?_eq_some_iff.mp hx').1
      have lk2 : (marksOf rows m w).length ≤ m + w := by
        unfold marksOf Bk.cast Bk.firsts
        rw [List.length_map]
        exact Nat.le_trans (List.length_filter_le _ _) (by rw [List.length_range]; exact Nat.le_refl _)
      have hm5 := e5 _ _ hm3
      have lts : ts.length = n := by
        rw [Paired.length hB, List.length_map, List.length_take]
        omega
      have mt : ∀ {G : Hp} {a : Nat} {z : Int}, Ex H5 G → a < m + w → z = (a : Int) → Ev (tOp (rIxL K) (tVar 3) (tC (.int z))) [some (.ref p), some (.int m), some (.int w), some (.ref pm), y4, y5, y6, y7, some (.ref pf), some (.int x), y10] G (.int (Bk.lowN (eRows rows m w m) (m + w) (a : Int))) := fun e h1 hz => by
        subst hz
        exact ev_op (ev_var (i := 3) rfl) ev_c (rv_ixL (SqL.of (e _ _ hm5)) (grp_at (by omega) (by omega)))
      refine ⟨fun σ' H' => ∃ pr, σ' = [some (.ref p), some (.int m), some (.int w), some (.ref pm), y4, y5, y6, y7, some (.ref pf), some (.int x), some (.ref pr)] ∧ Ex H5 H' ∧ H5 pr = none ∧ H' pr = some (.lst ((Bk.blk (fun y : Nat => Bk.lowN (eRows rows m w m) (m + w) (y : Int) == x) m w).1.map V.int)), ?_, ?_⟩
      · refine el_lcR1 (n := (m : Int)) (fun i => Bk.lowN (eRows rows m w m) (m + w) (i : Int) == x) (fun i => .int (i : Int)) (ea_cons (ev_var (i := 1) rfl) ea_nil) (by omega) (fun u => rfl) (fun i G g hi => ?_) (fun i G g hi _ => ev_var rfl) H5 (Ex.refl _) _ fun pr H6 nr e6 h6 => ⟨pr, rfl, e6, nr, by rw [h6, Int.toNat_natCast, given_rows]; rfl⟩
        refine et_is (et_test (ev_op (ev_op (ev_var (i := 3) rfl) (ev_var (i := 5) rfl) (rv_ixL (SqL.of (g _ _ hm5)) (grp_at (by omega) (by omega)))) (ev_var (i := 9) (v := .int x) rfl) (rv_eq rfl))) ?_
        rw [Bool.eq_iff_iff, decide_eq_true_eq, beq_iff_eq]
        exact ⟨fun h => V.int.inj h, fun h => by rw [h]⟩
      rintro σ' H6 ⟨pr, rfl, e6, nr, hr⟩
      have hm6 := e6 _ _ hm5
      refine ⟨_, rfl, .inl ⟨rfl, _, SqL.of (e6 _ _ hf5)⟩, ?_⟩
      refine ⟨_, rfl, ?_⟩
      refine el_lcR1 (σ := [some (.ref p), some (.int m), some (.int w), some (.ref pm), y4, y5, y6, y7, some (.ref pf), some (.int x), some (.ref pr)]) (n := (w : Int)) (fun i => Bk.lowN (eRows rows m w m) (m + w) ((m + i : Nat) : Int) == x) (fun i => .int (i : Int)) (ea_cons (ev_var (i := 2) rfl) ea_nil) (by omega) (fun u => rfl) (fun i G g hi => ?_) (fun i G g hi _ => ev_var rfl) H6 (Ex.refl _) _ fun pc H7 nc e7 h7 => ⟨(by show 2 ≤ sizeLine; decide), fun u nu => ?_⟩
      · refine et_is (et_test (ev_op (ev_op (ev_var (i := 3) rfl) (ev_op (ev_var (i := 1) rfl) (ev_var (i := 6) rfl) rv_I0) (rv_ixL (SqL.of (g _ _ hm6)) (grp_at (by omega) (by omega)))) (ev_var (i := 9) (v := .int x) rfl) (rv_eq rfl))) ?_
        rw [Bool.eq_iff_iff, decide_eq_true_eq, beq_iff_eq, Int.natCast_add]
        exact ⟨fun h => V.int.inj h, fun h => by rw [h]⟩
      have xu := Ex.new (o := .tup [V.ref pr, .ref pc]) nu
      have e57 := (e6.trans e7).trans xu
      have hf7 := e57 _ _ hf5
      have ne0 : ∀ {a : Addr} {G : Hp}, Ex H5 G → G a = none → a ≠ pf := fun e n z => by
        rw [z, e _ _ hf5] at n
        cases n
      have npr : pr ≠ pf := ne0 (Ex.refl _) nr
      have npc : pc ≠ pf := ne0 e6 nc
      have npu : u ≠ pf := ne0 (e6.trans e7) nu
      refine ⟨pf, _, _, rfl, rfl, hf7, sz_lt (by rw [List.length_map]; omega), _, _, _, _, ts ++ [(u, pr, pc)], rfl, Ex.mut (e5.trans e57) nf, by rw [upd_ne npl]; exact e57 _ _ hl, npl, ?_, ?_, ?_⟩
      · rw [upd_same, List.map_append]
        rfl
      · rw [take_snoc hx', List.map_append]
        refine blocks_but (paired_snoc (hB.ex e57) ⟨upd_same, xu _ _ (e7 _ _ hr), ?_⟩) fun a ha => ?_
        · rw [xu _ _ h7, Int.toNat_natCast, given_rows]
          rfl
        · rcases List.mem_append.mp ha with h | h
          · exact hn a h
          · rw [List.mem_singleton.mp h]
            exact ⟨npu, npr, npc⟩
      · intro a ha
        rcases List.mem_append.mp ha with h | h
        · exact hn a h
        · rw [List.mem_singleton.mp h]
          exact ⟨npu, npr, npc⟩
    · obtain ⟨y9, y5, y6, y10, ts, rfl, e5, hl, npl, hf5, hB, hn⟩ := hP
      rw [List.length_map, List.take_length] at hB
      refine ⟨_, rfl, k pf ts H5 (fresh_back e3 nf) (e3.trans e5) hf5 ?_⟩
      unfold blocksOf
      rw [← dq]
      exact hB
-- DEF _law_any

/-- [[numbers drawn] for _ in range(m)]: new rows -/
theorem lc_drawG {ta : TA} {te : TE} {vs : List Nat} {j m : Nat} {σ : L2.St} {H : Hp} {Q : VK} {s : Addr} {n : Int} {w B : Nat} (h : EvA ta σ H [.int (m : Int)]) (hm : m ≤ 8) (hs : SrcAt H s n) (hw : ∀ u, wipe ((wipe σ vs).set j (some u)) vs = wipe σ vs)
    (he : ∀ (i : Nat) (y : Int) H1, ExB s H H1 → i < m → SrcAt H1 s (n + 10 * i) → ∀ Q1 : VK, (∀ (r : Addr) (ns : List Int) (H2 : Hp), H1 r = none → ExB s H1 H2 → SrcAt H2 s (n + 10 * i + 10) → H2 r = some (.lst (ns.map V.int)) → ns.length = w → (∀ x ∈ ns, x.natAbs ≤ B) → Q1 (.ref r) H2) → te ((wipe σ vs).set j (some (.int y))) H1 Q1)
    (k : ∀ (D : Addr) (as : List Addr) (rows : List (List Int)) (H2 : Hp), NewTab H H2 D as rows w B → rows.length = m → ExB s H H2 → SrcAt H2 s (n + 100) → Q (.ref D) H2) : tLc (iRng1 ta) (gName j) tYes te vs σ H Q := by
  refine h H (Ex.refl H) _ fun H1 e1 => ⟨(m : Int), rfl, by omega, by omega, fun D hD => ?_⟩
  have hDH : H D = none := fresh_back e1 hD
  have hDs : D ≠ s := (hs.ex e1).ne hD
  refine lc_range (lo := 0) (n := (m : Int).toNat) (fun i H' => ∃ as rows, NewTab H H' D as rows w B ∧ rows.length = i ∧ ExB s H H' ∧ SrcAt H' s (n + 10 * i)) ⟨[], [], NewTab.new hDH upd_same, rfl, ExB.of (e1.trans (Ex.new hD)), (hs.ex (e1.trans (Ex.new hD))).le (by omega)⟩ (fun i H4 hi0 p => ?_) (fun H4 p => ?_)
  · obtain ⟨as, rows, hN, hl, e4, s4⟩ := p
    have al : as.length = i := by rw [Paired.length hN.tab.2, hl]
    have hi : i < m := by omega
    refine ⟨hw _, ?_⟩
    show te _ H4 _
    refine he i (0 + (i : Int)) H4 e4 hi s4 _ fun r ns H5 nr e5 s5 hr hln hP => ?_
    have N5 := hN.exB e5 hs.obj
    have nr0 : H r = none := fresh_B e4 nr s4.obj
    have nrD : r ≠ D := fun z => by
      rw [z, hN.tab.1] at nr
      cases nr
    have nra : r ∉ as := fun ha => by
      obtain ⟨x, _, hx⟩ := paired_mem hN.tab.2 ha
      rw [nr] at hx
      cases hx
    refine ⟨_, N5.tab.1, small1000 (by rw [List.length_map]; omega), as ++ [r], rows ++ [ns], ?_, ?_, ?_, ?_⟩
    · refine ⟨hDH, fun a ha => ?_, ?_, ?_, ⟨?_, ?_⟩, fun x hx => ?_⟩
      · rcases List.mem_append.mp ha with q | q
        · exact hN.a0 a q
        · rw [show a = r by simpa using q]
          exact nr0
      · refine List.nodup_append.mpr ⟨hN.nd, by simp, fun a ha b hb z => ?_⟩
        have : b = r := by simpa using hb
        exact nra (by rw [← this, ← z]; exact ha)
      · intro ha
        rcases List.mem_append.mp ha with q | q
        · exact hN.np q
        · exact nrD (by simpa using q : D = r).symm
      · rw [upd_same, List.map_append]
        rfl
      · refine paired_snoc (rows_but N5.tab.2 fun a ha o g => ?_) ?_
        · rw [upd_ne (fun z => hN.np (by rw [← z]; exact ha))]
          exact g
        · rw [upd_ne nrD]
          exact hr
      · rcases List.mem_append.mp hx with q | q
        · exact hN.ok x q
        · rw [show x = ns by simpa using q]
          exact ⟨hln, hP⟩
    · rw [List.length_append, hl]
      rfl
    · refine fun b o nb h => ?_
      rw [upd_ne (ne_of_none h hDH)]
      exact e5 _ _ nb (e4 _ _ nb h)
    · obtain ⟨a1, a2, a3, a4, a5, a6, a7, a8⟩ := s5
      exact ⟨a1, a2, a3, by rw [upd_ne hDs.symm]; exact a4, a5, a6, a7, by omega⟩
  · obtain ⟨as, rows, hN, hl, e4, s4⟩ := p
    have em : (m : Int).toNat = m := by omega
    rw [em] at hl s4
    exact k D as rows H4 hN hl e4 (s4.le (by omega))
def LitAt (s : Addr) (H : Hp) (vs : List V) (xss : List (List Int)) : Prop := Paired (fun v xs => ∃ l, v = V.ref l ∧ H l = some (.lst (xs.map V.int)) ∧ l ≠ s) vs xss
def Lits (ta : TA) (σ : L2.St) (s : Addr) (xss : List (List Int)) : Prop := ∀ H, (∃ o, H s = some o) → ∀ Q : List V → Hp → Prop, (∀ vs H2, Ex H H2 → LitAt s H2 vs xss → Q vs H2) → ta σ H Q
theorem lits_nil {σ : L2.St} {s : Addr} : Lits tNil σ s [] := fun H _ Q q => q [] H (Ex.refl H) .nil
theorem lits_cons {te : TE} {tr : TA} {σ : L2.St} {s : Addr} {xs : List Int} {xss : List (List Int)} (h : ∀ H, EvL te σ H (xs.map V.int)) (hr : Lits tr σ s xss) : Lits (tCons te tr) σ s (xs :: xss) := fun H ⟨o, ho⟩ Q q =>
  h H H (Ex.refl H) _ fun l H1 nl e1 hl => hr H1 ⟨o, e1 _ _ ho⟩ _ fun vs H2 e2 hv => q _ H2 (e1.trans e2) (.cons ⟨l, rfl, e2 _ _ hl, fun z => by rw [z, ho] at nl; cases nl⟩ hv)

def sp__law_any (K : PySem.W.Frag) : Sp := fun vs H Q _ => ∃ (s : Addr) (n : Int) (most : Nat), vs = [.ref s, .int most] ∧ SrcAt H s n ∧ n ≤ 100000000 ∧ 1 ≤ most ∧ most ≤ 8 ∧
  ∀ p as rows m w H', NewTab H H' p as rows w (10 ^ 30) → rows.length = m → 1 ≤ m → m ≤ most → 1 ≤ w → w ≤ most → ExB s H H' → SrcAt H' s (n + 200) → Q (.ref p) H'

theorem ok__law_any (T : Txt K mg) : FnOk P w K mg base CX0 3 T.f__law_any T.fd__law_any ["_law_source", "_law_most"] (sp__law_any K) := by
  refine Fun.ok T.F__law_any sc__law_any (fun vs H Q E h => ?_) (fun cdv A outer s H vs Q E hr h => ?_)
  · obtain ⟨_, _, _, rfl, _⟩ := h; rfl
  · refine ⟨_, (pss_cut (ps_asg (pe_lc (own := [("_law_k", 5)]) (g := gName 5) (tt := tYes) rfl sc__law_any.nd (pi_range1 (by rfl) T.n_range (pa_cons pe_int pa_nil)) (blkOk_by (N := ["_law_source", "_law_most", "_law_many", "_law_wide", "_law_some", "_law_k", "_law_row"]) (sc := (defScope s__law_any)) (by decide +kernel)) (fun _ _ _ _ _ => pg_name (i := 5) sc__law_any.nd rfl (Or.inl rfl)) (fun _ _ _ _ _ => pts_nil) (fun _ _ _ _ _ => (pe_op op_add pe_int (pe_call (ok__law_next T) (hr.mono (by decide)) (by rfl) T.g__law_next T.k__law_next T.b__law_next .nil pass0 (pa_cons (pv 0) (pa_cons (pv 1) pa_nil)))))) (pg_lst rfl (pgs_cons (pg_name (i := 2) sc__law_any.nd rfl (by first | exact Or.inl rfl | exact Or.inr rfl)) (pgs_cons (pg_name (i := 3) sc__law_any.nd rfl (by first | exact Or.inl rfl | exact Or.inr rfl)) pgs_nil))))
      (pss_cut (ps_set (i := 4) sc__law_any.nd rfl (by first | exact Or.inl rfl | exact Or.inr rfl) (pe_call (ok__law_one T) hr (by rfl) T.g__law_one T.k__law_one T.b__law_one .nil pass0 (pa_cons (pv 0) (pa_cons (pe_lst (pa_cons (pe_lst (pa_cons pe_int (pa_cons pe_int (pa_cons pe_int (pa_cons pe_int pa_nil))))) (pa_cons (pe_lst (pa_cons pe_int (pa_cons pe_int (pa_cons pe_int (pa_cons pe_int (pa_cons (pe_un un_neg pe_int) (pa_cons (pe_op op_pow pe_int pe_int) pa_nil))))))) (pa_cons (pe_lst (pa_cons pe_int (pa_cons pe_int (pa_cons (pe_un un_neg pe_int) pa_nil)))) (pa_cons (pe_lst (pa_cons pe_int pa_nil)) pa_nil))))) pa_nil))))
      (pss_one (ps_ret (pe_lc (own := [("_law_row", 6)]) (g := gName 6) (tt := tYes) rfl sc__law_any.nd (pi_range1 (by rfl) T.n_range (pa_cons (pv 2) pa_nil)) (blkOk_by (N := ["_law_source", "_law_most", "_law_many", "_law_wide", "_law_some", "_law_k", "_law_row"]) (sc := (defScope s__law_any)) (by decide +kernel)) (fun _ _ _ _ _ => pg_name (i := 6) sc__law_any.nd rfl (Or.inl rfl)) (fun _ _ _ _ _ => pts_nil) (fun _ _ _ _ _ => (pe_lc (own := [("_law_k", 5)]) (g := gName 5) (tt := tYes) rfl sc__law_any.nd (pi_range1 (by rfl) T.n_range (pa_cons (pv 3) pa_nil)) (blkOk_by (N := ["_law_source", "_law_most", "_law_many", "_law_wide", "_law_some", "_law_k", "_law_row"]) (sc := (relS ({ kind := .function, names := [(".0", .local), ("_law_row", .local), ("range", .globalImplicit), ("_law_some", .free), ("_law_source", .free), ("_law_wide", .free)], isGenerator := false, isCoroutine := false } : Scope) (defScope s__law_any))) (by decide +kernel)) (fun _ _ _ _ _ => pg_name (i := 5) sc__law_any.nd rfl (Or.inl rfl)) (fun _ _ _ _ _ => pts_nil) (fun _ _ _ _ _ => (pe_call (ok__law_one T) hr (by rfl) T.g__law_one T.k__law_one T.b__law_one .nil pass0 (pa_cons (pv 0) (pa_cons (pv 4) pa_nil))))))))))), ?_⟩
    obtain ⟨s, n, most, rfl, hs, hn, m1, m8, k⟩ := h
    have bmost : Bd 8000 (most : Int) := by
      unfold Bd
      exact Nat.lt_of_lt_of_le (show ((most : Int)).natAbs < 1024 by omega) (by decide +kernel)
    refine ⟨fun σ' H2 => ∃ m w : Nat, σ' = [some (.ref s), some (.int most), some (.int m), some (.int w), none, none, none] ∧ 1 ≤ m ∧ m ≤ most ∧ 1 ≤ w ∧ w ≤ most ∧ ExB s H H2 ∧ SrcAt H2 s (n + 2), ?_, ?_⟩
    · refine lc_draw (s := s) (n := n) (m := 2) (fun x => 1 ≤ x ∧ x ≤ most) (ea_cons ev_c ea_nil) (by decide) hs (fun u => rfl) (fun j H2 e2 hj s2 Q2 k2 => ?_) (fun D ns H2 nD e2 s2 hD hl hP => ?_)
      · exact ⟨_, rfl, _, rfl, s, _, _, rfl, s2, by omega, by omega, bmost, fun f H3 f0 f1 e3 s3 => ⟨_, _, rfl, rfl, k2 (1 + f) H3 (by omega) e3 s3⟩⟩
      · match ns, hl, hP with
        | [z1, z2], _, hP =>
          have h1 := hP z1 (by simp)
          have h2 := hP z2 (by simp)
          refine ⟨D, _, rfl, SqL.of hD, rfl, _, _, rfl, _, _, rfl, rfl, z1.toNat, z2.toNat, ?_, by omega, by omega, by omega, by omega, e2, s2.le (by omega)⟩
          rw [Int.toNat_of_nonneg (by omega), Int.toNat_of_nonneg (by omega)]
          rfl
    rintro σ' H2 ⟨m, w, rfl, m11, m12, w11, w12, e2, s2⟩
    -- some
    refine ⟨fun σ' H3 => ∃ (l : Addr) (xs : List Int), σ' = [some (.ref s), some (.int most), some (.int m), some (.int w), some (.ref l), none, none] ∧ H3 l = some (.lst (xs.map V.int)) ∧ 0 < xs.length ∧ xs.length ≤ 100 ∧ (∀ x ∈ xs, x.natAbs ≤ 10 ^ 30) ∧ l ≠ s ∧ ExB s H H3 ∧ SrcAt H3 s (n + 3), ?_, ?_⟩
    · refine ⟨_, rfl, ?_⟩
      refine (show (tLst _ : TE) _ H2 _ from ?_)
      refine (show (tCons (tLst _) _ : TA) _ H2 _ from ?_)
      refine lits_cons (xs := [0, 0, 0, 1]) (fun G => el_lst (ea_cons ev_c (ea_cons ev_c (ea_cons ev_c (ea_cons ev_c ea_nil)))) (by decide)) (lits_cons (xs := [0, 0, 0, 0, -2, 10 ^ (30 : Int).toNat]) (fun G => el_lst (ea_cons ev_c (ea_cons ev_c (ea_cons ev_c (ea_cons ev_c (ea_cons (ev_un (x := .int 2) ev_c ru_neg) (ea_cons (ev_op ev_c ev_c (rv_I ⟨by decide, by decide, by decide⟩)) ea_nil)))))) (by decide)) (lits_cons (xs := [0, 1, -1]) (fun G => el_lst (ea_cons ev_c (ea_cons ev_c (ea_cons (ev_un (x := .int 1) ev_c ru_neg) ea_nil))) (by decide)) (lits_cons (xs := [0]) (fun G => el_lst (ea_cons ev_c ea_nil) (by decide)) lits_nil))) H2 s2.obj _ fun vs G4 x14 hv => ⟨sz_of (by have := Paired.length hv; rw [this]; decide), fun L4 nL => ?_⟩
      have xL := Ex.new (o := .lst vs) nL
      have sL := (s2.ex x14).ex xL
      have vl : vs.length = 4 := Paired.length hv
      refine ⟨s, L4, _, _, rfl, sL, by omega, (s2.ex x14).ne nL, SqL.of upd_same, by omega, by omega, fun v hv' H' e' s' => ?_⟩
      have eH : ExB s H H' := e2.trans ((ExB.of (x14.trans xL)).trans e')
      obtain ⟨xs, hxs, l, rfl, hl, ls⟩ := paired_mem hv hv'
      refine ⟨l, xs, rfl, e' _ _ ls (xL _ _ hl), ?_, ?_, ?_, ls, eH, s'.le (by omega)⟩ <;> (simp only [List.mem_cons, List.not_mem_nil, or_false] at hxs; rcases hxs with rfl | rfl | rfl | rfl <;> decide +kernel)
    rintro σ' H3 ⟨l, xs, rfl, hl, l0, l1, bx, ls, e3, s3⟩
    refine lc_drawG (s := s) (n := n + 3) (m := m) (w := w) (B := 10 ^ 30) (ea_cons (ev_var rfl) ea_nil) (by omega) s3 (fun u => rfl) (fun i y H4 e4 hi s4 Q1 k4 => ?_) (fun D as rows H4 hN hlr e4 s4 => ?_)
    · refine lc_draw (s := s) (n := n + 3 + 10 * i) (m := w) (fun x => x.natAbs ≤ 10 ^ 30) (ea_cons (ev_var rfl) ea_nil) (by omega) s4 (fun u => rfl) (fun j H5 e5 hj s5 Q2 k5 => ?_) (fun r ns H5 nr e5 s5 hr hln hP => k4 r ns H5 nr e5 (s5.le (by omega)) hr hln hP)
      refine ⟨_, rfl, _, rfl, s, l, _, xs.map V.int, rfl, s5, by omega, ls, SqL.of (e5 _ _ ls (e4 _ _ ls hl)), by rw [List.length_map]; exact l0, by rw [List.length_map]; omega, fun v hv H6 e6 s6 => ?_⟩
      obtain ⟨x, hx, rfl⟩ := List.mem_map.mp hv
      exact k5 x H6 (bx x hx) e6 s6
    · exact k D as rows m w H4 ⟨fresh_B e3 hN.p0 s3.obj, fun a ha => fresh_B e3 (hN.a0 a ha) s3.obj, hN.nd, hN.np, hN.tab, hN.ok⟩ hlr m11 m12 w11 w12 (e3.trans e4) (s4.le (by omega))
-- DEF beside

def sp_beside (K : PySem.W.Frag) : Sp := fun vs H Q _ => ∃ (p q : Addr) (as bs : List Addr) (A B : List (List Int)) (m w m2 w2 : Nat), vs = [.ref p, .ref q] ∧ TabOk H p as A m w ∧ TabOk H q bs B m2 w2 ∧ m + m2 ≤ 8 ∧ w + w2 ≤ 8 ∧
  ∀ c cs H', H c = none → (∀ a ∈ cs, H a = none) → cs.Nodup → c ∉ cs → Ex H H' → Tab H' c cs (Sm.besF A B m w m2 w2) → Q (.ref c) H'
theorem bd_zeros {n k : Nat} : ∀ y ∈ Sm.zeros k, Bd n y := fun y hy => by
  rw [List.eq_of_mem_replicate hy]
  exact bd_zero

theorem ok_beside (T : Txt K mg) : FnOk P w K mg base CX0 5 T.f_beside T.fd_beside ["one", "other"] (sp_beside K) := by
  refine Fun.ok T.F_beside sc_beside (fun vs H Q E h => ?_) (fun cdv A outer s H vs Q E hr h => ?_)
  · obtain ⟨_, _, _, _, _, _, _, _, _, _, rfl, _⟩ := h; rfl
  · refine ⟨_, (pss_cons (ps_expr (pe_call (ok_check_table T) hr (by rfl) T.g_check_table T.k_check_table T.b_check_table .nil pass0 (pa_cons (pv 0) pa_nil)))
      (pss_cons (ps_expr (pe_call (ok_check_table T) hr (by rfl) T.g_check_table T.k_check_table T.b_check_table .nil pass0 (pa_cons (pv 1) pa_nil)))
      (pss_one (ps_ret (pe_call (ok_summed T) (hr.mono (by decide)) (by rfl) T.g_summed T.k_summed T.b_summed .nil pass0 (pa_cons (pv 0) (pa_cons (pe_lc (own := [("_", 2)]) (wi := iList K _) (g := gName 2) (tt := tYes) rfl sc_beside.nd (pi_list (pv 0)) (blkOk_by (N := ["one", "other", "_"]) (sc := (defScope s_beside)) (by decide +kernel)) (fun _ _ _ _ _ => pg_name (i := 2) sc_beside.nd rfl (Or.inl rfl)) (fun _ _ _ _ _ => pts_nil) (fun _ _ _ _ _ => pe_int)) (pa_cons (pe_lc (own := [("_", 2)]) (wi := iList K _) (g := gName 2) (tt := tYes) rfl sc_beside.nd (pi_list (pe_ix (r := rIxL K) ix_list (pv 1) pe_int (fun _ _ => rfl))) (blkOk_by (N := ["one", "other", "_"]) (sc := (defScope s_beside)) (by decide +kernel)) (fun _ _ _ _ _ => pg_name (i := 2) sc_beside.nd rfl (Or.inl rfl)) (fun _ _ _ _ _ => pts_nil) (fun _ _ _ _ _ => pe_int)) (pa_cons (pe_lc (own := [("_", 2)]) (wi := iList K _) (g := gName 2) (tt := tYes) rfl sc_beside.nd (pi_list (pv 1)) (blkOk_by (N := ["one", "other", "_"]) (sc := (defScope s_beside)) (by decide +kernel)) (fun _ _ _ _ _ => pg_name (i := 2) sc_beside.nd rfl (Or.inl rfl)) (fun _ _ _ _ _ => pts_nil) (fun _ _ _ _ _ => pe_int)) (pa_cons (pe_lc (own := [("_", 2)]) (wi := iList K _) (g := gName 2) (tt := tYes) rfl sc_beside.nd (pi_list (pe_ix (r := rIxL K) ix_list (pv 0) pe_int (fun _ _ => rfl))) (blkOk_by (N := ["one", "other", "_"]) (sc := (defScope s_beside)) (by decide +kernel)) (fun _ _ _ _ _ => pg_name (i := 2) sc_beside.nd rfl (Or.inl rfl)) (fun _ _ _ _ _ => pts_nil) (fun _ _ _ _ _ => pe_int)) (pa_cons (pv 1) pa_nil))))))))))), ?_⟩
    obtain ⟨p, q, as, bs, A, B, m, w, m2, w2, rfl, hT, hU, hm, hw, k⟩ := h
    refine ⟨_, rfl, p, as, A, m, w, rfl, hT, fun H1 e1 => ?_⟩
    refine ⟨_, rfl, q, bs, B, m2, w2, rfl, hU.ex e1, fun H2 e2 => ?_⟩
    have e12 := e1.trans e2
    have hT2 := hT.ex e12
    have hU2 := hU.ex e12
    obtain ⟨a0, r0, _, _, hh0, hl0, at0⟩ := hT2.row0
    obtain ⟨b0, s0, _, _, gh0, gl0, bt0⟩ := hU2.row0
    refine ⟨_, rfl, ?_⟩
    refine el_zeros (K := K) (a := p) (n := m) (vs := [2]) (j := 2) (σ := [some (.ref p), some (.ref q), none]) (ev_var rfl) (SqL.of hT2.tab.1) (by rw [List.length_map, hT.al]) (by omega) (fun _ => rfl) H2 (Ex.refl _) _ fun p1 H3 n1 e3 h1 => ?_
    refine el_zeros (K := K) (a := b0) (n := w2) (vs := [2]) (j := 2) (σ := [some (.ref p), some (.ref q), none]) (ev_op (ev_var rfl) ev_c (rv_ixL (SqL.of (hU2.ex e3).tab.1) bt0)) (SqL.of (e3 _ _ gh0)) (by rw [List.length_map, gl0]) (by omega) (fun _ => rfl) H3 (Ex.refl _) _ fun p2 H4 n2 e4 h2 => ?_
    refine el_zeros (K := K) (a := q) (n := m2) (vs := [2]) (j := 2) (σ := [some (.ref p), some (.ref q), none]) (ev_var rfl) (SqL.of ((hU2.ex e3).ex e4).tab.1) (by rw [List.length_map, hU.al]) (by omega) (fun _ => rfl) H4 (Ex.refl _) _ fun p3 H5 n3 e5 h3 => ?_
    refine el_zeros (K := K) (a := a0) (n := w) (vs := [2]) (j := 2) (σ := [some (.ref p), some (.ref q), none]) (ev_op (ev_var rfl) ev_c (rv_ixL (SqL.of (((hT2.ex e3).ex e4).ex e5).tab.1) at0)) (SqL.of ((e3.trans (e4.trans e5)) _ _ hh0)) (by rw [List.length_map, hl0]) (by omega) (fun _ => rfl) H5 (Ex.refl _) _ fun p4 H6 n4 e6 h4 => ?_
    have e36 := e3.trans (e4.trans (e5.trans e6))
    refine ⟨_, rfl, p, p1, p2, p3, p4, q, as, bs, A, B, Sm.zeros m, Sm.zeros w2, Sm.zeros m2, Sm.zeros w, rfl, (hT2.ex e36).tab, (hU2.ex e36).tab, (e4.trans (e5.trans e6)) _ _ h1, (e5.trans e6) _ _ h2, e6 _ _ h3, h4, by rw [Sm.zl, hT.m_], by rw [Sm.zl, hU.m_], by rw [hT.m_, hU.m_]; exact hm, by rw [Sm.zl, Sm.zl]; exact hw, fun r hr => by rw [hT.w_ r hr]; omega, fun r hr => by rw [hU.w_ r hr]; omega, bd_zeros, bd_zeros, bd_zeros, bd_zeros, fun c cs H7 nc ncs nd ncc e7 h => ?_⟩
    rw [Sm.bes_glue hT.m_ hT.w_ hU.m_ hU.w_] at h
    exact k c cs H7 (fresh_back (e12.trans e36) nc) (fun a ha => fresh_back (e12.trans e36) (ncs a ha)) nd ncc ((e12.trans e36).trans e7) h
-- DEF parts

def sp_parts (K : PySem.W.Frag) : Sp := fun vs H Q _ => ∃ (p : Addr) (as : List Addr) (rows : List (List Int)) (m w : Nat), vs = [.ref p] ∧ TabOk H p as rows m w ∧
  ∀ q (ts : List (Addr × Addr × Addr)) H', H q = none → (∀ a ∈ ts, H a.2.1 = none ∧ H a.2.2 = none) → Ex H H' → H' q = some (.lst (ts.map fun a => V.ref a.1)) → BlocksAt H' ts (blocksOf rows m w) → Q (.ref q) H'

theorem ok_parts (T : Txt K mg) : FnOk P w K mg base CX0 6 T.f_parts T.fd_parts ["table"] (sp_parts K) := by
  refine Fun.ok T.F_parts sc_parts (fun vs H Q E h => ?_) (fun cdv A outer s H vs Q E hr h => ?_)
  · obtain ⟨_, _, _, _, _, rfl, _⟩ := h; rfl
  · refine ⟨_, (pss_cons (ps_asg (pe_call (ok_shape T) hr (by rfl) T.g_shape T.k_shape T.b_shape .nil pass0 (pa_cons (pv 0) pa_nil)) (pg_tup rfl (pgs_cons (pg_name (i := 1) sc_parts.nd rfl (by first | exact Or.inl rfl | exact Or.inr rfl)) (pgs_cons (pg_name (i := 2) sc_parts.nd rfl (by first | exact Or.inl rfl | exact Or.inr rfl)) pgs_nil))))
      (pss_cut (ps_set (i := 3) sc_parts.nd rfl (by first | exact Or.inl rfl | exact Or.inr rfl) (pe_listRg rfl (by rfl) T.n_list (prg_1 (by rfl) T.n_range (pe_op op_add (pv 1) (pv 2)))))
      (pss_cons (ps_for PassesOwn.never rfl (pi_range1 (by rfl) T.n_range (pa_cons (pv 1) pa_nil)) (pg_name (i := 4) sc_parts.nd rfl (by first | exact Or.inl rfl | exact Or.inr rfl))
        (pss_one (ps_for PassesOwn.never rfl (pi_range1 (by rfl) T.n_range (pa_cons (pv 2) pa_nil)) (pg_name (i := 5) sc_parts.nd rfl (by first | exact Or.inl rfl | exact Or.inr rfl))
            (pss_one (ps_if (pt_cmpR op_ne (pe_ix (r := rIxL K) ix_list (pe_ix (r := rIxL K) ix_list (pv 0) (pv 4) (fun _ _ => rfl)) (pv 5) (fun _ _ => rfl)) pe_int (nomark _))
                (pss_one (ps_set (i := 3) sc_parts.nd rfl (by first | exact Or.inl rfl | exact Or.inr rfl) (pe_call (ok_joined T) (hr.mono (by decide)) (by rfl) T.g_joined T.k_joined T.b_joined .nil pass0 (pa_cons (pv 3) (pa_cons (pv 4) (pa_cons (pe_op op_add (pv 1) (pv 5)) pa_nil))))))
                pss_nil)))))
      (pss_cons (ps_set (i := 6) sc_parts.nd rfl (by first | exact Or.inl rfl | exact Or.inr rfl) pe_dnewK)
      (pss_cons (ps_for PassesOwn.never rfl (pi_enum (by rfl) T.n_enumerate (pa_cons (pv 3) pa_nil)) (pg_tup rfl (pgs_cons (pg_name (i := 7) sc_parts.nd rfl (by first | exact Or.inl rfl | exact Or.inr rfl)) (pgs_cons (pg_name (i := 8) sc_parts.nd rfl (by first | exact Or.inl rfl | exact Or.inr rfl)) pgs_nil)))
        (pss_cut (ps_asg (pe_dsetd (pv 6) (pv 8) (pe_tup (pa_cons (pe_lst pa_nil) (pa_cons (pe_lst pa_nil) pa_nil))) ⟨by rfl, by rfl, by rfl, by rfl⟩) (pg_tup rfl (pgs_cons (pg_name (i := 9) sc_parts.nd rfl (by first | exact Or.inl rfl | exact Or.inr rfl)) (pgs_cons (pg_name (i := 10) sc_parts.nd rfl (by first | exact Or.inl rfl | exact Or.inr rfl)) pgs_nil))))
          (pss_one (ps_if (pt_cmpR op_lt (pv 7) (pv 1) (nomark _))
            (pss_one (ps_expr (pe_bm PySem.F.plainAttrs_list PySem.F.slot_list_append PySem.F.type_list_append mt_append (pv 9) (pa_cons (pv 7) pa_nil))))
            (pss_one (ps_expr (pe_bm PySem.F.plainAttrs_list PySem.F.slot_list_append PySem.F.type_list_append mt_append (pv 10) (pa_cons (pe_op op_sub (pv 7) (pv 1)) pa_nil))))))))
      (pss_one (ps_ret (SetL.pe_listVals rfl (pv 6) (by rfl) T.n_list (by decide +kernel))))))))), ?_⟩
    obtain ⟨p, as, rows, m, w, rfl, hT, k⟩ := h
    have hd := hT.b
    refine ⟨_, rfl, p, as, rows, m, w, rfl, hT, fun t H1 nt e1 ht => ⟨t, _, rfl, SqT.of ht, rfl, _, _, rfl, _, _, rfl, rfl, ?_⟩⟩
    -- groups
    refine ⟨fun σ' H' => ∃ pg, σ' = [some (.ref p), some (.int m), some (.int w), some (.ref pg), none, none, none, none, none, none, none] ∧ Ex H H' ∧ H' pg = some (.lst ((grpL (m + w) id).map V.int)), ?_, ?_⟩
    · refine s_asgL (el_rgL (k := m + w) (ev_is (ev_op (ev_var (i := 1) rfl) (ev_var (i := 2) rfl) rv_I0) (by rw [Int.natCast_add])) (by omega)) fun pg H2 _ e2 h2 => ⟨pg, rfl, e1.trans e2, ?_⟩
      rw [h2]
      unfold grpL
      rw [List.map_id]
    rintro σ' H2 ⟨pg, rfl, e2, hg⟩
    -- ends
    refine q_forR1 (n := (m : Int)) (ea_cons (ev_var (i := 1) rfl) ea_nil) (by omega) (fun i σ' H' => ∃ (pg : Addr) (y4 y5 : Option V), σ' = [some (.ref p), some (.int m), some (.int w), some (.ref pg), y4, y5, none, none, none, none, none] ∧ Ex H H' ∧ H' pg = some (.lst ((grpL (m + w) (Gr.joins (eRows rows m w i) id)).map V.int))) (fun H3 e3 => ⟨pg, _, _, rfl, e2.trans e3, e3 _ _ hg⟩) (fun i σ' H3 hi hP => ?_) (fun σ' H3 hP => ?_)
    · obtain ⟨pg, y4, y5, rfl, e3, hg3⟩ := hP
      have him : i < m := by omega
      refine s_forR1 (n := (w : Int)) (ea_cons (ev_var (i := 2) rfl) ea_nil) (by omega) (fun j σ' H' => ∃ (pg : Addr) (y5 : Option V), σ' = [some (.ref p), some (.int m), some (.int w), some (.ref pg), some (.int (i : Int)), y5, none, none, none, none, none] ∧ Ex H H' ∧ H' pg = some (.lst ((grpL (m + w) (Gr.joins (eRows rows m w i ++ eRow rows m i j) id)).map V.int))) (fun H4 e4 => ⟨pg, _, rfl, e3.trans e4, by rw [show eRow rows m i 0 = [] from rfl, List.append_nil]; exact e4 _ _ hg3⟩) (fun j σ' H4 hj hP => ?_) (fun σ' H4 hP => ?_)
      · obtain ⟨pg, y5, rfl, e4, hg4⟩ := hP
        have hjw : j < w := by omega
        refine s_when (b := !decide (V.int (Dt.at_ rows i j) = .int 0)) (et_test (ev_op (ev_cell (ev_var (i := 0) rfl) (ev_var (i := 4) rfl) (ev_var (i := 5) rfl) (hT.ex e4) rfl rfl him hjw) ev_c (rv_ne rfl))) (fun z H5 e5 => ?_) (fun z H5 e5 => ?_)
        · have nz : Dt.at_ rows i j ≠ 0 := fun q => by
            rw [q, decide_eq_true rfl] at z
            cases z
          refine s_callN (ea_cons (ev_var (i := 3) rfl) (ea_cons (ev_var (i := 4) rfl) (ea_cons (ev_op (ev_var (i := 1) rfl) (ev_var (i := 5) rfl) rv_I0) ea_nil))) fun H6 e6 => ⟨pg, m + w, _, (i : Int), (m : Int) + (j : Int), rfl, (e5.trans e6) _ _ hg4, by omega, by omega, by omega, by omega, by omega, fun q H7 nq e7 hq => ⟨q, _, rfl, (e4.trans e5).trans (e6.trans e7), ?_⟩⟩
          rw [hq, eRow_yes nz, ← List.append_assoc, Gr.joins_snoc]
        · have zz : Dt.at_ rows i j = 0 := by
            apply Classical.byContradiction
            intro q
            rw [decide_eq_false (fun h => q (V.int.inj h))] at z
            cases z
          exact ⟨pg, _, rfl, e4.trans e5, by rw [eRow_no zz]; exact e5 _ _ hg4⟩
      · obtain ⟨pg, y5, rfl, e4, hg4⟩ := hP
        rw [Int.toNat_natCast] at hg4
        exact ⟨pg, _, _, rfl, e4, by rw [eRows_step]; exact hg4⟩
    obtain ⟨pg, y4, y5, rfl, e3, hg3⟩ := hP
    rw [Int.toNat_natCast] at hg3
    have ebk : blocksOf rows m w = Bk.blocksG (Gr.joins (eRows rows m w m) id) m w := rfl
    generalize Gr.joins (eRows rows m w m) id = g at hg3 ebk
    -- blocks
    refine fun d nd => ?_
    have xd := Ex.new (o := .dK []) nd
    refine ⟨_, rfl, pg, _, rfl, SqL.of (xd _ _ hg3), ?_⟩
    refine for_enum (K := K) (a := pg) (xs := (grpL (m + w) g).map V.int) (fun t σ' H' => ∃ (R C T : Nat → Addr) (y7 y8 y9 y10 : Option V), σ' = [some (.ref p), some (.int m), some (.int w), some (.ref pg), y4, y5, some (.ref d), y7, y8, y9, y10] ∧ BI H3 H' d g m t (Bk.firsts g t) R C T) ⟨fun _ => 0, fun _ => 0, fun _ => 0, _, _, _, _, rfl, xd, nd, upd_same, fun f hf => (nomatch hf), fun f hf => (nomatch hf), fun f hf => (nomatch hf), fun f hf => (nomatch hf), fun f hf => (nomatch hf), fun f hf => (nomatch hf), fun f hf => (nomatch hf), fun f hf => (nomatch hf)⟩ (fun t σ' H' ⟨_, _, _, _, _, _, _, _, b⟩ => SqL.of (b.ex _ _ hg3)) (fun i x tt σ' H4 hx hP ntt => ?_) (fun σ' H4 hP => ?_)
    · obtain ⟨R, C, T, y7, y8, y9, y10, rfl, b⟩ := hP
      have hi : i < m + w := by
        have := (List.getElem?_eq_some_iff.mp hx).1
        rwa [List.length_map, grp_len] at this
      have ex_ : x = .int (g (i : Int)) := by
        unfold grpL numsTo at hx
        rw [List.getElem?_map, List.getElem?_map, List.getElem?_map, List.getElem?_range hi] at hx
        exact (Option.some.inj hx).symm
      subst ex_
      have xt : Ex H4 (upd H4 tt (.tup [.int (i : Nat), .int (g (i : Int))])) := Ex.new ntt
      refine ⟨tt, _, rfl, SqT.of upd_same, rfl, _, _, rfl, _, _, rfl, rfl, ?_⟩
      refine ⟨fun σ' G => ∃ (R C T : Nat → Addr) (f0 : Nat), σ' = [some (.ref p), some (.int m), some (.int w), some (.ref pg), y4, y5, some (.ref d), some (.int (i : Int)), some (.int (g (i : Int))), some (.ref (R f0)), some (.ref (C f0))] ∧ BI H3 G d g m i (Bk.firsts g (i + 1)) R C T ∧ f0 ∈ Bk.firsts g (i + 1) ∧ g f0 = g i, ?_, ?_⟩
      · have b1 := b.on xt
        refine ⟨_, rfl, d, rfl, .inl ⟨_, .inl b1.dk⟩, _, rfl, ?_⟩
        refine ⟨Nat.zero_le _, fun l1 n1 => ⟨Nat.zero_le _, fun l2 n2 => ⟨(by show 2 ≤ sizeLine; decide), fun l3 n3 => ?_⟩⟩⟩
        have x1 := Ex.new (o := .lst ([] : List V)) n1
        have x2 := Ex.new (o := .lst ([] : List V)) n2
        have x3 := Ex.new (o := .tup [V.ref l1, .ref l2]) n3
        have x13 := x1.trans (x2.trans x3)
        have lf : (Bk.firsts g i).length ≤ i := by
          unfold Bk.firsts
          exact Nat.le_trans (List.length_filter_le _ _) (by rw [List.length_range]; exact Nat.le_refl _)
        refine ⟨_, Sum.inl (g (i : Int)), x13 _ _ b1.dk, rfl, sz_lt (by rw [List.length_map]; omega), fun v hv => ?_, fun hn => ?_⟩
        · obtain ⟨f0, hf0, e0, rfl⟩ := val_firsts hv
          have b3 := b1.on x13
          have ef := Bk.firsts_old hf0 e0
          refine ⟨T f0, _, rfl, SqT.of (b3.tp f0 hf0), rfl, _, _, rfl, _, _, rfl, rfl, R, C, T, f0, rfl, ?_, ?_, e0⟩
          · rw [ef]
            exact b3
          · rw [ef]
            exact hf0
        · have nn := val_none hn
          have h1 := x2 _ _ (upd_same (H := upd H4 tt (.tup [.int (i : Nat), .int (g (i : Int))])) (a := l1) (o := .lst ([] : List V)))
          have h2 := upd_same (H := upd (upd H4 tt (.tup [.int (i : Nat), .int (g (i : Int))])) l1 (.lst ([] : List V))) (a := l2) (o := .lst ([] : List V))
          have n12 : l1 ≠ l2 := fun z => by
            rw [← z, upd_same] at n2
            cases n2
          have b3 := b1.new nn x13 n1 (fresh_back x1 n2) n12 (x3 _ _ h1) (x3 _ _ h2) upd_same
          have mem : i ∈ Bk.firsts g (i + 1) := by
            rw [Bk.firsts_new nn]
            exact List.mem_append_right _ (List.mem_singleton_self _)
          refine ⟨l3, _, rfl, SqT.of (by have := b3.tp i mem; rw [if_pos rfl, if_pos rfl, if_pos rfl] at this; exact this), rfl, _, _, rfl, _, _, rfl, rfl, _, _, _, i, ?_, b3, mem, rfl⟩
          rw [if_pos rfl, if_pos rfl]
          rfl
    
      rintro σ' G ⟨R, C, T, f0, rfl, b, hf0, eg⟩
      have hl := Bk.rowsT_len g m i f0
      have hl2 := Bk.colsT_len g m i f0
      refine s_if (b := decide (i < m)) (et_is (et_test (ev_op (ev_var (i := 7) rfl) (ev_var (i := 1) rfl) rv_I0)) dec_ltN) (fun z G1 g1 => ?_) (fun z G1 g1 => ?_)
      · refine s_app (l := R f0) (g1 _ _ (b.rw_ f0 hf0)) (ev_var (i := 9) rfl) (ev_var (i := 7) rfl) (by rw [List.length_map]; omega) fun G2 g2 => ⟨R, C, T, _, _, _, _, rfl, (b.on (g1.trans g2)).row hf0 eg (of_decide_eq_true z)⟩
      · refine s_app (l := C f0) (g1 _ _ (b.cl f0 hf0)) (ev_var (i := 10) rfl) (ev_op (ev_var (i := 7) rfl) (ev_var (i := 1) rfl) rv_I0) (by rw [List.length_map]; omega) fun G2 g2 => ⟨R, C, T, _, _, _, _, rfl, (b.on (g1.trans g2)).col hf0 eg (of_decide_eq_false z)⟩
    
    obtain ⟨R, C, T, y7, y8, y9, y10, rfl, b⟩ := hP
    rw [List.length_map, grp_len] at b
    refine ⟨_, rfl, d, _, rfl, b.dk, fun q nq => ?_⟩
    have xq := Ex.new (o := .lst (((Bk.firsts g (m + w)).map fun f : Nat => ((Sum.inl (g (f : Int)) : Key), V.ref (T f))).map (·.2))) nq
    refine k q ((Bk.firsts g (m + w)).map fun f => (T f, R f, C f)) _ (fresh_back (e3.trans b.ex) nq) (fun a ha => ?_) ((e3.trans b.ex).trans xq) ?_ ?_
    · obtain ⟨f, hf, rfl⟩ := List.mem_map.mp ha
      exact ⟨fresh_back e3 (b.r0 f hf), fresh_back e3 (b.c0 f hf)⟩
    · rw [upd_same, List.map_map, List.map_map]
      rfl
    · rw [ebk]
      unfold Bk.blocksG
      refine paired_map2 fun f hf => ?_
      rw [← Bk.rowsT_all, ← Bk.colsT_all]
      exact ⟨xq _ _ (b.tp f hf), xq _ _ (b.rw_ f hf), xq _ _ (b.cl f hf)⟩
-- DEF _law_put
theorem lc_rowsW {K : PySem.W.Frag} {te : TE} {vs : List Nat} {j : Nat} {σ : L2.St} {H : Hp} {Q : VK} {a : Addr} {as0 : List Addr} {rows : List (List Int)} (F : List Int → List Int) (ht : Tab H a as0 rows) (hm : rows.length ≤ 1000) (hw : ∀ u, wipe ((wipe σ vs).set j (some u)) vs = wipe σ vs)
    (he : ∀ c r H1, r ∈ rows → H c = some (.lst (r.map V.int)) → Ex H H1 → EvL te ((wipe σ vs).set j (some (.ref c))) H1 ((F r).map V.int))
    (k : ∀ p as H2, H p = none → (∀ a ∈ as, H a = none) → as.Nodup → p ∉ as → Ex H H2 → Tab H2 p as (rows.map F) → Q (.ref p) H2) : tLc (iList K (tC (.ref a))) (gName j) tYes te vs σ H Q := by
  refine ⟨a, rfl, ⟨_, SqL.of ht.1⟩, fun D hD => ?_⟩
  refine lc_list (K := K) (a := a) (xs := as0.map V.ref) (fun i H' => ∃ as, Ex H H' ∧ H' D = some (.lst (as.map V.ref)) ∧ RowsAt H' as ((rows.take i).map F) ∧ (∀ a ∈ as, H a = none) ∧ as.Nodup ∧ D ∉ as) ⟨[], Ex.new hD, upd_same, .nil, fun a ha => by simp at ha, List.nodup_nil, by simp⟩ (fun i H' _ ⟨_, p1, _⟩ => SqL.of (p1 _ _ ht.1)) (fun i x H' gx p => ?_) (fun H' p => ?_)
  · obtain ⟨as, p1, p2, p3, p4, p5, p6⟩ := p
    rw [List.getElem?_map] at gx
    obtain ⟨c0, hc0, rfl⟩ := Option.map_eq_some_iff.mp gx
    obtain ⟨y, hy, hh⟩ := paired_get ht.2 hc0
    have hi := (List.getElem?_eq_some_iff.mp hy).1
    have el : as.length = i := by rw [Paired.length p3, List.length_map, List.length_take]; omega
    refine ⟨hw _, ?_⟩
    show te _ H' _
    refine he c0 y H' (List.mem_of_getElem? hy) hh p1 H' (Ex.refl _) _ fun r H4 nr e4 hr => ?_
    have nrD : r ≠ D := fun z => by
      rw [z, p2] at nr
      cases nr
    refine ⟨_, e4 _ _ p2, ?_, as ++ [r], Ex.mut (p1.trans e4) hD, ?_, ?_, ?_, ?_, ?_⟩
    · rw [List.length_map, el]
      exact small1000 (by omega)
    · rw [upd_same, List.map_append]
      rfl
    · rw [take_snoc hy, List.map_append]
      refine paired_snoc (rows_but p3 fun b hb o g => ?_) ?_
      · rw [upd_ne (fun z => p6 (by rw [← z]; exact hb))]
        exact e4 _ _ g
      · rw [upd_ne nrD]
        exact hr
    · intro b hb
      rcases List.mem_append.mp hb with h | h
      · exact p4 b h
      · rw [show b = r by simpa using h]
        exact fresh_back p1 nr
    · refine List.nodup_append.mpr ⟨p5, by simp, fun b hb c hc z => ?_⟩
      have : c = r := by simpa using hc
      have hb' : r ∈ as := by rw [← this, ← z]; exact hb
      obtain ⟨x, _, hx'⟩ := paired_mem p3 hb'
      rw [nr] at hx'
      cases hx'
    · intro hb
      rcases List.mem_append.mp hb with h | h
      · exact p6 h
      · exact nrD (by simpa using h : D = r).symm
  · obtain ⟨as, p1, p2, p3, p4, p5, p6⟩ := p
    rw [List.length_map, Paired.length ht.2, List.take_length] at p3
    exact k D as H' hD p4 p5 p6 p1 ⟨p2, p3⟩
structure Dim (rows : List (List Int)) (m w : Nat) : Prop where
  m_ : rows.length = m
  w_ : ∀ r ∈ rows, r.length = w
  b : 1 ≤ m ∧ m ≤ 8 ∧ 1 ≤ w ∧ w ≤ 8
theorem Dim.ok {H : Hp} {p : Addr} {as : List Addr} {rows : List (List Int)} {m w : Nat} (d : Dim rows m w) (t : Tab H p as rows) : TabOk H p as rows m w := ⟨t, d.m_, d.w_, d.b⟩

theorem bes_dim {A B : List (List Int)} {m w m2 w2 : Nat} (h : 1 ≤ m ∧ m + m2 ≤ 8 ∧ 1 ≤ w ∧ w + w2 ≤ 8) : Dim (Sm.besF A B m w m2 w2) (m + m2) (w + w2) := ⟨Sm.tabF_len, Sm.tabF_wid, by omega, by omega, by omega, by omega⟩
theorem at_nat {B : Nat} {rows : List (List Int)} {a b : Nat} (h : ∀ r ∈ rows, ∀ y ∈ r, y.natAbs ≤ B) : (Dt.at_ rows a b).natAbs ≤ B := by
  unfold Dt.at_
  cases e : rows[a]? with
  | none => exact Nat.zero_le _
  | some r =>
    show (r[b]?.getD 0).natAbs ≤ B
    cases e2 : r[b]? with
    | none => exact Nat.zero_le _
    | some y => exact h r (List.mem_of_getElem? e) y (List.mem_of_getElem? e2)
theorem bes_bd {A C : List (List Int)} {m w m2 w2 B : Nat} (hA : ∀ r ∈ A, ∀ y ∈ r, y.natAbs ≤ B) (hC : ∀ r ∈ C, ∀ y ∈ r, y.natAbs ≤ B) : ∀ r ∈ Sm.besF A C m w m2 w2, ∀ y ∈ r, y.natAbs ≤ B := fun r hr y hy => by
  unfold Sm.besF Sm.tabF at hr
  obtain ⟨a, _, rfl⟩ := List.mem_map.mp hr
  obtain ⟨b, _, rfl⟩ := List.mem_map.mp hy
  unfold Sm.besAt
  split
  · exact at_nat hA
  · split
    · exact at_nat hC
    · exact Nat.zero_le _
def sp__law_put (K : PySem.W.Frag) : Sp := fun vs H Q _ => ∃ (s : Addr) (n : Int), vs = [.ref s] ∧ SrcAt H s n ∧ n ≤ 1000000 ∧
  ∀ p as rows m w H', Tab H' p as rows → Dim rows m w → (∀ r ∈ rows, ∀ y ∈ r, y.natAbs ≤ 10 ^ 30) → ExB s H H' → Q (.ref p) H'

theorem ok__law_put (T : Txt K mg) : FnOk P w K mg base CX0 6 T.f__law_put T.fd__law_put ["_law_source"] (sp__law_put K) := by
  refine Fun.ok T.F__law_put sc__law_put (fun vs H Q E h => ?_) (fun cdv A outer s H vs Q E hr h => ?_)
  · obtain ⟨_, _, rfl, _⟩ := h; rfl
  · refine ⟨_, (pss_cut (ps_set (i := 1) sc__law_put.nd rfl (by first | exact Or.inl rfl | exact Or.inr rfl) (pe_call (ok__law_any T) (hr.mono (by decide)) (by rfl) T.g__law_any T.k__law_any T.b__law_any .nil pass0 (pa_cons (pv 0) (pa_cons pe_int pa_nil))))
      (pss_cut (ps_for PassesOwn.never rfl (pi_range1 (by rfl) T.n_range (pa_cons (pe_call (ok__law_next T) (hr.mono (by decide)) (by rfl) T.g__law_next T.k__law_next T.b__law_next .nil pass0 (pa_cons (pv 0) (pa_cons pe_int pa_nil))) pa_nil)) (pg_name (i := 2) sc__law_put.nd rfl (by first | exact Or.inl rfl | exact Or.inr rfl))
        (pss_one (ps_set (i := 1) sc__law_put.nd rfl (by first | exact Or.inl rfl | exact Or.inr rfl) (pe_call (ok_beside T) hr (by rfl) T.g_beside T.k_beside T.b_beside .nil pass0 (pa_cons (pv 1) (pa_cons (pe_call (ok__law_any T) (hr.mono (by decide)) (by rfl) T.g__law_any T.k__law_any T.b__law_any .nil pass0 (pa_cons (pv 0) (pa_cons pe_int pa_nil))) pa_nil))))))
      (pss_cut (ps_set (i := 3) sc__law_put.nd rfl (by first | exact Or.inl rfl | exact Or.inr rfl) (pe_call (ok__law_mixed T) (hr.mono (by decide)) (by rfl) T.g__law_mixed T.k__law_mixed T.b__law_mixed .nil pass0 (pa_cons (pv 0) (pa_cons (pe_listRg rfl (by rfl) T.n_list (prg_1 (by rfl) T.n_range (pe_callB (id := "len") (r := rLenS K) call_len_seq (by rfl) T.n_len PySem.boot_len (pa_cons (pe_ix (r := rIxL K) ix_list (pv 1) pe_int (fun _ _ => rfl)) pa_nil)))) pa_nil))))
      (pss_one (ps_ret (pe_lc (own := [("_law_row", 4)]) (wi := iList K _) (g := gName 4) (tt := tYes) rfl sc__law_put.nd (pi_list (pe_call (ok__law_mixed T) (hr.mono (by decide)) (by rfl) T.g__law_mixed T.k__law_mixed T.b__law_mixed .nil pass0 (pa_cons (pv 0) (pa_cons (pv 1) pa_nil)))) (blkOk_by (N := ["_law_source", "_law_table", "_law_k", "_law_order", "_law_row", "_law_column"]) (sc := (defScope s__law_put)) (by decide +kernel)) (fun _ _ _ _ _ => pg_name (i := 4) sc__law_put.nd rfl (Or.inr rfl)) (fun _ _ _ _ _ => pts_nil) (fun _ _ _ _ _ => (pe_lc (own := [("_law_column", 5)]) (wi := iList K _) (g := gName 5) (tt := tYes) rfl sc__law_put.nd (pi_list (pv 3)) (blkOk_by (N := ["_law_source", "_law_table", "_law_k", "_law_order", "_law_row", "_law_column"]) (sc := (relS ({ kind := .function, names := [(".0", .local), ("_law_row", .cell), ("_law_order", .free)], isGenerator := false, isCoroutine := false } : Scope) (defScope s__law_put))) (by decide +kernel)) (fun _ _ _ _ _ => pg_name (i := 5) sc__law_put.nd rfl (Or.inl rfl)) (fun _ _ _ _ _ => pts_nil) (fun _ _ _ _ _ => (pe_ix (r := rIxL K) ix_list (pv 4) (pv 5) (fun _ _ => rfl))))))))))), ?_⟩
    obtain ⟨s, n, rfl, hs, hn, k⟩ := h
    refine ⟨fun σ' H' => ∃ (p : Addr) (as : List Addr) (rows : List (List Int)) (m w : Nat), σ' = [some (.ref s), some (.ref p), none, none, none, none] ∧ TN s H' p as rows ∧ Dim rows m w ∧ m ≤ 2 ∧ w ≤ 2 ∧ (∀ r ∈ rows, ∀ y ∈ r, y.natAbs ≤ 10 ^ 30) ∧ ExB s H H' ∧ SrcAt H' s (n + 200), ?_, ?_⟩
    · exact ⟨_, rfl, s, n, 2, rfl, hs, by omega, by decide, by decide, fun p as rows m w H1 N l m1 m2 w1 w2 e1 s1 => ⟨p, as, rows, m, w, rfl, TN.of hs N.p0 N.a0 N.tab, ⟨l, fun r hr => (N.ok r hr).1, by omega⟩, m2, w2, fun r hr => (N.ok r hr).2, e1, s1⟩⟩
    rintro σ' H1 ⟨p, as, rows, m, w, rfl, T1, d1, m2, w2, b1, e1, s1⟩
    -- put together
    refine ⟨fun σ' H' => ∃ (y2 : Option V) (p : Addr) (as : List Addr) (rows : List (List Int)) (m w : Nat), σ' = [some (.ref s), some (.ref p), y2, none, none, none] ∧ TN s H' p as rows ∧ Dim rows m w ∧ (∀ r ∈ rows, ∀ y ∈ r, y.natAbs ≤ 10 ^ 30) ∧ ExB s H H' ∧ SrcAt H' s (n + 1000), ?_, ?_⟩
    · refine ⟨_, rfl, s, 3, _, rfl, s1, by omega, by decide, (by unfold Bd; decide), fun f H2 f0 f1 e2 s2 => ⟨f, rfl, by omega, by omega, ?_⟩⟩
      refine for_range (lo := 0) (n := f.toNat) (fun i σ' H' => ∃ (y2 : Option V) (p : Addr) (as : List Addr) (rows : List (List Int)) (m w : Nat), σ' = [some (.ref s), some (.ref p), y2, none, none, none] ∧ TN s H' p as rows ∧ Dim rows m w ∧ m ≤ 2 + 3 * i ∧ w ≤ 2 + 3 * i ∧ (∀ r ∈ rows, ∀ y ∈ r, y.natAbs ≤ 10 ^ 30) ∧ ExB s H H' ∧ SrcAt H' s (n + 201 + 200 * i)) ⟨_, p, as, rows, m, w, rfl, T1.exB e2, d1, by omega, by omega, b1, e1.trans e2, s2.le (by omega)⟩ (fun i σ' H3 hi hP => ?_) (fun σ' H3 hP => ?_)
      · obtain ⟨y2, p, as, rows, m, w, rfl, T3, d3, m3, w3, b3, e3, s3⟩ := hP
        have bd3 := d3.b
        refine ⟨_, rfl, _, rfl, s, _, 3, rfl, s3, by omega, by decide, by decide, fun q bs rows2 m2 w2 H4 N l m21 m22 w21 w22 e4 s4 => ?_⟩
        have d2 : Dim rows2 m2 w2 := ⟨l, fun r hr => (N.ok r hr).1, by omega⟩
        have T4 := T3.exB e4
        refine ⟨p, q, as, bs, rows, rows2, m, w, m2, w2, rfl, d3.ok T4.tab, d2.ok N.tab, by omega, by omega, fun c cs H5 nc ncs nd ncc e5 h5 => ⟨_, c, cs, _, m + m2, w + w2, rfl, TN.of s4 nc ncs h5, bes_dim (by omega), by omega, by omega, bes_bd b3 fun r hr => (N.ok r hr).2, (e3.trans e4).trans (ExB.of e5), (s4.ex e5).le (by omega)⟩⟩
      · obtain ⟨y2, p, as, rows, m, w, rfl, T3, d3, m3, w3, b3, e3, s3⟩ := hP
        exact ⟨_, p, as, rows, m, w, rfl, T3, d3, b3, e3, s3.le (by omega)⟩
    clear T1 d1 m2 w2 b1 e1 s1 p as rows m w
    rintro σ' H1 ⟨y2, p, as, rows, m, w, rfl, T1, d1, b1, e1, s1⟩
    have bd1 := d1.b
    -- order
    refine ⟨fun σ' H' => ∃ (po : Addr) (ord : List Int), σ' = [some (.ref s), some (.ref p), y2, some (.ref po), none, none] ∧ ord.Perm (numsTo w) ∧ H' po = some (.lst (ord.map V.int)) ∧ po ≠ s ∧ TN s H' p as rows ∧ ExB s H H' ∧ SrcAt H' s (n + 1100), ?_, ?_⟩
    · refine ⟨_, rfl, ?_⟩
      refine el_rgL (k := w) (ev_wide (ev_var (i := 1) rfl) (d1.ok T1.tab)) (by omega) H1 (Ex.refl _) _ fun q H3 nq e3 hq => ?_
      refine ⟨s, q, n + 1000, _, rfl, s1.ex e3, by omega, s1.ne nq, SqL.of hq, by rw [List.length_map, numsTo_length]; omega, fun v hv => ?_, fun ys p1 H4 hp np e4 s4 h4 => ?_⟩
      · obtain ⟨i, _, rfl⟩ := List.mem_map.mp hv
        exact datv_int i
      · obtain ⟨pl, rfl, hpl⟩ := perm_ints hp
        exact ⟨p1, pl, rfl, hpl, h4, (s1.ex e3).ne np, (T1.ex e3).exB e4, (e1.trans (ExB.of e3)).trans e4, s4.le (by omega)⟩
    rintro σ' H2 ⟨po, ord, rfl, hpo, hord, npo, T2, e2, s2⟩
    have al : as.length = m := by rw [Paired.length T2.tab.2, d1.m_]
    refine ⟨_, rfl, _, rfl, s, p, n + 1100, _, rfl, s2, by omega, T2.ps, SqL.of T2.tab.1, by rw [List.length_map]; omega, fun v hv => ?_, fun ys p1 H4 hp np e4 s4 h4 => ?_⟩
    · obtain ⟨a, ha, rfl⟩ := List.mem_map.mp hv
      obtain ⟨r, _, hr⟩ := paired_mem T2.tab.2 ha
      exact datv_row hr (T2.ass a ha)
    obtain ⟨as1, rows1, rfl, pr, hR, pa⟩ := perm_refs hp T2.tab.2
    have lo : ord.length = w := by rw [hpo.length_eq, numsTo_length]
    have l1 : rows1.length = m := by rw [pr.length_eq, d1.m_]
    refine lc_rowsW (K := K) (a := p1) (F := fun r => ord.map fun c => r[c.toNat]?.getD 0) (as0 := as1) (rows := rows1) ⟨h4, rows_but hR fun a ha o g => e4 a o (T2.ass a (pa.mem_iff.mp ha)) g⟩ (by omega) (fun u => rfl) (fun c r H5 hr hc e5 => ?_) (fun q bs H5 nq nbs nd nqb e5 h5 => k q bs _ m w H5 h5 ⟨by rw [List.length_map, l1], fun r hr => ?_, d1.b⟩ (fun r hr y hy => ?_) ((e2.trans e4).trans (ExB.of e5)))
    · refine el_mapI (K := K) (qs := ord) (fun c => r[c.toNat]?.getD 0) rfl (e5 _ _ (e4 _ _ npo hord)) (by omega) (fun u => rfl) fun j H6 hj e6 => ?_
      have bj := mem_numsTo.mp (hpo.mem_iff.mp hj)
      have lr := d1.w_ r (pr.mem_iff.mp hr)
      exact ev_op (ev_var rfl) (ev_var rfl) (rv_ixL (SqL.of ((e5.trans e6) _ _ hc)) (atI_rowI bj.1 (by omega)))
    · obtain ⟨r', _, rfl⟩ := List.mem_map.mp hr
      rw [List.length_map, lo]
    · obtain ⟨r', hr', rfl⟩ := List.mem_map.mp hr
      obtain ⟨c, _, rfl⟩ := List.mem_map.mp hy
      cases e : r'[c.toNat]? with
      | none => exact Nat.zero_le _
      | some y => exact b1 r' (pr.mem_iff.mp hr') y (List.mem_of_getElem? e)
-- DEF law

theorem tf_le {M : Nat} : ∀ (ts : List Str) (k : Nat) (acc : Str), (∀ t ∈ ts, t.length ≤ M) → (PySem.textFrom k acc ts).length ≤ acc.length + ts.length * (M + 2)
  | [], _, acc, _ => by show acc.length ≤ _; omega
  | t :: ts, k, acc, h => by
    have ih := tf_le ts (k + 1) (acc ++ (if k > 0 then ", " else "" : String) ++ t) (fun u hu => h u (.tail _ hu))
    have h1 := h t (.head _)
    have e : (acc ++ (if k > 0 then ", " else "" : String) ++ t).length ≤ acc.length + 2 + t.length := by
      rw [PySem.strLen_append, PySem.strLen_append]
      by_cases c : k > 0
      · rw [if_pos c]
        have : (Str.ofString ", ").length = 2 := by decide +kernel
        omega
      · rw [if_neg c]
        have : (Str.ofString "").length = 0 := by decide +kernel
        omega
    show (PySem.textFrom (k + 1) (acc ++ (if k > 0 then ", " else "" : String) ++ t) ts).length ≤ _
    rw [List.length_cons, Nat.add_mul]
    omega
theorem lt_le {M n : Nat} {ts : List Str} (h : ∀ t ∈ ts, t.length ≤ M) (hn : ts.length ≤ n) : (PySem.listText ts).length ≤ 2 + n * (M + 2) := by
  have h1 := tf_le ts 0 "[" h
  have e : (PySem.listText ts).length = (PySem.textFrom 0 "[" ts).length + 1 := by
    show (PySem.textFrom 0 "[" ts ++ "]").length = _
    rw [PySem.strLen_append]
    rfl
  have e2 : (Str.ofString "[").length = 1 := by decide +kernel
  have := Nat.mul_le_mul_right (M + 2) hn
  omega
theorem all_shown {M : Nat} : ∀ {ds : List PyData}, (∀ d ∈ ds, d.shown.length ≤ M) → (∀ t ∈ PyData.shownAll ds, t.length ≤ M) ∧ (PyData.shownAll ds).length = ds.length
  | [], _ => ⟨fun t ht => (nomatch ht), rfl⟩
  | d :: ds, h => by
    obtain ⟨i1, i2⟩ := all_shown (ds := ds) fun x hx => h x (.tail _ hx)
    refine ⟨fun t ht => ?_, congrArg (· + 1) i2⟩
    rcases List.mem_cons.mp ht with rfl | ht
    · exact h d (.head _)
    · exact i1 t ht
theorem list_shown {M n : Nat} {ds : List PyData} (h : ∀ d ∈ ds, d.shown.length ≤ M) (hn : ds.length ≤ n) : (PyData.list ds).shown.length ≤ 2 + n * (M + 2) := by
  obtain ⟨i1, i2⟩ := all_shown h
  exact lt_le i1 (by rw [i2]; exact hn)
theorem all_showable : ∀ {ds : List PyData}, (∀ d ∈ ds, d.showable = true) → PyData.showableAll ds = true
  | [], _ => rfl
  | d :: ds, h => by
    show (d.showable && PyData.showableAll ds) = true
    rw [h d (.head _), all_showable fun x hx => h x (.tail _ hx)]
    rfl
theorem int_text {i : Int} (h : i.natAbs.log2 < 1920) : (Str.ofString (toString i)).length ≤ 1000 := by
  have h2 : i.natAbs < 10 ^ 600 := by
    by_cases z : i.natAbs = 0
    · rw [z]; decide +kernel
    · exact Nat.lt_of_lt_of_le ((Nat.log2_lt z).mp h) (by decide +kernel)
  have e := PySem.int_text_length_le10 (k := 600) (by decide) h2
  rw [PySem.ofString_length]
  omega
theorem bd_log {n : Nat} {i : Int} (h : Bd n i) (hn : n ≤ 1900) : i.natAbs.log2 < 1920 := by
  by_cases z : i.natAbs = 0
  · rw [z]
    decide
  · exact (Nat.log2_lt z).mpr (Nat.lt_of_lt_of_le h (Nat.pow_le_pow_right (by decide) (by omega)))
def tabD (rows : List (List Int)) : PyData := .list (rows.map fun r => .list (r.map .int))
theorem tabD_ok {n : Nat} {rows : List (List Int)} (hb : ∀ r ∈ rows, ∀ y ∈ r, Bd n y) (hn : n ≤ 1900) (hm : rows.length ≤ 8) (hw : ∀ r ∈ rows, r.length ≤ 8) : (tabD rows).showable = true ∧ (tabD rows).shown.length ≤ 70000 := by
  have row : ∀ d ∈ rows.map (fun r => PyData.list (r.map .int)), d.showable = true ∧ d.shown.length ≤ 8018 := fun d hd => by
    obtain ⟨r, hr, rfl⟩ := List.mem_map.mp hd
    refine ⟨all_showable fun x hx => ?_, list_shown (M := 1000) (n := 8) (fun x hx => ?_) (by rw [List.length_map]; exact hw r hr)⟩
    · obtain ⟨y, hy, rfl⟩ := List.mem_map.mp hx
      exact decide_eq_true (bd_log (hb r hr y hy) hn)
    · obtain ⟨y, hy, rfl⟩ := List.mem_map.mp hx
      exact int_text (bd_log (hb r hr y hy) hn)
  refine ⟨all_showable fun d hd => (row d hd).1, ?_⟩
  have := list_shown (M := 8018) (n := 8) (fun d hd => (row d hd).2) (by rw [List.length_map]; exact hm)
  exact Nat.le_trans this (by decide)
theorem tab_dp {K : PySem.W.Frag} {H : Hp} {p : Addr} {as : List Addr} {rows : List (List Int)} (h : Tab H p as rows) : Dp K H (.ref p) (tabD rows) := .lst (SqL.of h.1) (dp_rows h.2)
theorem tabD_lay (rows : List (List Int)) : (tabD rows).canLay0 = true := canLay_rows rows
theorem tabD_depth (rows : List (List Int)) : (tabD rows).depth ≤ 2 := by
  have := depth_rows rows
  show PyData.depthAll _ + 1 ≤ 2
  omega
theorem two_lay (A B : List (List Int)) : (PyData.list [tabD A, tabD B]).canLay0 = true := by
  show ((tabD A).canLay0 && ((tabD B).canLay0 && true)) = true
  rw [tabD_lay, tabD_lay]
  rfl
theorem two_depth (A B : List (List Int)) : (PyData.list [tabD A, tabD B]).depth ≤ 3 := by
  have h1 := tabD_depth A
  have h2 := tabD_depth B
  show max (tabD A).depth (max (tabD B).depth 0) + 1 ≤ 3
  omega
/-- the text of two tables in a list -/
def Small (n : Nat) (rows : List (List Int)) : Prop := (∀ r ∈ rows, ∀ y ∈ r, Bd n y) ∧ rows.length ≤ 8 ∧ ∀ r ∈ rows, r.length ≤ 8
theorem ev_str2 {K : PySem.W.Frag} {ta tb : TE} {σ : L2.St} {H : Hp} {p q : Addr} {as bs : List Addr} {A B : List (List Int)} {n : Nat} (ha : Ev ta σ H (.ref p)) (hb : Ev tb σ H (.ref q)) (hA : Tab H p as A) (hB : Tab H q bs B) (sA : Small n A) (sB : Small n B) (hn : n ≤ 1900) :
    Ev (tCB (Own.rShown K) (tCons (tLst (tCons ta (tCons tb tNil))) tNil)) σ H (.str (PyData.list [tabD A, tabD B]).shown) := fun H1 e Q k =>
  ha H1 e _ fun H2 e2 => hb H2 (e.trans e2) _ fun H3 e3 => ⟨(by show 2 ≤ sizeLine; decide), fun L nL => by
    have xL := Ex.new (o := .lst [V.ref p, .ref q]) nL
    have e03 := ((e.trans e2).trans e3).trans xL
    have a1 := tabD_ok sA.1 hn sA.2.1 sA.2.2
    have b1 := tabD_ok sB.1 hn sB.2.1 sB.2.2
    have dd := two_depth A B
    have ln := list_shown (M := 70000) (n := 2) (ds := [tabD A, tabD B]) (fun d hd => by
      rcases List.mem_cons.mp hd with rfl | hd
      · exact a1.2
      · rw [List.mem_singleton.mp hd]
        exact b1.2) (Nat.le_refl 2)
    exact ⟨L, _, rfl, .lst (SqL.of upd_same) (.cons (tab_dp (hA.ex e03)) (.cons (tab_dp (hB.ex e03)) .nil)), all_showable (fun d hd => by
      rcases List.mem_cons.mp hd with rfl | hd
      · exact a1.1
      · rw [List.mem_singleton.mp hd]
        exact b1.1), PyData.hasDict_of_canLay _ (two_lay A B), by omega, Nat.le_trans ln (by decide), k _ ((e2.trans e3).trans xL)⟩⟩
/-- a reading that tells a table -/
def EvR (te : TE) (σ : L2.St) (H : Hp) (rows : List (List Int)) : Prop := ∀ H1, Ex H H1 → ∀ Q : VK, (∀ p as H2, Ex H1 H2 → Tab H2 p as rows → Q (.ref p) H2) → te σ H1 Q
theorem EvTab.r {te : TE} {σ : L2.St} {H : Hp} {rows : List (List Int)} (h : EvTab te σ H rows) : EvR te σ H rows := fun H1 e Q k => h H1 e Q fun p as H2 _ _ _ _ e2 t => k p as H2 e2 t
theorem er_var {n : Nat} {σ : L2.St} {H : Hp} {p : Addr} {as : List Addr} {rows : List (List Int)} (h : σ[n]? = some (some (.ref p))) (t : Tab H p as rows) : EvR (tVar n) σ H rows := fun H1 e Q k => ⟨_, h, k p as H1 (Ex.refl _) (t.ex e)⟩
theorem EvR.mono {te : TE} {σ : L2.St} {H H' : Hp} {rows : List (List Int)} (h : EvR te σ H rows) (e : Ex H H') : EvR te σ H' rows := fun H1 e1 Q k => h H1 (e.trans e1) Q k
theorem EvTab.mono {te : TE} {σ : L2.St} {H H' : Hp} {rows : List (List Int)} (h : EvTab te σ H rows) (e : Ex H H') : EvTab te σ H' rows := fun H1 e1 Q k => h H1 (e.trans e1) Q k
theorem rv_eqT {K : PySem.W.Frag} {H : Hp} {p q : Addr} {as bs : List Addr} {rows : List (List Int)} (hp : Tab H p as rows) (hq : Tab H q bs rows) : RV (rEqD K) (.ref p) (.ref q) H (.bl true) := fun H1 e Q k => by
  have sh : SeqAt.shaped (.list (rows.map fun r => PyData.list (r.map PyData.int))) = true := shaped_list (canLay_rows rows) (Nat.le_trans (depth_rows rows) (by decide))
  refine ⟨_, _, .lst (SqL.of (e _ _ hp.1)) (dp_rows (hp.2.ex e)), .lst (SqL.of (e _ _ hq.1)) (dp_rows (hq.2.ex e)), sh, sh, ?_⟩
  rw [SeqAt.eqv_refl _ (SeqAt.canLay_of_shaped sh)]
  exact k H1 (Ex.refl _)
theorem ev_eqR {K : PySem.W.Frag} {ta tb : TE} {σ : L2.St} {H : Hp} {rows : List (List Int)} (ha : EvR ta σ H rows) (hb : EvR tb σ H rows) : Ev (tOp (rEqD K) ta tb) σ H (.bl true) := fun H1 e Q k =>
  ha H1 e _ fun p as H2 e2 hp => hb H2 (e.trans e2) _ fun q bs H3 e3 hq => rv_eqT (hp.ex e3) hq H3 (Ex.refl _) Q fun H4 e4 => k H4 ((e2.trans e3).trans e4)
/-- a list of two tables against one written -/
theorem ev_ne2 {K : PySem.W.Frag} {ta tb tc : TE} {σ : L2.St} {H : Hp} {sd p q : Addr} {as bs : List Addr} {A B : List (List Int)} (ha : Ev ta σ H (.ref sd)) (hs : H sd = some (.lst [.ref p, .ref q])) (hA : Tab H p as A) (hB : Tab H q bs B) (h1 : EvR tb σ H A) (h2 : EvR tc σ H B) :
    Ev (tOp (rNeD K) ta (tLst (tCons tb (tCons tc tNil)))) σ H (.bl false) := fun H1 e Q k =>
  ha H1 e _ fun H2 e2 => h1 H2 (e.trans e2) _ fun u us H3 e3 hu => h2 H3 ((e.trans e2).trans e3) _ fun v vs H4 e4 hv => ⟨(by show 2 ≤ sizeLine; decide), fun L nL => by
    have xL := Ex.new (o := .lst [V.ref u, .ref v]) nL
    have eA := (((e.trans e2).trans e3).trans e4).trans xL
    have sh : SeqAt.shaped (.list [tabD A, tabD B]) = true := by
      unfold SeqAt.shaped
      rw [two_lay, decide_eq_true (Nat.le_trans (two_depth A B) (by decide))]
      rfl
    refine ⟨_, _, .lst (SqL.of (eA _ _ hs)) (.cons (tab_dp (hA.ex eA)) (.cons (tab_dp (hB.ex eA)) .nil)), .lst (SqL.of upd_same) (.cons (tab_dp (hu.ex (e4.trans xL))) (.cons (tab_dp (hv.ex xL)) .nil)), sh, sh, ?_⟩
    rw [SeqAt.eqv_refl _ (SeqAt.canLay_of_shaped sh)]
    exact k _ (((e2.trans e3).trans e4).trans xL)⟩
theorem six_min {m n : Nat} (hm : m ≤ 8) (hn : n ≤ 8) : HT.sIx m m (some (n : Int)) = min n m := by
  have hm : m = 0 ∨ m = 1 ∨ m = 2 ∨ m = 3 ∨ m = 4 ∨ m = 5 ∨ m = 6 ∨ m = 7 ∨ m = 8 := by omega
  have hn : n = 0 ∨ n = 1 ∨ n = 2 ∨ n = 3 ∨ n = 4 ∨ n = 5 ∨ n = 6 ∨ n = 7 ∨ n = 8 := by omega
  rcases hm with rfl | rfl | rfl | rfl | rfl | rfl | rfl | rfl | rfl <;> rcases hn with rfl | rfl | rfl | rfl | rfl | rfl | rfl | rfl | rfl <;> rfl
theorem cut_min (xs : List V) (n : Nat) (h8 : xs.length ≤ 8) (hn : n ≤ 8) : cutV xs none (some (n : Int)) = xs.take n := by
  unfold cutV
  have e0 : HT.sIx xs.length 0 none = 0 := rfl
  rw [e0, six_min h8 hn, List.drop_zero, Nat.sub_zero]
  by_cases c : n ≤ xs.length
  · rw [Nat.min_eq_left c]
  · rw [Nat.min_eq_right (by omega), List.take_of_length_le (Nat.le_refl _), List.take_of_length_le (by omega)]

theorem ev_str1 {K : PySem.W.Frag} {ta : TE} {σ : L2.St} {H : Hp} {p : Addr} {as : List Addr} {A : List (List Int)} {n : Nat} (ha : Ev ta σ H (.ref p)) (hA : Tab H p as A) (sA : Small n A) (hn : n ≤ 1900) : Ev (tCB (Own.rShown K) (tCons ta tNil)) σ H (.str (tabD A).shown) := fun H1 e Q k =>
  ha H1 e _ fun H2 e2 => ⟨p, _, rfl, tab_dp (hA.ex (e.trans e2)), (tabD_ok sA.1 hn sA.2.1 sA.2.2).1, PyData.hasDict_of_canLay _ (tabD_lay A), by have := tabD_depth A; omega, Nat.le_trans (tabD_ok sA.1 hn sA.2.1 sA.2.2).2 (by decide), k H2 e2⟩
def blocksD (bs : List (List Int × List Int)) : List PyData := bs.map fun b => .tuple [.list (b.1.map .int), .list (b.2.map .int)]
theorem dp_blocks {K : PySem.W.Frag} {H : Hp} : ∀ {ts : List (Addr × Addr × Addr)} {bs : List (List Int × List Int)}, BlocksAt H ts bs → DpAll K H (ts.map fun a => V.ref a.1) (blocksD bs)
  | _, _, .nil => .nil
  | _, _, .cons h t => .cons (.tup (SqT.of h.1) (.cons (.lst (SqL.of h.2.1) (dpAll_ints _)) (.cons (.lst (SqL.of h.2.2) (dpAll_ints _)) .nil))) (dp_blocks t)
theorem lay_blocks : ∀ bs : List (List Int × List Int), PyData.canLayAll0 (blocksD bs) = true
  | [] => rfl
  | b :: bs => by
    show ((PyData.canLayAll0 (b.1.map PyData.int) && (PyData.canLayAll0 (b.2.map PyData.int) && true)) && PyData.canLayAll0 (blocksD bs)) = true
    rw [lay_blocks bs, canLay_ints, canLay_ints]
    rfl
theorem depth_blocks : ∀ bs : List (List Int × List Int), PyData.depthAll (blocksD bs) ≤ 2
  | [] => Nat.zero_le _
  | b :: bs => by
    have := depth_blocks bs
    have h1 := depth_ints b.1
    have h2 := depth_ints b.2
    show max (max (PyData.depthAll (b.1.map PyData.int) + 1) (max (PyData.depthAll (b.2.map PyData.int) + 1) 0) + 1) (PyData.depthAll (blocksD bs)) ≤ 2
    omega
theorem blocks_shaped (bs : List (List Int × List Int)) : SeqAt.shaped (.list (blocksD bs)) = true := shaped_list (lay_blocks bs) (Nat.le_trans (depth_blocks bs) (by decide))
theorem rv_neB {K : PySem.W.Frag} {H : Hp} {p q : Addr} {ts us : List (Addr × Addr × Addr)} {bs : List (List Int × List Int)} (hp : H p = some (.lst (ts.map fun a => V.ref a.1))) (hT : BlocksAt H ts bs) (hq : H q = some (.lst (us.map fun a => V.ref a.1))) (hU : BlocksAt H us bs) : RV (rNeD K) (.ref p) (.ref q) H (.bl false) := fun H1 e Q k => by
  have sh := blocks_shaped bs
  refine ⟨_, _, .lst (SqL.of (e _ _ hp)) (dp_blocks (hT.ex e)), .lst (SqL.of (e _ _ hq)) (dp_blocks (hU.ex e)), sh, sh, ?_⟩
  rw [SeqAt.eqv_refl _ (SeqAt.canLay_of_shaped sh)]
  exact k H1 (Ex.refl _)
/-- tuples of two lists, whatever these hold -/
def SpAt (H : Hp) (ts : List (Addr × Addr × Addr)) (n : Nat) : Prop := ∀ a ∈ ts, H a.1 = some (.tup [.ref a.2.1, .ref a.2.2]) ∧ (∃ xs, H a.2.1 = some (.lst xs) ∧ xs.length ≤ n) ∧ ∃ zs, H a.2.2 = some (.lst zs) ∧ zs.length ≤ n
theorem SpAt.put {H H' : Hp} {ts : List (Addr × Addr × Addr)} {n : Nat} {x : Addr} {vs : List V} (h : SpAt H ts n) (e : Ex H H') (hx : ∃ ys, H x = some (.lst ys)) (lv : vs.length ≤ n + 1) : SpAt (upd H' x (.lst vs)) ts (n + 1) := fun a ha => by
  obtain ⟨h1, ⟨xs, h2, l2⟩, zs, h3, l3⟩ := h a ha
  obtain ⟨ys, hy⟩ := hx
  refine ⟨?_, ?_, ?_⟩
  · rw [upd_ne fun z => by
      rw [z, hy] at h1
      cases h1]
    exact e _ _ h1
  · by_cases z : a.2.1 = x
    · exact ⟨vs, by rw [z, upd_same], lv⟩
    · exact ⟨xs, by rw [upd_ne z]; exact e _ _ h2, by omega⟩
  · by_cases z : a.2.2 = x
    · exact ⟨vs, by rw [z, upd_same], lv⟩
    · exact ⟨zs, by rw [upd_ne z]; exact e _ _ h3, by omega⟩
theorem blocks_len {g : Int → Int} {m w : Nat} : (Bk.blocksG g m w).length ≤ m + w := by
  unfold Bk.blocksG Bk.firsts
  rw [List.length_map]
  exact Nat.le_trans (List.length_filter_le _ _) (by rw [List.length_range]; exact Nat.le_refl _)
theorem blk_len {p : Nat → Bool} {m w : Nat} : (Bk.blk p m w).1.length ≤ m ∧ (Bk.blk p m w).2.length ≤ w := by
  unfold Bk.blk Bk.cast
  constructor <;> (show (List.map _ _).length ≤ _; rw [List.length_map]; exact Nat.le_trans (List.length_filter_le _ _) (by rw [List.length_range]; exact Nat.le_refl _))
theorem no_mix {vs : List V} {zs : List Int} {a : Addr} (h : vs = zs.map V.int) (ha : V.ref a ∈ vs) : False := by
  rw [h] at ha
  obtain ⟨z, _, e⟩ := List.mem_map.mp ha
  cases e
theorem blocks0 : blocksOf [[0, 0]] 1 2 = [([0], []), ([], [0]), ([], [1])] := by decide
def sp_law (K : PySem.W.Frag) : Sp := fun vs H Q _ => ∃ (a : Addr) (ns : List Int), vs = [.ref a] ∧ SqL K H a (ns.map V.int) ∧ ns.length ≤ 63 ∧ ∀ H', Q (.bl true) H'

theorem run_law (T : Txt K mg) {s : Shared} {H : Hp} {a : Addr} {Q : VK} {E : XK} (e0 : Env0 P w K mg base callerA [] s H) (h : sp_law K [.ref a] H Q E) : codeAny (model P w) callerA (.call (.ref T.f_law) ⟨[.ref a], []⟩) (CR CX0 [] P w H s Q E) s := by
  obtain ⟨oc_, od_, kV_, doc_, pm_, an_, cdv, ct_, osl_, e_, lk_, hc_⟩ := T.F_law.ex
  have hb_ := T.b_law
  rw [e_] at lk_ hb_
  have inK_ : K.In s.heap := e0.mod.kin.keeps fun b o look => (e0.bs b o look).1
  refine LamX.run_ofS (CX := CX0) (k := 6) (N := ["_law_script", "_law_cell", "_law_source", "_law_table", "_law_saved", "_law_due_here", "_law_turn", "_law_said", "_law_rows", "_law_columns", "_law_one_here"]) (ps := ["_law_script"]) (us := [.ref a]) (vs := [.ref a]) lk_ hc_ sc_law ⟨rfl, by decide, by decide⟩ e0 (hb_ s [.ref a] inK_ rfl) (.cons rfl .nil) rfl fun hr => ?_
  refine ⟨_, PSs.nox (pss_cons (ps_for PassesOwn.never rfl (pi_list (pe_op op_cat (pe_lst (pa_cons (pe_call (ok__law_cell_at T) (hr.mono (by decide)) (by rfl) T.g__law_cell_at T.k__law_cell_at T.b__law_cell_at .nil pass0 (pa_cons (pv 0) (pa_cons pe_int pa_nil))) pa_nil)) (pe_slice (r := rSlL K) sl_list (pv 0) (po_some pe_int) (po_some pe_int)))) (pg_name (i := 1) sc_law.nd rfl (by first | exact Or.inl rfl | exact Or.inr rfl))
        (pss_cons (ps_set (i := 2) sc_law.nd rfl (by first | exact Or.inl rfl | exact Or.inr rfl) (pe_call (ok__law_source_of T) (hr.mono (by decide)) (by rfl) T.g__law_source_of T.k__law_source_of T.b__law_source_of .nil pass0 (pa_cons (pv 1) pa_nil)))
          (pss_cut (ps_set (i := 3) sc_law.nd rfl (by first | exact Or.inl rfl | exact Or.inr rfl) (pe_call (ok__law_any T) (hr.mono (by decide)) (by rfl) T.g__law_any T.k__law_any T.b__law_any .nil pass0 (pa_cons (pv 2) (pa_cons pe_int pa_nil))))
          (pss_cut (ps_if (pt_cmpR op_eq (pe_call (ok__law_next T) (hr.mono (by decide)) (by rfl) T.g__law_next T.k__law_next T.b__law_next .nil pass0 (pa_cons (pv 2) (pa_cons pe_int pa_nil))) pe_int (nomark _))
            (pss_one (ps_set (i := 3) sc_law.nd rfl (by first | exact Or.inl rfl | exact Or.inr rfl) (pe_call (ok__law_put T) hr (by rfl) T.g__law_put T.k__law_put T.b__law_put .nil pass0 (pa_cons (pv 2) pa_nil))))
            pss_nil)
          (pss_cut (ps_set (i := 4) sc_law.nd rfl (by first | exact Or.inl rfl | exact Or.inr rfl) (pe_callTy (T := "str") (r := Own.rShown K) (Own.str_shown rfl hr.units) (by rfl) T.n_str (by decide +kernel) (pa_cons (pv 3) pa_nil)))
          (pss_cut (ps_set (i := 5) sc_law.nd rfl (by first | exact Or.inl rfl | exact Or.inr rfl) (pe_call (ok__law_due T) (hr.mono (by decide)) (by rfl) T.g__law_due T.k__law_due T.b__law_due .nil pass0 (pa_cons (pv 3) pa_nil)))
          (pss_one (ps_for PassesOwn.never rfl (pi_range1 (by rfl) T.n_range (pa_cons pe_int pa_nil)) (pg_name (i := 6) sc_law.nd rfl (by first | exact Or.inl rfl | exact Or.inr rfl))
            (pss_cut (ps_set (i := 7) sc_law.nd rfl (by first | exact Or.inl rfl | exact Or.inr rfl) (pe_call (ok_parts T) hr (by rfl) T.g_parts T.k_parts T.b_parts .nil pass0 (pa_cons (pv 3) pa_nil)))
              (pss_cons (ps_if (PW.pt (pw_or (pt_cmpR (r := rNeD K) (op_neD hr.units) (pv 7) (pv 5) (nomark _)) (pw_or (pt_cmpR op_ne (pe_callTy (T := "str") (r := Own.rShown K) (Own.str_shown rfl hr.units) (by rfl) T.n_str (by decide +kernel) (pa_cons (pv 3) pa_nil)) (pv 4) (nomark _)) (pw_or1 (pt_not (pt_val (pe_callB (id := "all") (r := rAll K) (cr_all rfl) (by rfl) T.n_all (by decide +kernel) (pa_cons (pe_lc (own := [("_law_one_here", 10)]) (wi := iList K _) (g := gName 10) (tt := tYes) rfl sc_law.nd (pi_list (pv 7)) (blkOk_by (N := ["_law_script", "_law_cell", "_law_source", "_law_table", "_law_saved", "_law_due_here", "_law_turn", "_law_said", "_law_rows", "_law_columns", "_law_one_here"]) (sc := (defScope s_law)) (by decide +kernel)) (fun _ _ _ _ _ => pg_name (i := 10) sc_law.nd rfl (Or.inl rfl)) (fun _ _ _ _ _ => pts_nil) (fun _ _ _ _ _ => (pe_callB (id := "isinstance") (r := rIsi K) call_isi (by rfl) T.n_isinstance (by decide +kernel) (pa_cons (pv 10) (pa_cons (pe_bltn (v := .ty "tuple") (by rfl) T.n_tuple (by decide +kernel) rfl) pa_nil))))) pa_nil))))))))
                (pss_one (ps_ret pe_bl))
                pss_nil)
              (pss_cut (ps_for PassesOwn.never rfl (pi_list (pv 7)) (pg_tup rfl (pgs_cons (pg_name (i := 8) sc_law.nd rfl (by first | exact Or.inl rfl | exact Or.inr rfl)) (pgs_cons (pg_name (i := 9) sc_law.nd rfl (by first | exact Or.inl rfl | exact Or.inr rfl)) pgs_nil)))
                (pss_cons (ps_expr (pe_bm PySem.F.plainAttrs_list PySem.F.slot_list_append PySem.F.type_list_append mt_append (pv 8) (pa_cons pe_int pa_nil)))
                  (pss_one (ps_expr (pe_bm0 PySem.F.plainAttrs_list PySem.F.slot_list_clear PySem.F.type_list_clear mt_clear (pv 9))))))
              (pss_one (ps_expr (pe_bm0 PySem.F.plainAttrs_list PySem.F.slot_list_clear PySem.F.type_list_clear mt_clear (pv 7)))))))))))))))
      (pss_one (ps_ret (pe_cmpR (r := rEqD K) (op_eqD hr.units) (pe_call (ok_parts T) hr (by rfl) T.g_parts T.k_parts T.b_parts .nil pass0 (pa_cons (pe_lst (pa_cons (pe_lst (pa_cons pe_int (pa_cons pe_int pa_nil))) pa_nil)) pa_nil)) (pe_lst (pa_cons (pe_tup (pa_cons (pe_lst (pa_cons pe_int pa_nil)) (pa_cons (pe_lst pa_nil) pa_nil))) (pa_cons (pe_tup (pa_cons (pe_lst pa_nil) (pa_cons (pe_lst (pa_cons pe_int pa_nil)) pa_nil))) (pa_cons (pe_tup (pa_cons (pe_lst pa_nil) (pa_cons (pe_lst (pa_cons pe_int pa_nil)) pa_nil))) pa_nil)))) (nomark _))))), ?_⟩
  obtain ⟨a0, ns, ev0, hS, hlen, q⟩ := h
  have ea : a0 = a := by cases ev0; rfl
  subst ea
  clear ev0
  refine ⟨_, rfl, a0, ns, 0, rfl, hS, by decide, fun c0 => ⟨(by show 1 ≤ sizeLine; decide), fun p0 np0 => ⟨_, rfl, ?_⟩⟩⟩
  have x0 := Ex.new (o := .lst [V.int c0]) np0
  refine ⟨1, rfl, 8, rfl, a0, _, rfl, ex_l x0 hS, fun p1 np1 => ?_⟩
  obtain ⟨ys, hys⟩ := cutV_ints ns (some 1) (some 8)
  have hyl : ys.length ≤ 63 := by
    have h1 := cutV_length (ns.map V.int) (some 1) (some 8)
    rw [hys, List.length_map, List.length_map] at h1
    omega
  rw [hys]
  have x1 := Ex.new (o := .lst (ys.map V.int)) np1
  refine ⟨p0, p1, _, _, rfl, rfl, x1 _ _ upd_same, upd_same, ?_, fun p2 np2 => ?_⟩
  · have : ([V.int c0].length + (ys.map V.int).length) ≤ 1000 := by
      rw [List.length_map]
      show 1 + ys.length ≤ 1000
      omega
    exact Nat.le_trans this (by decide)
  refine ⟨p2, rfl, ⟨_, SqL.of upd_same⟩, for_list (K := K) (a := p2) (xs := [V.int c0] ++ ys.map V.int) (fun i σ H' => ∃ y1 y2 y3 y4 y5 y6 y7 y8 y9 y10 : Option V, σ = [some (.ref a0), y1, y2, y3, y4, y5, y6, y7, y8, y9, y10] ∧ H' p2 = some (.lst ([V.int c0] ++ ys.map V.int)))
    ⟨_, _, _, _, _, _, _, _, _, _, rfl, upd_same⟩ (fun i σ H' _ ⟨_, _, _, _, _, _, _, _, _, _, _, h⟩ => SqL.of h) ?_ (fun σ H' _ => ?_)⟩
  rotate_left
  · dsimp only
    refine s_ret (v := .bl true) ?_ ?_
    rotate_left
    · exact fun H2 _ => q H2
    intro G e Q1 k1
    refine ⟨(by show 2 ≤ sizeLine; decide), fun l nl => ⟨(by show 1 ≤ sizeLine; decide), fun t nt => ?_⟩⟩
    refine ⟨t, [l], [[0, 0]], 1, 2, rfl, ⟨⟨upd_same, .cons (Ex.new nt _ _ upd_same) .nil⟩, rfl, fun r hr => by rw [List.mem_singleton.mp hr]; rfl, by decide⟩, fun sd ts H1 nsd nts e1 hsd hB => ?_⟩
    rw [blocks0] at hB
    refine ⟨(by show 1 ≤ sizeLine; decide), fun a1 n1 => ⟨Nat.zero_le _, fun a2 n2 => ⟨(by show 2 ≤ sizeLine; decide), fun t1 m1 => ?_⟩⟩⟩
    refine ⟨Nat.zero_le _, fun a3 n3 => ⟨(by show 1 ≤ sizeLine; decide), fun a4 n4 => ⟨(by show 2 ≤ sizeLine; decide), fun t2 m2 => ?_⟩⟩⟩
    refine ⟨Nat.zero_le _, fun a5 n5 => ⟨(by show 1 ≤ sizeLine; decide), fun a6 n6 => ⟨(by show 2 ≤ sizeLine; decide), fun t3 m3 => ?_⟩⟩⟩
    refine ⟨(by show 3 ≤ sizeLine; decide), fun L nL => ?_⟩
    have x1 := Ex.new (o := .lst [V.int 0]) n1
    have x2 := Ex.new (o := .lst ([] : List V)) n2
    have x3 := Ex.new (o := .tup [V.ref a1, .ref a2]) m1
    have x4 := Ex.new (o := .lst ([] : List V)) n3
    have x5 := Ex.new (o := .lst [V.int 0]) n4
    have x6 := Ex.new (o := .tup [V.ref a3, .ref a4]) m2
    have x7 := Ex.new (o := .lst ([] : List V)) n5
    have x8 := Ex.new (o := .lst [V.int 1]) n6
    have x9 := Ex.new (o := .tup [V.ref a5, .ref a6]) m3
    have xL := Ex.new (o := .lst [V.ref t1, .ref t2, .ref t3]) nL
    have z9 := x9.trans xL
    have z8 := x8.trans z9
    have z7 := x7.trans z8
    have z6 := x6.trans z7
    have z5 := x5.trans z6
    have z4 := x4.trans z5
    have z3 := x3.trans z4
    have z2 := x2.trans z3
    have z1 := x1.trans z2
    have hU : BlocksAt _ [(t1, a1, a2), (t2, a3, a4), (t3, a5, a6)] [([0], []), ([], [0]), ([], [1])] := .cons ⟨z4 _ _ upd_same, z2 _ _ upd_same, z3 _ _ upd_same⟩ (.cons ⟨z7 _ _ upd_same, z5 _ _ upd_same, z6 _ _ upd_same⟩ (.cons ⟨xL _ _ upd_same, z8 _ _ upd_same, z9 _ _ upd_same⟩ .nil))
    have sh := blocks_shaped [([0], []), ([], [0]), ([], [1])]
    refine ⟨_, _, .lst (SqL.of (z1 _ _ hsd)) (dp_blocks (hB.ex z1)), .lst (SqL.of upd_same) (dp_blocks hU), sh, sh, ?_⟩
    rw [SeqAt.eqv_refl _ (SeqAt.canLay_of_shaped sh)]
    exact k1 _ (((Ex.new nl).trans (Ex.new nt)).trans (e1.trans z1))
  rintro i x σ H0 hi ⟨y1, y2, y3, y4, y5, y6, y7, y8, y9, y10, rfl, hp2⟩
  obtain ⟨c, rfl⟩ : ∃ c : Int, x = .int c := by
    rcases List.mem_append.mp (List.mem_of_getElem? hi) with h | h
    · exact ⟨c0, by simpa using h⟩
    · obtain ⟨c, _, rfl⟩ := List.mem_map.mp h
      exact ⟨c, rfl⟩
  generalize p2 = pL at hp2 ⊢
  clear hi hyl hys hS hlen x0 x1 np2 np1 np0 p2
  -- source, table
  refine ⟨_, rfl, c, rfl, fun s H1 n1 e1 s1 => ?_⟩
  refine ⟨fun σ' H' => ∃ (p : Addr) (as : List Addr) (rows : List (List Int)) (m w : Nat), σ' = [some (.ref a0), some (.int c), some (.ref s), some (.ref p), y4, y5, y6, y7, y8, y9, y10] ∧ TN s H' p as rows ∧ Dim rows m w ∧ (∀ r ∈ rows, ∀ y ∈ r, y.natAbs ≤ 10 ^ 30) ∧ ExB s H1 H' ∧ SrcAt H' s 200, ?_, ?_⟩
  · exact ⟨_, rfl, s, 0, 8, rfl, s1, by decide, by decide, by decide, fun p as rows m w H2 N l m1 m2 w1 w2 e2 s2 => ⟨p, as, rows, m, w, rfl, TN.of s1 N.p0 N.a0 N.tab, ⟨l, fun r hr => (N.ok r hr).1, by omega⟩, fun r hr => (N.ok r hr).2, e2, s2⟩⟩
  rintro σ' H2 ⟨p, as, rows, m, w, rfl, T1, d1, b1, e2, s2⟩
  refine ⟨fun σ' H' => ∃ (p : Addr) (as : List Addr) (rows : List (List Int)) (m w : Nat), σ' = [some (.ref a0), some (.int c), some (.ref s), some (.ref p), y4, y5, y6, y7, y8, y9, y10] ∧ Tab H' p as rows ∧ Dim rows m w ∧ (∀ r ∈ rows, ∀ y ∈ r, y.natAbs ≤ 10 ^ 30) ∧ ExB s H1 H', ?_, ?_⟩
  · refine ⟨_, rfl, s, 2, _, rfl, s2, by omega, by decide, (by unfold Bd; decide), fun f H3 f0 f1 e3 s3 => ⟨rfl, _, rfl, ite2 (fun _ => ?_) (fun _ => ?_)⟩⟩
    · exact ⟨_, rfl, s, _, rfl, s3, by omega, fun q bs rows2 m2 w2 H4 t d b e4 => ⟨q, bs, rows2, m2, w2, rfl, t, d, b, (e2.trans e3).trans e4⟩⟩
    · exact ⟨p, as, rows, m, w, rfl, (T1.exB e3).tab, d1, b1, e2.trans e3⟩
  clear T1 d1 b1 e2 s2 p as rows m w
  rintro σ' H2 ⟨p, as, rows, m, w, rfl, T, d, bd, e2⟩
  have hL := (e2.ex n1 e1) _ _ hp2
  have dm := d.b
  have sA : Small 130 rows := ⟨fun r hr y hy => Nat.lt_of_le_of_lt (bd r hr y hy) (by decide +kernel), by have := d.m_; omega, fun r hr => by rw [d.w_ r hr]; omega⟩
  clear hp2 e1 e2 n1 s1
  -- saved
  refine ⟨fun σ' H' => σ' = [some (.ref a0), some (.int c), some (.ref s), some (.ref p), some (.str (tabD rows).shown), y5, y6, y7, y8, y9, y10] ∧ Ex H2 H', ?_, ?_⟩
  · exact s_asg (ev_str1 (ev_var rfl) T sA (by decide)) fun H6 e6 => ⟨rfl, e6⟩
  rintro σ' H3 ⟨rfl, e3⟩
  replace T := T.ex e3
  replace hL := e3 _ _ hL
  clear e3
  -- due
  refine ⟨fun σ' H' => ∃ (q : Addr) (us : List (Addr × Addr × Addr)), σ' = [some (.ref a0), some (.int c), some (.ref s), some (.ref p), some (.str (tabD rows).shown), some (.ref q), y6, y7, y8, y9, y10] ∧ Ex H3 H' ∧ H' q = some (.lst (us.map fun a => V.ref a.1)) ∧ BlocksAt H' us (blocksOf rows m w), ?_, ?_⟩
  · exact ⟨_, rfl, p, as, rows, m, w, rfl, d.ok T, fun q us H4 nq e4 hq hB => ⟨q, us, rfl, e4, hq, hB⟩⟩
  rintro σ' H4 ⟨q, us, rfl, e4, hq, hU⟩
  replace T := T.ex e4
  replace hL := e4 _ _ hL
  clear e4
  -- twice
  refine s_forR1 (n := 2) (ea_cons ev_c ea_nil) (by decide) (fun i σ' H' => ∃ y6 y7 y8 y9 : Option V, σ' = [some (.ref a0), some (.int c), some (.ref s), some (.ref p), some (.str (tabD rows).shown), some (.ref q), y6, y7, y8, y9, y10] ∧ Ex H4 H') (fun H5 e5 => ⟨_, _, _, _, rfl, e5⟩) (fun i σ' H5 hi hP => ?_) (fun σ' H5 hP => ?_)
  rotate_left
  · obtain ⟨y6, y7, y8, y9, rfl, e5⟩ := hP
    exact ⟨_, _, _, _, _, _, _, _, _, _, rfl, e5 _ _ hL⟩
  obtain ⟨y6, y7, y8, y9, rfl, e5⟩ := hP
  have T5 := T.ex e5
  refine ⟨fun σ' H' => ∃ (sd : Addr) (ts : List (Addr × Addr × Addr)), σ' = [some (.ref a0), some (.int c), some (.ref s), some (.ref p), some (.str (tabD rows).shown), some (.ref q), some (.int (i : Int)), some (.ref sd), y8, y9, y10] ∧ Ex H5 H' ∧ H5 sd = none ∧ (∀ a ∈ ts, H5 a.2.1 = none ∧ H5 a.2.2 = none) ∧ H' sd = some (.lst (ts.map fun a => V.ref a.1)) ∧ BlocksAt H' ts (blocksOf rows m w), ?_, ?_⟩
  · exact ⟨_, rfl, p, as, rows, m, w, rfl, d.ok T5, fun sd ts H6 nsd nts e6 hsd hB => ⟨sd, ts, rfl, e6, nsd, nts, hsd, hB⟩⟩
  rintro σ' H6 ⟨sd, ts, rfl, e6, nsd, nts, hsd, hB⟩
  have e46 := e5.trans e6
  have T6 := T5.ex e6
  have lts : ts.length ≤ 16 := by
    rw [Paired.length hB]
    have := blocks_len (g := Gr.joins (eRows rows m w m) id) (m := m) (w := w)
    unfold blocksOf
    omega
  refine q_when (b := false) (et_is (et_or (a := false) (b := false) (et_test (ev_op (ev_var (i := 7) rfl) (ev_var (i := 5) rfl) (rv_neB hsd hB (e46 _ _ hq) (hU.ex e46)))) (fun _ => et_is (et_or (a := false) (b := false) (et_is (et_test (ev_op (ev_str1 (ev_var (i := 3) rfl) T6 sA (by decide)) (ev_var (i := 4) rfl) (rv_ne rfl))) (by rw [decide_eq_true rfl]; rfl)) (fun _ => et_is (et_not (et_B (b := true) (ev_all (el_yes (a := sd) rfl hsd (by rw [List.length_map]; omega) (fun x G hx g => by
    obtain ⟨a, ha, rfl⟩ := List.mem_map.mp hx
    obtain ⟨b, hb, hh⟩ := paired_mem hB ha
    exact ev_isi (t := "tuple") (b := true) (ev_var rfl) ev_c (fun G2 g2 => .base (.tup (g2 _ _ (g _ _ hh.1)))) (by decide +kernel)) (fun x => rfl))))) rfl)) rfl)) rfl) (fun z => nomatch z) (fun _ H7 e7 => ?_)
  -- spoilt
  have nosd : ∀ a ∈ ts, ¬ (a.2.1 = sd ∨ a.2.2 = sd) := fun a ha z => by
    obtain ⟨b, hb, h1, h2, h3⟩ := paired_mem hB ha
    rcases z with z | z
    · rw [z, hsd] at h2
      exact no_mix (HO.lst.inj (Option.some.inj h2)) (List.mem_map.mpr ⟨a, ha, rfl⟩)
    · rw [z, hsd] at h3
      exact no_mix (HO.lst.inj (Option.some.inj h3)) (List.mem_map.mpr ⟨a, ha, rfl⟩)
  refine ⟨fun σ' H' => ∃ y8 y9 : Option V, σ' = [some (.ref a0), some (.int c), some (.ref s), some (.ref p), some (.str (tabD rows).shown), some (.ref q), some (.int (i : Int)), some (.ref sd), y8, y9, y10] ∧ Ex H5 H' ∧ ∃ xs, H' sd = some (.lst xs), ?_, ?_⟩
  · refine s_forL (xs := ts.map fun a => V.ref a.1) (ev_var (i := 7) rfl) (SqL.of (e7 _ _ hsd)) (fun j σ' H' => ∃ y8 y9 : Option V, σ' = [some (.ref a0), some (.int c), some (.ref s), some (.ref p), some (.str (tabD rows).shown), some (.ref q), some (.int (i : Int)), some (.ref sd), y8, y9, y10] ∧ Ex H5 H' ∧ H' sd = some (.lst (ts.map fun a => V.ref a.1)) ∧ SpAt H' ts (16 + 2 * j)) (fun H8 e8 => ⟨_, _, rfl, e6.trans (e7.trans e8), (e7.trans e8) _ _ hsd, fun a ha => ?_⟩) (fun j σ' H' _ ⟨_, _, _, _, h, _⟩ => SqL.of h) (fun j x σ' H8 hx hP => ?_) (fun σ' H8 ⟨_, _, h1, h2, h3, _⟩ => ⟨_, _, h1, h2, _, h3⟩)
    · obtain ⟨b, hb, h1, h2, h3⟩ := paired_mem (hB.ex (e7.trans e8)) ha
      unfold blocksOf Bk.blocksG at hb
      obtain ⟨f, _, rfl⟩ := List.mem_map.mp hb
      have := blk_len (p := fun x : Nat => Gr.joins (eRows rows m w m) id (x : Int) == Gr.joins (eRows rows m w m) id (f : Int)) (m := m) (w := w)
      exact ⟨h1, ⟨_, h2, by rw [List.length_map]; omega⟩, _, h3, by rw [List.length_map]; omega⟩
    · obtain ⟨y8, y9, rfl, e8, hs8, hall⟩ := hP
      have hj := (List.getElem?_eq_some_iff.mp hx).1
      rw [List.length_map] at hj
      obtain ⟨a, ha, rfl⟩ := List.mem_map.mp (List.mem_of_getElem? hx)
      obtain ⟨h1, ⟨xs, h2, l2⟩, zs, h3, l3⟩ := hall a ha
      refine ⟨a.1, _, rfl, SqT.of h1, rfl, _, _, rfl, _, _, rfl, rfl, ?_⟩
      refine q_app (l := a.2.1) h2 (ev_var (i := 8) rfl) ev_c (by omega) fun H9 e9 => ?_
      have S1 := hall.put e9 (x := a.2.1) (vs := xs ++ [.int 9]) ⟨_, h2⟩ (by rw [List.length_append]; show xs.length + 1 ≤ _; omega)
      obtain ⟨_, _, zs1, g3, l4⟩ := S1 a ha
      refine ⟨_, rfl, .inl ⟨rfl, _, SqL.of g3⟩, a.2.2, zs1, rfl, rfl, g3, _, _, rfl, ?_, ?_, ?_⟩
      · exact Ex.mut (Ex.mut (e8.trans e9) (nts a ha).1) (nts a ha).2
      · have n1 : sd ≠ a.2.1 := fun z => nosd a ha (.inl z.symm)
        have n2 : sd ≠ a.2.2 := fun z => nosd a ha (.inr z.symm)
        rw [upd_ne n2, upd_ne n1]
        exact e9 _ _ hs8
      · exact S1.put (Ex.refl _) (x := a.2.2) (vs := []) ⟨_, g3⟩ (Nat.zero_le _)
  rintro σ' H8 ⟨y8, y9, rfl, e8, xs, hs8⟩
  refine ⟨_, rfl, .inl ⟨rfl, _, SqL.of hs8⟩, sd, xs, rfl, rfl, hs8, _, _, _, _, rfl, Ex.mut (e5.trans e8) (fresh_back e5 nsd)⟩
end
/-! ### what the top has written; the end -/
theorem all_mk {P : Program} {w : World} {K : PySem.W.Frag} {h : Heap} {mg : Str → Option Value} {fa : Addr} (X : K.In h) (G : h.Ns mainGlobals mg) (hfa : mg "law" = some (.ref fa))
    {f1 : Addr} {od1 an1 : Option Addr} {sl1 : Array (Option Value)} {oc1 kV1 dc1 pm1 cd1 ct1 : Value}
    (a1 : PySem.W.nsIn K mainGlobals "is_whole" = some (some (.ref f1))) (l1 : K.lookup f1 = some ⟨oc1, od1, .func (PySem.W.fnOf "is_whole" "is_whole" (defArgs s_is_whole) (defBody s_is_whole) (defScope s_is_whole) (.none) kV1 dc1 pm1 an1 cd1 ct1), sl1⟩) (c1 : PySem.W.codeIn K cd1 "is_whole" = true) (k1 : PySem.W.keepIn K (.ref f1) = true)
    {f2 : Addr} {od2 an2 : Option Addr} {sl2 : Array (Option Value)} {oc2 kV2 dc2 pm2 cd2 ct2 : Value}
    (a2 : PySem.W.nsIn K mainGlobals "is_table" = some (some (.ref f2))) (l2 : K.lookup f2 = some ⟨oc2, od2, .func (PySem.W.fnOf "is_table" "is_table" (defArgs s_is_table) (defBody s_is_table) (defScope s_is_table) (.none) kV2 dc2 pm2 an2 cd2 ct2), sl2⟩) (c2 : PySem.W.codeIn K cd2 "is_table" = true) (k2 : PySem.W.keepIn K (.ref f2) = true)
    {f3 : Addr} {od3 an3 : Option Addr} {sl3 : Array (Option Value)} {oc3 kV3 dc3 pm3 cd3 ct3 : Value}
    (a3 : PySem.W.nsIn K mainGlobals "is_row" = some (some (.ref f3))) (l3 : K.lookup f3 = some ⟨oc3, od3, .func (PySem.W.fnOf "is_row" "is_row" (defArgs s_is_row) (defBody s_is_row) (defScope s_is_row) (.none) kV3 dc3 pm3 an3 cd3 ct3), sl3⟩) (c3 : PySem.W.codeIn K cd3 "is_row" = true) (k3 : PySem.W.keepIn K (.ref f3) = true)
    {f4 : Addr} {od4 an4 : Option Addr} {sl4 : Array (Option Value)} {oc4 kV4 dc4 pm4 cd4 ct4 : Value}
    (a4 : PySem.W.nsIn K mainGlobals "check_table" = some (some (.ref f4))) (l4 : K.lookup f4 = some ⟨oc4, od4, .func (PySem.W.fnOf "check_table" "check_table" (defArgs s_check_table) (defBody s_check_table) (defScope s_check_table) (.none) kV4 dc4 pm4 an4 cd4 ct4), sl4⟩) (c4 : PySem.W.codeIn K cd4 "check_table" = true) (k4 : PySem.W.keepIn K (.ref f4) = true)
    {f5 : Addr} {od5 an5 : Option Addr} {sl5 : Array (Option Value)} {oc5 kV5 dc5 pm5 cd5 ct5 : Value}
    (a5 : PySem.W.nsIn K mainGlobals "shape" = some (some (.ref f5))) (l5 : K.lookup f5 = some ⟨oc5, od5, .func (PySem.W.fnOf "shape" "shape" (defArgs s_shape) (defBody s_shape) (defScope s_shape) (.none) kV5 dc5 pm5 an5 cd5 ct5), sl5⟩) (c5 : PySem.W.codeIn K cd5 "shape" = true) (k5 : PySem.W.keepIn K (.ref f5) = true)
    {f6 : Addr} {od6 an6 : Option Addr} {sl6 : Array (Option Value)} {oc6 kV6 dc6 pm6 cd6 ct6 : Value}
    (a6 : PySem.W.nsIn K mainGlobals "joined" = some (some (.ref f6))) (l6 : K.lookup f6 = some ⟨oc6, od6, .func (PySem.W.fnOf "joined" "joined" (defArgs s_joined) (defBody s_joined) (defScope s_joined) (.none) kV6 dc6 pm6 an6 cd6 ct6), sl6⟩) (c6 : PySem.W.codeIn K cd6 "joined" = true) (k6 : PySem.W.keepIn K (.ref f6) = true)
    {f7 : Addr} {od7 an7 : Option Addr} {sl7 : Array (Option Value)} {oc7 kV7 dc7 pm7 cd7 ct7 : Value}
    (a7 : PySem.W.nsIn K mainGlobals "beside" = some (some (.ref f7))) (l7 : K.lookup f7 = some ⟨oc7, od7, .func (PySem.W.fnOf "beside" "beside" (defArgs s_beside) (defBody s_beside) (defScope s_beside) (.none) kV7 dc7 pm7 an7 cd7 ct7), sl7⟩) (c7 : PySem.W.codeIn K cd7 "beside" = true) (k7 : PySem.W.keepIn K (.ref f7) = true)
    {f8 : Addr} {od8 an8 : Option Addr} {sl8 : Array (Option Value)} {oc8 kV8 dc8 pm8 cd8 ct8 : Value}
    (a8 : PySem.W.nsIn K mainGlobals "summed" = some (some (.ref f8))) (l8 : K.lookup f8 = some ⟨oc8, od8, .func (PySem.W.fnOf "summed" "summed" (defArgs s_summed) (defBody s_summed) (defScope s_summed) (.none) kV8 dc8 pm8 an8 cd8 ct8), sl8⟩) (c8 : PySem.W.codeIn K cd8 "summed" = true) (k8 : PySem.W.keepIn K (.ref f8) = true)
    {f9 : Addr} {od9 an9 : Option Addr} {sl9 : Array (Option Value)} {oc9 kV9 dc9 pm9 cd9 ct9 : Value}
    (a9 : PySem.W.nsIn K mainGlobals "parts" = some (some (.ref f9))) (l9 : K.lookup f9 = some ⟨oc9, od9, .func (PySem.W.fnOf "parts" "parts" (defArgs s_parts) (defBody s_parts) (defScope s_parts) (.none) kV9 dc9 pm9 an9 cd9 ct9), sl9⟩) (c9 : PySem.W.codeIn K cd9 "parts" = true) (k9 : PySem.W.keepIn K (.ref f9) = true)
    {f10 : Addr} {od10 an10 : Option Addr} {sl10 : Array (Option Value)} {oc10 kV10 dc10 pm10 cd10 ct10 : Value}
    (a10 : PySem.W.nsIn K mainGlobals "_law_source_of" = some (some (.ref f10))) (l10 : K.lookup f10 = some ⟨oc10, od10, .func (PySem.W.fnOf "_law_source_of" "_law_source_of" (defArgs s__law_source_of) (defBody s__law_source_of) (defScope s__law_source_of) (.none) kV10 dc10 pm10 an10 cd10 ct10), sl10⟩) (c10 : PySem.W.codeIn K cd10 "_law_source_of" = true) (k10 : PySem.W.keepIn K (.ref f10) = true)
    {f11 : Addr} {od11 an11 : Option Addr} {sl11 : Array (Option Value)} {oc11 kV11 dc11 pm11 cd11 ct11 : Value}
    (a11 : PySem.W.nsIn K mainGlobals "_law_next" = some (some (.ref f11))) (l11 : K.lookup f11 = some ⟨oc11, od11, .func (PySem.W.fnOf "_law_next" "_law_next" (defArgs s__law_next) (defBody s__law_next) (defScope s__law_next) (.none) kV11 dc11 pm11 an11 cd11 ct11), sl11⟩) (c11 : PySem.W.codeIn K cd11 "_law_next" = true) (k11 : PySem.W.keepIn K (.ref f11) = true)
    {f12 : Addr} {od12 an12 : Option Addr} {sl12 : Array (Option Value)} {oc12 kV12 dc12 pm12 cd12 ct12 : Value}
    (a12 : PySem.W.nsIn K mainGlobals "_law_one" = some (some (.ref f12))) (l12 : K.lookup f12 = some ⟨oc12, od12, .func (PySem.W.fnOf "_law_one" "_law_one" (defArgs s__law_one) (defBody s__law_one) (defScope s__law_one) (.none) kV12 dc12 pm12 an12 cd12 ct12), sl12⟩) (c12 : PySem.W.codeIn K cd12 "_law_one" = true) (k12 : PySem.W.keepIn K (.ref f12) = true)
    {f13 : Addr} {od13 an13 : Option Addr} {sl13 : Array (Option Value)} {oc13 kV13 dc13 pm13 cd13 ct13 : Value}
    (a13 : PySem.W.nsIn K mainGlobals "_law_cell_at" = some (some (.ref f13))) (l13 : K.lookup f13 = some ⟨oc13, od13, .func (PySem.W.fnOf "_law_cell_at" "_law_cell_at" (defArgs s__law_cell_at) (defBody s__law_cell_at) (defScope s__law_cell_at) (.none) kV13 dc13 pm13 an13 cd13 ct13), sl13⟩) (c13 : PySem.W.codeIn K cd13 "_law_cell_at" = true) (k13 : PySem.W.keepIn K (.ref f13) = true)
    {f14 : Addr} {od14 an14 : Option Addr} {sl14 : Array (Option Value)} {oc14 kV14 dc14 pm14 cd14 ct14 : Value}
    (a14 : PySem.W.nsIn K mainGlobals "_law_mixed" = some (some (.ref f14))) (l14 : K.lookup f14 = some ⟨oc14, od14, .func (PySem.W.fnOf "_law_mixed" "_law_mixed" (defArgs s__law_mixed) (defBody s__law_mixed) (defScope s__law_mixed) (.none) kV14 dc14 pm14 an14 cd14 ct14), sl14⟩) (c14 : PySem.W.codeIn K cd14 "_law_mixed" = true) (k14 : PySem.W.keepIn K (.ref f14) = true)
    {f15 : Addr} {od15 an15 : Option Addr} {sl15 : Array (Option Value)} {oc15 kV15 dc15 pm15 cd15 ct15 : Value}
    (a15 : PySem.W.nsIn K mainGlobals "_law_any" = some (some (.ref f15))) (l15 : K.lookup f15 = some ⟨oc15, od15, .func (PySem.W.fnOf "_law_any" "_law_any" (defArgs s__law_any) (defBody s__law_any) (defScope s__law_any) (.none) kV15 dc15 pm15 an15 cd15 ct15), sl15⟩) (c15 : PySem.W.codeIn K cd15 "_law_any" = true) (k15 : PySem.W.keepIn K (.ref f15) = true)
    {f16 : Addr} {od16 an16 : Option Addr} {sl16 : Array (Option Value)} {oc16 kV16 dc16 pm16 cd16 ct16 : Value}
    (a16 : PySem.W.nsIn K mainGlobals "_law_due" = some (some (.ref f16))) (l16 : K.lookup f16 = some ⟨oc16, od16, .func (PySem.W.fnOf "_law_due" "_law_due" (defArgs s__law_due) (defBody s__law_due) (defScope s__law_due) (.none) kV16 dc16 pm16 an16 cd16 ct16), sl16⟩) (c16 : PySem.W.codeIn K cd16 "_law_due" = true) (k16 : PySem.W.keepIn K (.ref f16) = true)
    {f17 : Addr} {od17 an17 : Option Addr} {sl17 : Array (Option Value)} {oc17 kV17 dc17 pm17 cd17 ct17 : Value}
    (a17 : PySem.W.nsIn K mainGlobals "_law_put" = some (some (.ref f17))) (l17 : K.lookup f17 = some ⟨oc17, od17, .func (PySem.W.fnOf "_law_put" "_law_put" (defArgs s__law_put) (defBody s__law_put) (defScope s__law_put) (.none) kV17 dc17 pm17 an17 cd17 ct17), sl17⟩) (c17 : PySem.W.codeIn K cd17 "_law_put" = true) (k17 : PySem.W.keepIn K (.ref f17) = true)
    {f18 : Addr} {od18 an18 : Option Addr} {sl18 : Array (Option Value)} {oc18 kV18 dc18 pm18 cd18 ct18 : Value}
    (a18 : PySem.W.nsIn K mainGlobals "law" = some (some (.ref f18))) (l18 : K.lookup f18 = some ⟨oc18, od18, .func (PySem.W.fnOf "law" "law" (defArgs s_law) (defBody s_law) (defScope s_law) (.none) kV18 dc18 pm18 an18 cd18 ct18), sl18⟩) (c18 : PySem.W.codeIn K cd18 "law" = true) (k18 : PySem.W.keepIn K (.ref f18) = true)
    (z_all : PySem.W.nsIn K mainGlobals "all" = some none)
    (z_bool : PySem.W.nsIn K mainGlobals "bool" = some none)
    (z_enumerate : PySem.W.nsIn K mainGlobals "enumerate" = some none)
    (z_int : PySem.W.nsIn K mainGlobals "int" = some none)
    (z_isinstance : PySem.W.nsIn K mainGlobals "isinstance" = some none)
    (z_len : PySem.W.nsIn K mainGlobals "len" = some none)
    (z_list : PySem.W.nsIn K mainGlobals "list" = some none)
    (z_min : PySem.W.nsIn K mainGlobals "min" = some none)
    (z_range : PySem.W.nsIn K mainGlobals "range" = some none)
    (z_set : PySem.W.nsIn K mainGlobals "set" = some none)
    (z_sorted : PySem.W.nsIn K mainGlobals "sorted" = some none)
    (z_str : PySem.W.nsIn K mainGlobals "str" = some none)
    (z_tuple : PySem.W.nsIn K mainGlobals "tuple" = some none)
    (z_zip : PySem.W.nsIn K mainGlobals "zip" = some none)
    {tk_MOST : Tok} (x_MOST : PySem.W.nsIn K mainGlobals "MOST" = some (some (.int 8 tk_MOST)))
    : ∀ (a : Addr) (s : Shared) (ns : List Int), ns.length ≤ 63 → Own.Asked P w K mg fa a ns s := by
  have e := hfa.symm.trans (PySem.W.mg_of X G a18)
  cases e
  have F1 := fun_mk (st := s_is_whole) l1 c1 k1
  have b1 := F1.binds (ps := ["thing"]) fun _ _ _ _ _ _ us hl => match us, hl with | [_], _ => rfl
  have F2 := fun_mk (st := s_is_table) l2 c2 k2
  have b2 := F2.binds (ps := ["thing"]) fun _ _ _ _ _ _ us hl => match us, hl with | [_], _ => rfl
  have F3 := fun_mk (st := s_is_row) l3 c3 k3
  have b3 := F3.binds (ps := ["thing"]) fun _ _ _ _ _ _ us hl => match us, hl with | [_], _ => rfl
  have F4 := fun_mk (st := s_check_table) l4 c4 k4
  have b4 := F4.binds (ps := ["thing"]) fun _ _ _ _ _ _ us hl => match us, hl with | [_], _ => rfl
  have F5 := fun_mk (st := s_shape) l5 c5 k5
  have b5 := F5.binds (ps := ["table"]) fun _ _ _ _ _ _ us hl => match us, hl with | [_], _ => rfl
  have F6 := fun_mk (st := s_joined) l6 c6 k6
  have b6 := F6.binds (ps := ["groups", "one", "other"]) fun _ _ _ _ _ _ us hl => match us, hl with | [_, _, _], _ => rfl
  have F7 := fun_mk (st := s_beside) l7 c7 k7
  have b7 := F7.binds (ps := ["one", "other"]) fun _ _ _ _ _ _ us hl => match us, hl with | [_, _], _ => rfl
  have F8 := fun_mk (st := s_summed) l8 c8 k8
  have b8 := F8.binds (ps := ["left", "upper", "across", "lower", "along", "right"]) fun _ _ _ _ _ _ us hl => match us, hl with | [_, _, _, _, _, _], _ => rfl
  have F9 := fun_mk (st := s_parts) l9 c9 k9
  have b9 := F9.binds (ps := ["table"]) fun _ _ _ _ _ _ us hl => match us, hl with | [_], _ => rfl
  have F10 := fun_mk (st := s__law_source_of) l10 c10 k10
  have b10 := F10.binds (ps := ["_law_cell"]) fun _ _ _ _ _ _ us hl => match us, hl with | [_], _ => rfl
  have F11 := fun_mk (st := s__law_next) l11 c11 k11
  have b11 := F11.binds (ps := ["_law_source", "_law_many"]) fun _ _ _ _ _ _ us hl => match us, hl with | [_, _], _ => rfl
  have F12 := fun_mk (st := s__law_one) l12 c12 k12
  have b12 := F12.binds (ps := ["_law_source", "_law_some"]) fun _ _ _ _ _ _ us hl => match us, hl with | [_, _], _ => rfl
  have F13 := fun_mk (st := s__law_cell_at) l13 c13 k13
  have b13 := F13.binds (ps := ["_law_script", "_law_k"]) fun _ _ _ _ _ _ us hl => match us, hl with | [_, _], _ => rfl
  have F14 := fun_mk (st := s__law_mixed) l14 c14 k14
  have b14 := F14.binds (ps := ["_law_source", "_law_some"]) fun _ _ _ _ _ _ us hl => match us, hl with | [_, _], _ => rfl
  have F15 := fun_mk (st := s__law_any) l15 c15 k15
  have b15 := F15.binds (ps := ["_law_source", "_law_most"]) fun _ _ _ _ _ _ us hl => match us, hl with | [_, _], _ => rfl
  have F16 := fun_mk (st := s__law_due) l16 c16 k16
  have b16 := F16.binds (ps := ["_law_table"]) fun _ _ _ _ _ _ us hl => match us, hl with | [_], _ => rfl
  have F17 := fun_mk (st := s__law_put) l17 c17 k17
  have b17 := F17.binds (ps := ["_law_source"]) fun _ _ _ _ _ _ us hl => match us, hl with | [_], _ => rfl
  have F18 := fun_mk (st := s_law) l18 c18 k18
  have b18 := F18.binds (ps := ["_law_script"]) fun _ _ _ _ _ _ us hl => match us, hl with | [_], _ => rfl
  let T : Txt K mg := {
    f_is_whole := f1, fd_is_whole := _, F_is_whole := F1, g_is_whole := PySem.W.mg_of X G a1, k_is_whole := k1, b_is_whole := b1,
    f_is_table := f2, fd_is_table := _, F_is_table := F2, g_is_table := PySem.W.mg_of X G a2, k_is_table := k2, b_is_table := b2,
    f_is_row := f3, fd_is_row := _, F_is_row := F3, g_is_row := PySem.W.mg_of X G a3, k_is_row := k3, b_is_row := b3,
    f_check_table := f4, fd_check_table := _, F_check_table := F4, g_check_table := PySem.W.mg_of X G a4, k_check_table := k4, b_check_table := b4,
    f_shape := f5, fd_shape := _, F_shape := F5, g_shape := PySem.W.mg_of X G a5, k_shape := k5, b_shape := b5,
    f_joined := f6, fd_joined := _, F_joined := F6, g_joined := PySem.W.mg_of X G a6, k_joined := k6, b_joined := b6,
    f_beside := f7, fd_beside := _, F_beside := F7, g_beside := PySem.W.mg_of X G a7, k_beside := k7, b_beside := b7,
    f_summed := f8, fd_summed := _, F_summed := F8, g_summed := PySem.W.mg_of X G a8, k_summed := k8, b_summed := b8,
    f_parts := f9, fd_parts := _, F_parts := F9, g_parts := PySem.W.mg_of X G a9, k_parts := k9, b_parts := b9,
    f__law_source_of := f10, fd__law_source_of := _, F__law_source_of := F10, g__law_source_of := PySem.W.mg_of X G a10, k__law_source_of := k10, b__law_source_of := b10,
    f__law_next := f11, fd__law_next := _, F__law_next := F11, g__law_next := PySem.W.mg_of X G a11, k__law_next := k11, b__law_next := b11,
    f__law_one := f12, fd__law_one := _, F__law_one := F12, g__law_one := PySem.W.mg_of X G a12, k__law_one := k12, b__law_one := b12,
    f__law_cell_at := f13, fd__law_cell_at := _, F__law_cell_at := F13, g__law_cell_at := PySem.W.mg_of X G a13, k__law_cell_at := k13, b__law_cell_at := b13,
    f__law_mixed := f14, fd__law_mixed := _, F__law_mixed := F14, g__law_mixed := PySem.W.mg_of X G a14, k__law_mixed := k14, b__law_mixed := b14,
    f__law_any := f15, fd__law_any := _, F__law_any := F15, g__law_any := PySem.W.mg_of X G a15, k__law_any := k15, b__law_any := b15,
    f__law_due := f16, fd__law_due := _, F__law_due := F16, g__law_due := PySem.W.mg_of X G a16, k__law_due := k16, b__law_due := b16,
    f__law_put := f17, fd__law_put := _, F__law_put := F17, g__law_put := PySem.W.mg_of X G a17, k__law_put := k17, b__law_put := b17,
    f_law := fa, fd_law := _, F_law := F18, g_law := PySem.W.mg_of X G a18, k_law := k18, b_law := b18,
    n_all := PySem.W.mg_none_of X G z_all,
    n_bool := PySem.W.mg_none_of X G z_bool,
    n_enumerate := PySem.W.mg_none_of X G z_enumerate,
    n_int := PySem.W.mg_none_of X G z_int,
    n_isinstance := PySem.W.mg_none_of X G z_isinstance,
    n_len := PySem.W.mg_none_of X G z_len,
    n_list := PySem.W.mg_none_of X G z_list,
    n_min := PySem.W.mg_none_of X G z_min,
    n_range := PySem.W.mg_none_of X G z_range,
    n_set := PySem.W.mg_none_of X G z_set,
    n_sorted := PySem.W.mg_none_of X G z_sorted,
    n_str := PySem.W.mg_none_of X G z_str,
    n_tuple := PySem.W.mg_none_of X G z_tuple,
    n_zip := PySem.W.mg_none_of X G z_zip,
    t_MOST := tk_MOST, g_MOST := PySem.W.mg_of X G x_MOST }
  exact fun a s ns hl root G inR gl env hS => run_law (base := root) T env ⟨a, ns, rfl, hS, hl, fun _ => rfl⟩
end SbE68
open PySem PySem.W PyProof.Rows
set_option maxRecDepth 100000 in
set_option maxHeartbeats 0 in
theorem PySem.Challenge.cw_signbook_k68_blocks_holds : PySem.Challenge.rw_signbook_k68_blocks.Holds := by
  w_on; o_law; k_head; (case hw => w_witness2)
  k_fill
  refine Own.walk_asked (l := PySem.Challenge.rw_signbook_k68_blocks) (n := 63) rfl (by decide) rfl (fun w h Y => PySem.W.kIn_of Y) ?F
  case F =>
    intro w mg fa a s ns KX G hmg hl
    refine' SbE68.all_mk KX G hmg ?a1 ?l1 ?c1 ?k1 ?a2 ?l2 ?c2 ?k2 ?a3 ?l3 ?c3 ?k3 ?a4 ?l4 ?c4 ?k4 ?a5 ?l5 ?c5 ?k5 ?a6 ?l6 ?c6 ?k6 ?a7 ?l7 ?c7 ?k7 ?a8 ?l8 ?c8 ?k8 ?a9 ?l9 ?c9 ?k9 ?a10 ?l10 ?c10 ?k10 ?a11 ?l11 ?c11 ?k11 ?a12 ?l12 ?c12 ?k12 ?a13 ?l13 ?c13 ?k13 ?a14 ?l14 ?c14 ?k14 ?a15 ?l15 ?c15 ?k15 ?a16 ?l16 ?c16 ?k16 ?a17 ?l17 ?c17 ?k17 ?a18 ?l18 ?c18 ?k18 ?z_all ?z_bool ?z_enumerate ?z_int ?z_isinstance ?z_len ?z_list ?z_min ?z_range ?z_set ?z_sorted ?z_str ?z_tuple ?z_zip ?x_MOST a s ns hl
    (case a1 => k_is)
    (case l1 => k_is)
    (case c1 => k_is)
    (case k1 => k_is)
    (case a2 => k_is)
    (case l2 => k_is)
    (case c2 => k_is)
    (case k2 => k_is)
    (case a3 => k_is)
    (case l3 => k_is)
    (case c3 => k_is)
    (case k3 => k_is)
    (case a4 => k_is)
    (case l4 => k_is)
    (case c4 => k_is)
    (case k4 => k_is)
    (case a5 => k_is)
    (case l5 => k_is)
    (case c5 => k_is)
    (case k5 => k_is)
    (case a6 => k_is)
    (case l6 => k_is)
    (case c6 => k_is)
    (case k6 => k_is)
    (case a7 => k_is)
    (case l7 => k_is)
    (case c7 => k_is)
    (case k7 => k_is)
    (case a8 => k_is)
    (case l8 => k_is)
    (case c8 => k_is)
    (case k8 => k_is)
    (case a9 => k_is)
    (case l9 => k_is)
    (case c9 => k_is)
    (case k9 => k_is)
    (case a10 => k_is)
    (case l10 => k_is)
    (case c10 => k_is)
    (case k10 => k_is)
    (case a11 => k_is)
    (case l11 => k_is)
    (case c11 => k_is)
    (case k11 => k_is)
    (case a12 => k_is)
    (case l12 => k_is)
    (case c12 => k_is)
    (case k12 => k_is)
    (case a13 => k_is)
    (case l13 => k_is)
    (case c13 => k_is)
    (case k13 => k_is)
    (case a14 => k_is)
    (case l14 => k_is)
    (case c14 => k_is)
    (case k14 => k_is)
    (case a15 => k_is)
    (case l15 => k_is)
    (case c15 => k_is)
    (case k15 => k_is)
    (case a16 => k_is)
    (case l16 => k_is)
    (case c16 => k_is)
    (case k16 => k_is)
    (case a17 => k_is)
    (case l17 => k_is)
    (case c17 => k_is)
    (case k17 => k_is)
    (case a18 => k_is)
    (case l18 => k_is)
    (case c18 => k_is)
    (case k18 => k_is)
    (case z_all => k_is)
    (case z_bool => k_is)
    (case z_enumerate => k_is)
    (case z_int => k_is)
    (case z_isinstance => k_is)
    (case z_len => k_is)
    (case z_list => k_is)
    (case z_min => k_is)
    (case z_range => k_is)
    (case z_set => k_is)
    (case z_sorted => k_is)
    (case z_str => k_is)
    (case z_tuple => k_is)
    (case z_zip => k_is)
    (case x_MOST => k_is)
