import PyProof.Rows.All
import Wide.All
import OpenK.AllK
import Wide.FinOn
import PyProof.EqAt
import PyProof.EqKinds
import PyProof.TupleCall
import HandS.ForMost
import HandS.Evl
import HandS.Wide
import HandS.Gcd
import HandS.IsInst
import HandS.Defaults
import HandS.Zip
import HandS.Conv
import HandS.Style
import HandS.TryOnly
import PyProof.ReprRoads
import HandS.Lambda
import HandS.Ends
import HandS.Words
import HandS.Flow
import HandS.List
import PyProof.LongRange
import PyProof.ListRange
import PyProof.ReprLen
import PyProof.CallFns
import PySem.Challenge.RW_signbook_k47_halves_of_whole_numbers
set_option Elab.async false
set_option linter.all false
set_option maxRecDepth 100000
set_option maxHeartbeats 2000000
namespace Own
open PySem PySem.Spec PyProof.Rows L2
/-! str and repr of nested lists: where nothing is being shown around (the law's own def, called by the caller) -/
def rShown (K : PySem.W.Frag) : List V → Hp → VK → Prop := fun xs H Q => ∃ a d, xs = [V.ref a] ∧ Dp K H (.ref a) d ∧ d.showable = true ∧ d.hasDict = false ∧ d.depth ≤ 50 ∧ d.shown.length ≤ sizeLine ∧ Q (.str d.shown) H
section
variable {X : Cx}
theorem str_shown (free : X.A.guards = some []) (room : X.A.units + 64 < cLine) : CallR X (.type "str") (rShown X.K) := by
  intro pn s0 sl G ys ws R J rel told
  obtain ⟨b, dd, rfl, hD, showT, noD, hdep, hlen, fin⟩ := told
  obtain ⟨w1, rfl, hw1⟩ := vals1 rel
  cases hw1
  obtain ⟨cs, hreads⟩ := Dp.reads J dd _ _ hD rfl
  refine str_of_reads hreads showT (PyData.noDict_hsm noD) free (by omega) (fun _ _ z => z) (fun g2 tx tk keep => ?_) hlen
  exact ⟨.str dd.shown, G, J.kept (t' := tk) keep, ⟨tx, rfl⟩, fin⟩
theorem repr_shown (free : X.A.guards = some []) (room : X.A.units + 64 < cLine) : CallR X (.builtin "repr") (rShown X.K) := by
  intro pn s0 sl G ys ws R J rel told
  obtain ⟨b, dd, rfl, hD, showT, noD, hdep, hlen, fin⟩ := told
  obtain ⟨w1, rfl, hw1⟩ := vals1 rel
  cases hw1
  obtain ⟨cs, hreads⟩ := Dp.reads J dd _ _ hD rfl
  refine repr_of_reads' hreads showT (PyData.noDict_hsm noD) free (by omega) (fun _ _ z => z) (fun g2 tx tk keep => ?_) hlen
  exact ⟨.str dd.shown, G, J.kept (t' := tk) keep, ⟨tx, rfl⟩, fin⟩
end
/-- what the caller asks of the law's def, at the caller's own place: with that, the promise of the whole -/
def Asked (P : Program) (w : World) (K : PySem.W.Frag) (mg : Str → Option Value) (fa a : Addr) (ns : List Int) (s : Shared) : Prop :=
  ∀ (root : Heap) (G : Hp), K.In root → root.Ns mainGlobals mg → Env0 P w K mg root callerA [] s G → SqL K G a (ns.map V.int) →
    codeAny (model P w) callerA (.call (.ref fa) ⟨[.ref a], []⟩) (CR CX0 [] P w G s (fun v _ => v = .bl true) fun _ _ _ => False) s
theorem asked_all {P : Program} {w : World} {K : PySem.W.Frag} {mg bt : Str → Option Value} {fa a : Addr} {s : Shared} {us : List Value} {ns : List Int} (inK : K.In s.heap) (glob : s.heap.Ns mainGlobals mg) (blt : s.heap.Ns builtinsNs bt)
    (boot : ∀ y : Str, y ≠ "__name__" → bt y = bootBuiltins y) (nolim : s.heap.NoLimit) (gens : s.gens = #[]) (script : s.heap.get? a = some { cls := .type "list", data := .seq us.toArray }) (entries : IntsAre us ns) (len : ns.length ≤ sizeLine)
    (ask : Asked P w K mg fa a ns s) : codeAny (model P w) callerA (.call (.ref fa) ⟨[.ref a], []⟩) (fun r t => r = .ok (.ret (.bool true)) ∧ OldK s.heap t.heap ∧ t.os = s.os ∧ AllBare t.gens) s := by
  -- the heap of what is followed: the script alone, or nothing where the module holds it
  obtain ⟨G, lone, seen, okG, frozen, apart⟩ : ∃ G : Hp, (∀ b, G b ≠ none → b = a) ∧ SqL K G a (ns.map V.int) ∧ HOk P w G s.heap ∧ (∀ b u, G b = some u → ∃ o xs, u = .frz o (.lst xs)) ∧ (G a ≠ none → K.lookup a = none) := by
    cases look : K.lookup a with
    | some o =>
      have here := inK a o look
      rw [script] at here
      cases here
      exact ⟨fun _ => none, fun b z => absurd rfl z, .inr ⟨_, us.toArray, _, look, rfl, rfl, rfl, by rw [List.size_toArray, entries.length]; exact len, by simpa using vals_ints entries⟩, fun b u z => absurd (show (none : Option HO) = some u from z) (by simp), fun b u z => absurd (show (none : Option HO) = some u from z) (by simp), fun z => absurd rfl z⟩
    | none =>
      have only : ∀ b u, (if b = a then some (HO.frz { cls := .type "list", data := .seq us.toArray } (.lst (ns.map V.int))) else none) = some u → b = a ∧ u = .frz { cls := .type "list", data := .seq us.toArray } (.lst (ns.map V.int)) := fun b u z => by
        by_cases same : b = a
        · rw [if_pos same] at z
          exact ⟨same, (Option.some.inj z).symm⟩
        · rw [if_neg same] at z
          cases z
      refine ⟨fun b => if b = a then some (.frz { cls := .type "list", data := .seq us.toArray } (.lst (ns.map V.int))) else none, fun b z => ?_, .inl (.inr ⟨{ cls := .type "list", data := .seq us.toArray }, if_pos rfl⟩), fun b u z => ?_, fun b u z => ⟨_, _, (only b u z).2⟩, fun _ => rfl⟩
      · by_cases same : b = a
        · exact same
        · exact absurd (if_neg same) z
      · obtain ⟨rfl, rfl⟩ := only b u z
        exact ⟨script, by rw [List.length_map]; exact len, us, _, vals_ints entries, script⟩
  have hide : ∀ {b : Addr} {o : Obj}, s.heap.get? b = some o → G b = none → (hidT s.heap G).get? b = some o := fun there none => hidT_get there none
  have dicts : ∀ {b : Addr} {o : Obj} {es : Array DictEntry} {ep : Nat}, s.heap.get? b = some o → o.data = .dict es ep → G b = none := fun {b o es ep} there isD => by
    by_cases none : G b = none
    · exact none
    · have same := lone b none
      rw [same, script] at there
      cases there
      cases isD
  have spaces : ∀ {b : Addr} {m : Str → Option Value}, s.heap.Ns b m → (hidT s.heap G).Ns b m := fun {b m} ⟨o, es, ep, there, isD, rest⟩ => ⟨o, es, ep, hide there (dicts there isD), isD, rest⟩
  have inRoot : K.In (hidT s.heap G) := fun b o look => hide (inK b o look) (by
    by_cases none : G b = none
    · exact none
    · have same := lone b none
      rw [same] at none look
      rw [apart none] at look
      cases look)
  obtain ⟨lims, limNs, limNo⟩ := nolim
  have modOk : Mod K mg (hidT s.heap G) := ⟨inRoot, spaces glob, ⟨bt, spaces blt, boot⟩, ⟨lims, spaces limNs, limNo⟩⟩
  have env : Env0 P w K mg (hidT s.heap G) callerA [] s G := ⟨rfl, modOk, fun b o look => of_hidT look, Nat.le_of_eq (hidT_size _ _), trivial, fun b z => absurd (show b ∈ ([] : List Addr) from z) (by simp), okG, .of_eq gens⟩
  refine codeAny_mono (ask _ G inRoot (spaces glob) env seen) fun res t fin => ?_
  match res, fin with
  | .error _, fin => exact False.elim fin
  | .ok .next, fin => exact False.elim fin
  | .ok .brk, fin => exact False.elim fin
  | .ok .cont, fin => exact False.elim fin
  | .ok (.ret u), fin =>
    obtain ⟨v, G2, sameOs, bareG, unch, okG2, rel, isT⟩ := fin
    cases (show v = .bl true from isT)
    cases (show u = Value.bool true from rel)
    refine ⟨rfl, OldK.of_keep fun b o there => ?_, sameOs, bareG⟩
    cases gb : G b with
    | none => exact unch.keep b o there gb (fun z => absurd (show b ∈ ([] : List Addr) from z) (by simp)) (by simp)
    | some u =>
      obtain ⟨ob, xs, rfl⟩ := frozen b u gb
      have first := (okG b _ gb).1
      have later := (okG2 b _ (unch.frzs b ob _ gb)).1
      rw [there] at first
      cases first
      exact later
/-- in the place of a def's promise at every place: asked at the caller's -/
theorem walk_asked {l : PySem.W.OpenLaw} {n : Nat} {q : Program} {loose : List Str} {XP : (Str → Option Value) → Heap → Prop} {YP : World → Heap → Prop} {d : DefRec} {K : Params → PySem.W.Frag}
    (most : l.most = some n) (fits : n ≤ sizeLine) (plainArgs : d.params.defaults = []) (hY : ∀ (w : World) (h : Heap), YP w h → (K w.params).In h)
    (F : ∀ (w : World) (mg : Str → Option Value) (fa a : Addr) (s : Shared) (ns : List Int), (K w.params).In s.heap → s.heap.Ns mainGlobals mg → mg d.name = some (.ref fa) → ns.length ≤ n → Asked l.prog w (K w.params) mg fa a ns s) :
    PySem.W.WalkO q loose XP YP l.row.toRowW d [] (fun f vs => PySem.call f vs) := by
  refine Att.attach_call most plainArgs fun w s₀ s mg bt fa o pm cd doc a us ns Gr Yh _ _ _ named obj entries len gens => ?_
  have inK := hY w _ Yh
  exact asked_all inK Gr.T.g Gr.T.b Gr.T.builtins Gr.T.nolimit gens obj entries (Nat.le_trans len fits) (F w mg fa a s ns inK Gr.T.g named len)
end Own
namespace Own2
open PySem PySem.Spec PyProof.Rows L2
/-! repr of nested data, or of None -/
def rShown2 (K : PySem.W.Frag) : List V → Hp → VK → Prop := fun xs H Q => Own.rShown K xs H Q ∨ (xs = [.non] ∧ Q (.str "None") H)
variable {X : Cx}
theorem repr_shown2 (free : X.A.guards = some []) (room : X.A.units + 64 < cLine) : CallR X (.builtin "repr") (rShown2 X.K) := by
  intro pn s0 sl G ys ws R J rel told
  rcases told with told | ⟨rfl, fin⟩
  · exact Own.repr_shown free room pn s0 sl G ys ws R J rel told
  · obtain ⟨w1, rfl, hw1⟩ := vals1 rel
    cases hw1
    exact PySem.P.repr_of_none ⟨.str "None", G, J.tok _, ⟨_, rfl⟩, fin⟩
end Own2
/-! range(a, b) of whole numbers of any size, walked, and its list -/
namespace RgW
open PySem PySem.Spec PyProof.Rows L2
abbrev rgObj (lo hi : Int) (t u v : Tok) : Obj := { cls := .type "range", data := .fields #[.int lo t, .int hi u, .int 1 v] }
abbrev goer (lo hi : Int) : Obj := { cls := .type "longrange_iterator", data := .fields #[rawInt lo, rawInt (Builtin.Range.rangeSize lo hi 1), rawInt 1] }
theorem size_nat (lo hi : Int) : Builtin.Range.rangeSize lo hi 1 = ((hi - lo).toNat : Int) := by
  rw [rangeSize_one]
  split <;> omega
section
variable {P : Program} {w : World} {A : Around} {E : Value → Shared → Prop} {st : Shared}
theorem extend_long {R : Result → Shared → Prop} {rr : Addr} {lo hi : Int} {t u v : Tok} (calm : A.handled = none) (isr : IsRange st.heap rr lo hi 1 t u v) (great : Builtin.Range.small lo hi 1 = false) (few : (hi - lo).toNat ≤ 2 ^ 24)
    (D : Addr) (ans : Value) (cap : Nat) (here : st.heap.get? D = some { cls := .type "list", data := .seq #[] cap })
    (go : ∀ g tk acc c2, (∀ b o, b ≠ D → st.heap.get? b = some o → g.get? b = some o) → g.get? D = some { cls := .type "list", dict := none, data := .seq acc c2, slots := #[] } → ItemsOf (fun i x => ∃ k, x = .int (lo + i * 1) k) acc (hi - lo).toNat → R (.ok (.ret ans)) { st with heap := g, toks := tk }) :
    wpAny (model P w) A.in1 (Builtin.List.listExtendWith (.ref D) (.ref rr) ans)
      (fun fin t2 => match fin with | .done f => R (.ok f) t2 | .again c2 => c2.quiet = true ∧ codeAny (model P w) A c2 R t2) (fun e t2 => R (.error e) t2) st := by
  have unlike : D ≠ rr := fun e => by
    rw [e, isr] at here
    simp at here
  have below := Heap.lt_size here
  have off : D ≠ st.heap.objs.size := Nat.ne_of_lt below
  have off1 : D ∉ [st.heap.objs.size] := fun z => off (List.mem_singleton.mp z)
  have walk := (Walks.longrange (prog := P) (w := w) (A := A.in1) calm st.heap.objs.size lo 1 (hi - lo).toNat).toS
  have rest : ∀ (g : Heap) (c1 tk : Nat), IsLongIter g st.heap.objs.size (lo + ((0 : Nat) : Int) * 1) (((hi - lo).toNat : Int) - ((0 : Nat) : Int)) 1 → (∀ b o, b ≠ D → st.heap.get? b = some o → g.get? b = some o) →
      g.get? D = some { cls := .type "list", data := .seq #[] c1 } → codeAny (model P w) A (.builtin "list.extend.loop" ⟨[.ref D, .ref st.heap.objs.size, ans], []⟩) R { st with heap := g, toks := tk } := by
    intro g c1 tk at0 keep there
    refine codeAny_extend_loopS walk (by rw [sizeLine_eq]; omega) D off1 ans (hi - lo).toNat 0 _ #[] c1 rfl (Nat.zero_le _) at0 there (ItemsOf.nil _) fun t2 acc c2 mv there2 items => ?_
    rw [Moved.eq_with mv]
    refine go t2.heap t2.toks acc c2 (fun b o nb e => mv.heap b o (fun z => ?_) (keep b o nb e)) there2 items
    rcases List.mem_cons.mp z with q | q
    · exact nb q
    · exact Nat.lt_irrefl _ (by have := Heap.lt_size e; rwa [List.mem_singleton.mp q] at this)
  unfold Builtin.List.listExtendWith
  refine wpAny_bind (wpAny_typeOf (T := "range") ⟨_, isr, rfl⟩ ?_)
  have n1 : Builtin.List.listSameRef (.ref D) (.ref rr) = false := by simp [Builtin.List.listSameRef, unlike]
  have n2 : (Value.type "range" == Value.type "list") = false := by decide
  have n3 : (Value.type "range" == Value.type "tuple") = false := by decide
  simp only [n1, n2, n3, Bool.or_false, Bool.false_eq_true, if_false]
  refine wpAny_bind (wpAny_pyIter_longrange isr great ?_)
  refine wpAny_bind (wpAny_holding (wpAny_hint_range (n := (hi - lo).toNat) (Heap.get?_push_of_some _ isr) (size_nat lo hi) few ?_))
  have first : IsLongIter (st.heap.push (goer lo hi)) st.heap.objs.size (lo + ((0 : Nat) : Int) * 1) (((hi - lo).toNat : Int) - ((0 : Nat) : Int)) 1 := by
    show IsLongIter _ _ _ _ _
    have e1 : lo + ((0 : Nat) : Int) * 1 = lo := by simp
    have e2 : ((hi - lo).toNat : Int) - ((0 : Nat) : Int) = Builtin.Range.rangeSize lo hi 1 := by rw [size_nat]; omega
    rw [e1, e2]
    exact Heap.get?_push_size _ rfl
  have there1 := Heap.get?_push_of_some (goer lo hi) here
  refine wpAny_ite_split (fun _ => ?_) (fun _ => wpAny_pure ⟨plainId_quiet F.plain_extend_loop _, rest _ cap _ first (fun b o _ e => Heap.get?_push_of_some _ e) there1⟩)
  refine wpAny_bind (wpAny_rule (wpAny_bind ?_))
  show wpAny _ _ (updateSeq D (·.push .none) >>= fun _ => updateSeq D (·.pop)) _ _ _
  refine wpAny_bind (wpAny_updateSeq there1 rfl ?_)
  have there2 := Heap.get?_update_self (Obj.mapSeq (·.push Value.none)) there1 rfl
  refine wpAny_updateSeq (hz := by seq_fits) there2 rfl ?_
  have there3 := Heap.get?_update_self (Obj.mapSeq (·.pop)) there2 rfl
  refine wpAny_pure ⟨plainId_quiet F.plain_extend_loop _, rest _ _ _ ?_ (fun b o nb e => ?_) there3⟩
  · exact (Heap.get?_update_other _ _ off).trans ((Heap.get?_update_other _ _ off).trans first)
  · exact (Heap.get?_update_other _ _ nb.symm).trans ((Heap.get?_update_other _ _ nb.symm).trans (Heap.get?_push_of_some _ e))
theorem init_long {R : Result → Shared → Prop} {rr : Addr} {lo hi : Int} {t u v : Tok} (calm : A.handled = none) (isr : IsRange st.heap rr lo hi 1 t u v) (great : Builtin.Range.small lo hi 1 = false) (few : (hi - lo).toNat ≤ 2 ^ 24)
    (D : Addr) (here : st.heap.get? D = some { cls := .type "list", data := .seq #[] })
    (go : ∀ g tk acc c2, (∀ b o, b ≠ D → st.heap.get? b = some o → g.get? b = some o) → g.get? D = some { cls := .type "list", dict := none, data := .seq acc c2, slots := #[] } → ItemsOf (fun i x => ∃ k, x = .int (lo + i * 1) k) acc (hi - lo).toNat → R (.ok (.ret .none)) { st with heap := g, toks := tk }) :
    wpAny (model P w) A.in1 (Builtin.«list.__init__» ⟨[.ref D, .ref rr], []⟩)
      (fun fin t2 => match fin with | .done f => R (.ok f) t2 | .again c2 => c2.quiet = true ∧ codeAny (model P w) A c2 R t2) (fun e t2 => R (.error e) t2) st := by
  have unlike : rr ≠ D := fun e => by
    rw [← e, isr] at here
    simp at here
  show wpAny _ _ (do let old ← Builtin.List.listItems (.ref D); Builtin.List.listUpdate (.ref D) (fun _ => #[]); letGo old.toList.reverse; Builtin.List.listExtendWith (.ref D) (.ref rr) .none) _ _ st
  refine wpAny_bind ?_
  unfold Builtin.List.listItems
  refine wpAny_bind (wpAny_seqItems here rfl (wpAny_pure ?_))
  show wpAny _ _ (updateSeq D (fun _ => #[]) >>= fun _ => letGo (#[] : Array Value).toList.reverse >>= fun _ => Builtin.List.listExtendWith (.ref D) (.ref rr) .none) _ _ st
  refine wpAny_bind (wpAny_updateSeq here rfl ?_)
  have there := Heap.get?_update_self (Obj.mapSeq (fun _ => (#[] : Array Value))) here rfl
  have same : ∀ b o, b ≠ D → st.heap.get? b = some o → (st.heap.update D (Obj.mapSeq (fun _ => (#[] : Array Value)))).get? b = some o := fun b o nb e => (Heap.get?_update_other _ _ nb.symm).trans e
  exact wpAny_bind (wpAny_letGo (extend_long calm (same rr _ unlike isr) great few D .none _ there fun g tk acc c2 keep new items => go g tk acc c2 (fun b o nb e => keep b o nb (same b o nb e)) new items))
theorem list_long {W : Value → Shared → Prop} {rr : Addr} {lo hi : Int} {t u v : Tok} (calm : A.handled = none) (isr : IsRange st.heap rr lo hi 1 t u v) (great : Builtin.Range.small lo hi 1 = false) (few : (hi - lo).toNat ≤ 2 ^ 24)
    (go : ∀ g tk acc c2, (∀ b o, st.heap.get? b = some o → g.get? b = some o) → g.get? st.heap.objs.size = some { cls := .type "list", dict := none, data := .seq acc c2, slots := #[] } → ItemsOf (fun i x => ∃ k, x = .int (lo + i * 1) k) acc (hi - lo).toNat → W (.ref st.heap.objs.size) { st with heap := g, toks := tk }) :
    wpAny (model P w) A (call (.type "list") [.ref rr]) W E st := by
  refine callType_codes (Q₁ := fun ob t1 => ob = .ref st.heap.objs.size ∧ t1 = { st with heap := st.heap.push { cls := .type "list", data := .seq #[] } }) F.called_list (F.typeCall_list_1 _) F.entry_list_init (code_list_new _ ⟨rfl, rfl⟩) fun ob t1 got => ?_
  obtain ⟨rfl, rfl⟩ := got
  have here : (st.heap.push { cls := .type "list", data := .seq #[] }).get? st.heap.objs.size = some { cls := .type "list", data := .seq #[] } := Heap.get?_push_size _ rfl
  exact ⟨⟨_, here, rfl⟩, F.args_list_init_2 _ _, init_long (A := A.in1) calm (Heap.get?_push_of_some _ isr) great few _ here fun g tk acc c2 keep new items => ⟨rfl, go g tk acc c2 (fun b o e => keep b o (Nat.ne_of_lt (Heap.lt_size e)) (Heap.get?_push_of_some _ e)) new items⟩⟩
end
theorem turn_long {P : Program} {w : World} {K : PySem.W.Frag} {tg : Expr} (it : Addr) (lo : Int) (n : Nat) : Turn P w K tg (Itr lo n) [it] it (fun i g => IsLongIter g it (lo + (i : Nat) * 1) ((n : Int) - (i : Nat)) 1) where
  mem := List.mem_singleton_self _
  obj := fun i g at_ b hb => by
    rw [List.mem_singleton.mp hb]
    exact ⟨_, at_, fun v z => by
      have q : Data.fields _ = Data.cell v := z
      cases q⟩
  keep := fun i g g2 at_ same => same it (List.mem_singleton_self _) _ at_
  item := by
    intro X eP ew eK calm i pins s σ H E I fp at_ more
    subst eP ew eK
    obtain ⟨f0, f1, f2, f3, f4, f5⟩ := fp it (List.mem_singleton_self _)
    refine (Walks.longrange (prog := X.prog) (w := X.w) (I.ok.hd calm) it lo 1 n).item i s _ _ more at_ fun x g tk isx at2 same => ?_
    obtain ⟨k, rfl⟩ := isx
    have J : Inv X pins σ H { s with heap := g, toks := tk } := I.turned (fun b o nb e => same b o (by simpa using nb) e) f0 f1 f3 f4 f5
    exact ⟨_, rfl, go_of (s := { s with heap := g, toks := tk }) (n := "longrange_iterator") at2 rfl rfl (by decide) ⟨.int (lo + i), H, J, ⟨k, by rw [Int.mul_one]⟩, ⟨rfl, rfl⟩, at2, fun b hb => (fp b hb).1⟩⟩
  done := by
    intro X eP ew eK calm i pins s σ H E I fp at_ over
    subst eP ew eK
    obtain ⟨f0, f1, f2, f3, f4, f5⟩ := fp it (List.mem_singleton_self _)
    exact wpAny_pyNext_long_end (I.ok.hd calm) at_ (by have : n ≤ i := over; omega) fun g same => ⟨rfl, I.turned (t' := s.toks) (fun b o nb e => same b o nb e) f0 f1 f3 f4 f5⟩
  self := fun _ _ _ _ _ at_ got => wpAny_pyIter_longiter at_ got
section
variable {X : Cx} {tg : Expr}
theorem walk_any {pins : List (Addr × Obj)} {σ : L2.St} {H : Hp} {s : Shared} {R : It → Hp → Prop} {E : Value → Shared → Prop} {lo hi : Int} {t u v : Tok} {tk : Nat} (I : Inv X pins σ H s) (q : R (Itr lo (hi - lo).toNat) H) :
    wpAny (model X.prog X.w) X.A (pyIter (.ref s.heap.objs.size)) (PIE X pins σ tg R) E { s with heap := s.heap.push (rgObj lo hi t u v), toks := tk } := by
  have J : Inv X pins σ H { s with heap := s.heap.push (rgObj lo hi t u v), toks := tk } := I.kept fun b o e => Heap.get?_push_of_some _ e
  have own : ∀ b ∈ [(s.heap.push (rgObj lo hi t u v)).objs.size], FpOk X pins H b := fun b hb => by
    rw [List.mem_singleton.mp hb]
    exact J.fpOk (Nat.le_refl _) (J.hok.fresh (Nat.le_refl _))
  have e1 : lo + ((0 : Nat) : Int) * 1 = lo := by simp
  have e2 : (((hi - lo).toNat : Nat) : Int) - ((0 : Nat) : Int) = Builtin.Range.rangeSize lo hi 1 := by rw [size_nat]; omega
  by_cases little : Builtin.Range.small lo hi 1 = true
  · refine wpAny_pyIter_range (IsRange.new ..) little ⟨_, _, _, _, H, rfl, J.kept (t' := tk) fun b o e => Heap.get?_push_of_some _ e, turn_range _ lo (hi - lo).toNat, ?_, own, q⟩
    show IsRangeIter _ _ (lo + ((0 : Nat) : Int) * 1) ((((hi - lo).toNat : Nat) : Int) - ((0 : Nat) : Int)) 1
    rw [e1, e2]
    exact Heap.get?_push_size _ rfl
  · refine wpAny_pyIter_longrange (IsRange.new ..) (Bool.eq_false_iff.mpr little) ⟨_, _, _, _, H, rfl, J.kept (t' := tk) fun b o e => Heap.get?_push_of_some _ e, turn_long _ lo (hi - lo).toNat, ?_, own, q⟩
    show IsLongIter _ _ (lo + ((0 : Nat) : Int) * 1) ((((hi - lo).toNat : Nat) : Int) - ((0 : Nat) : Int)) 1
    rw [e1, e2]
    exact Heap.get?_push_size _ rfl
def iRngW (ta : TA) : TI := fun σ H R => ta σ H fun vs H1 => ∃ i j : Int, vs = [.int i, .int j] ∧ R (Itr i (j - i).toNat) H1
theorem pi_rangeW {a b : Expr} {ta : TA} {p pos : Pos} (hg : Gl X "range") (hm : X.mg "range" = none) (ha : PA X [a, b] ta) (hs : starEach [a, b] X.env = [(false, eval a X.env), (false, eval b X.env)] := by rfl) (hs2 : starEach [b] X.env = [(false, eval b X.env)] := by rfl) :
    PI X tg (.Call (.Name "range" p) [a, b] [] pos) (iRngW ta) := by
  refine ⟨fun pins s σ H R I want => ?_⟩
  refine Call_ (ld_blt I hg hm boot_range (PyProof.Rows.callWith_type1 (thn (ha.run pos pins s σ H _ I want) fun us s1 ⟨vs, H1, I1, r1, i, j, e, q⟩ => ?_) (by rw [hs, hs2]) (by rw [hs2]; rfl)))
  subst e
  cases r1 with
  | cons k1 rest =>
    cases rest with
    | cons k2 none_ =>
      cases none_
      obtain ⟨tok1, rfl⟩ := k1
      obtain ⟨tok2, rfl⟩ := k2
      exact call_range_2 (walk_any I1 q)
variable {e : Expr} {te : L2.St → Hp → (Int → Int → Hp → Prop) → Prop}
def tLstRgW (te : L2.St → Hp → (Int → Int → Hp → Prop) → Prop) : TE := fun σ H Q => te σ H fun a b H1 => (b - a).toNat ≤ 2 ^ 24 ∧ ∀ q, H1 q = none → Q (.ref q) (upd H1 q (.lst (rgV a b)))
theorem pe_listRgW {p pos : Pos} (hc : X.calm = true) (hg : Gl X "list") (hm : X.mg "list" = none) (he : PRg X e te) (na : starEach [e] X.env = (false, eval e X.env) :: starEach [] X.env := by rfl) : PE X (.Call (.Name "list" p) [e] [] pos) (tLstRgW te) := by
  refine ⟨fun pins s σ H Q I want => ?_⟩
  refine Call_ (ld_blt I hg hm boot_list (PyProof.Rows.callWith_type1 (args_cons (thn (he pins s σ H _ I want) fun x s1 ⟨r, a, b, t, u, v, H1, ex, isr, I1, few, q⟩ => args_nil ?_) na) na))
  subst ex
  have fin : ∀ (g : Heap) (tk : Nat) (acc : Array Value) (c2 : Nat), (∀ b o, s1.heap.get? b = some o → g.get? b = some o) → g.get? s1.heap.objs.size = some { cls := .type "list", dict := none, data := .seq acc c2, slots := #[] } → ItemsOf (fun i x => ∃ k, x = .int (a + i * 1) k) acc (b - a).toNat → EP X pins σ Q (.ref s1.heap.objs.size) { s1 with heap := g, toks := tk } := fun g tk acc c2 keep new items =>
    ⟨.ref s1.heap.objs.size, upd H1 s1.heap.objs.size (.lst (rgV a b)), I1.laid keep (Nat.le_refl _) (show ObjOk X.prog X.w _ _ _ (.lst (rgV a b)) from ⟨by rw [rgV_length, sizeLine_eq]; omega, acc.toList, c2, vals_rg items, by rw [Array.toArray_toList]; exact new⟩), rfl, q _ (I1.hok.fresh (Nat.le_refl _))⟩
  by_cases little : Builtin.Range.small a b 1 = true
  · exact call_list_range (n := (b - a).toNat) (I1.ok.hd hc) isr little (size_nat a b) few fin
  · exact list_long (I1.ok.hd hc) isr (Bool.eq_false_iff.mpr little) few fin
end
end RgW
/-! all lists of choices, in their order; halves -/
namespace Ls
open PySem PySem.Spec PyProof.Rows
open L2
def grow (told : List (List Int)) (some : List Int) : List (List Int) := told.flatMap fun a => some.map fun o => a ++ [o]
def allL (cs : List (List Int)) : List (List Int) := cs.foldl grow [[]]
theorem allL_snoc (cs : List (List Int)) (c : List Int) : allL (cs ++ [c]) = grow (allL cs) c := by
  unfold allL
  rw [List.foldl_append]
  rfl
theorem grow_len (told : List (List Int)) (some : List Int) : (grow told some).length = told.length * some.length := by
  unfold grow
  induction told with
  | nil => simp
  | cons a told ih => rw [List.flatMap_cons, List.length_append, ih, List.length_map, List.length_cons, Nat.add_mul, Nat.one_mul, Nat.add_comm]
theorem allL_len {b : Nat} {cs : List (List Int)} (h : ∀ c ∈ cs, c.length ≤ b) : (allL cs).length ≤ b ^ cs.length := by
  have key : ∀ (n : Nat) (cs : List (List Int)), cs.length = n → (∀ c ∈ cs, c.length ≤ b) → (allL cs).length ≤ b ^ n := by
    intro n
    induction n with
    | zero =>
      intro cs hl _
      rw [List.length_eq_zero_iff.mp hl]
      exact Nat.le_refl _
    | succ n ih =>
      intro cs hl h
      have ne : cs ≠ [] := fun z => by rw [z] at hl; cases hl
      have e := (List.dropLast_concat_getLast ne).symm
      rw [e] at hl h ⊢
      rw [List.length_append] at hl
      rw [allL_snoc, grow_len, Nat.pow_succ]
      exact Nat.mul_le_mul (ih _ (by simp at hl ⊢; omega) fun c hc => h c (List.mem_append_left _ hc)) (h _ (List.mem_append_right _ (List.mem_singleton_self _)))
  exact key _ cs rfl h
theorem allL_each : ∀ (n : Nat) (cs : List (List Int)), cs.length = n → ∀ z ∈ allL cs, Paired (fun (y : Int) (c : List Int) => y ∈ c) z cs := by
  intro n
  induction n with
  | zero =>
    intro cs hl z hz
    rw [List.length_eq_zero_iff.mp hl] at hz ⊢
    rw [show allL [] = [[]] from rfl] at hz
    rw [List.mem_singleton.mp hz]
    exact .nil
  | succ n ih =>
    intro cs hl z hz
    have ne : cs ≠ [] := fun z => by rw [z] at hl; cases hl
    have e := (List.dropLast_concat_getLast ne).symm
    rw [e] at hl hz ⊢
    rw [List.length_append] at hl
    rw [allL_snoc] at hz
    unfold grow at hz
    obtain ⟨a, ha, hz⟩ := List.mem_flatMap.mp hz
    obtain ⟨o, ho, rfl⟩ := List.mem_map.mp hz
    exact Paired.snoc (ih _ (by simp at hl ⊢; omega) a ha) ho
def rg (lo hi : Int) : List Int := (List.range (hi - lo).toNat).map fun i : Nat => lo + (i : Int)
theorem rg_mem {lo hi z : Int} (h : z ∈ rg lo hi) : lo ≤ z ∧ z < hi := by
  unfold rg at h
  obtain ⟨i, hi, rfl⟩ := List.mem_map.mp h
  have := List.mem_range.mp hi
  omega
theorem rg_len (lo hi : Int) : (rg lo hi).length = (hi - lo).toNat := by
  unfold rg
  rw [List.length_map, List.length_range]
def hv (x : Int) : List Int := rg (x / 2) (x - x / 2 + 1)
theorem hv_len (x : Int) : (hv x).length ≤ 2 := by
  unfold hv
  rw [rg_len]
  omega
theorem hv_mem {x z : Int} (h : z ∈ hv x) : x / 2 ≤ z ∧ z ≤ x - x / 2 := by
  have := rg_mem h
  omega
theorem hv_law (x : Int) : hv x = rg (x / 2) (x / 2 + x % 2 + 1) := by
  unfold hv
  congr 1
  omega
def dot (r s : List Int) : Int := (List.zipWith (· * ·) r s).sum
def totals (rows : List (List Int)) (zs : List Int) : List Int := rows.map fun r => dot r zs
def small1 (t : Int) : Bool := decide (t = -1 ∨ t = 0 ∨ t = 1)
def smallB (ts : List Int) : Bool := ts.all small1
def otherOf (xs zs : List Int) : List Int := List.zipWith (fun x z => x - z) xs zs
def gapsOf (xs zs : List Int) : List Int := List.zipWith (fun z y => z - y) zs (otherOf xs zs)
def halfOk (rows : List (List Int)) (xs zs : List Int) : Bool := smallB (totals rows (gapsOf xs zs))
def halfOf (rows : List (List Int)) (xs : List Int) : Option (List Int) := (allL (xs.map hv)).find? (halfOk rows xs)
def absI (y : Int) : Int := if y < 0 then -y else y
theorem small_max {ts : List Int} {m : Int} (h : ts ≠ []) (hm : m ∈ ts.map absI) (hle : ∀ y ∈ ts.map absI, y ≤ m) : decide (m ≤ 1) = smallB ts := by
  unfold smallB
  rw [Bool.eq_iff_iff, decide_eq_true_eq, List.all_eq_true]
  refine ⟨fun h1 t ht => ?_, fun h1 => ?_⟩
  · have := hle (absI t) (List.mem_map.mpr ⟨t, ht, rfl⟩)
    unfold absI at this
    unfold small1
    rw [decide_eq_true_eq]
    split at this <;> omega
  · obtain ⟨t, ht, rfl⟩ := List.mem_map.mp hm
    have := h1 t ht
    unfold small1 at this
    rw [decide_eq_true_eq] at this
    unfold absI
    split <;> omega
theorem find_at {α : Type} {p : α → Bool} : ∀ {l : List α} {i : Nat} {z : α}, (∀ y ∈ l.take i, p y = false) → l[i]? = some z → p z = true → l.find? p = some z
  | y :: l, 0, z, _, h, hp => by
    cases h
    rw [List.find?_cons, hp]
  | y :: l, i + 1, z, h0, h, hp => by
    rw [List.find?_cons, h0 y (by rw [List.take_succ_cons]; exact .head _)]
    exact find_at (i := i) (fun q hq => h0 q (by rw [List.take_succ_cons]; exact .tail _ hq)) h hp
theorem find_no {α : Type} {p : α → Bool} {l : List α} (h : ∀ y ∈ l, p y = false) : l.find? p = none := by
  rw [List.find?_eq_none]
  intro y hy z
  rw [h y hy] at z
  cases z
theorem take_more {α : Type} {p : α → Bool} {l : List α} {i : Nat} {z : α} (h : ∀ y ∈ l.take i, p y = false) (hz : l[i]? = some z) (hp : p z = false) : ∀ y ∈ l.take (i + 1), p y = false := fun y hy => by
  rw [List.take_add_one, hz] at hy
  rcases List.mem_append.mp hy with q | q
  · exact h y q
  · have : y = z := by simpa using q
    rw [this]
    exact hp
end Ls
namespace SbE47
open PySem PySem.Spec PyProof.Rows L2 Evl HT 
/-! ### the text -/
def topS (i : Nat) : Stmt := PySem.Challenge.pw_signbook_k47_halves_of_whole_numbers.main.body.getD i (.Pass ⟨0, 0, 0, 0⟩)
def clsB : Stmt → List Stmt
  | .ClassDef (body := b) .. => b
  | _ => []
abbrev s_is_whole : Stmt := topS 5
theorem sc_is_whole : FnScope ["thing"] ["thing"] (defScope s_is_whole) := ⟨rfl, rfl, rfl, by decide +kernel, rfl, by decide +kernel, by decide +kernel⟩
abbrev s_is_long : Stmt := topS 7
theorem sc_is_long : FnScope ["thing", "many"] ["thing", "many"] (defScope s_is_long) := ⟨rfl, rfl, rfl, by decide +kernel, rfl, by decide +kernel, by decide +kernel⟩
abbrev s_is_numbers : Stmt := topS 8
theorem sc_is_numbers : FnScope ["thing", "many", "number"] ["thing", "many"] (defScope s_is_numbers) := ⟨rfl, rfl, rfl, by decide +kernel, rfl, by decide +kernel, by decide +kernel⟩
abbrev s_check_numbers : Stmt := topS 9
theorem sc_check_numbers : FnScope ["thing", "many", "word"] ["thing", "many", "word"] (defScope s_check_numbers) := ⟨rfl, rfl, rfl, by decide +kernel, rfl, by decide +kernel, by decide +kernel⟩
abbrev s_all_lists : Stmt := topS 10
theorem sc_all_lists : FnScope ["choices", "told", "some", "ahead", "one"] ["choices"] (defScope s_all_lists) := ⟨rfl, rfl, rfl, by decide +kernel, rfl, by decide +kernel, by decide +kernel⟩
abbrev s_is_table : Stmt := topS 13
theorem sc_is_table : FnScope ["thing", "row"] ["thing"] (defScope s_is_table) := ⟨rfl, rfl, rfl, by decide +kernel, rfl, by decide +kernel, by decide +kernel⟩
abbrev s_is_row : Stmt := topS 14
theorem sc_is_row : FnScope ["thing", "entry"] ["thing"] (defScope s_is_row) := ⟨rfl, rfl, rfl, by decide +kernel, rfl, by decide +kernel, by decide +kernel⟩
abbrev s_check_table : Stmt := topS 15
theorem sc_check_table : FnScope ["thing"] ["thing"] (defScope s_check_table) := ⟨rfl, rfl, rfl, by decide +kernel, rfl, by decide +kernel, by decide +kernel⟩
abbrev s_row_totals : Stmt := topS 16
theorem sc_row_totals : FnScope ["table", "numbers", "row", "entry", "number"] ["table", "numbers"] (defScope s_row_totals) := ⟨rfl, rfl, rfl, by decide +kernel, rfl, by decide +kernel, by decide +kernel⟩
abbrev s_are_small : Stmt := topS 18
theorem sc_are_small : FnScope ["totals", "total"] ["totals"] (defScope s_are_small) := ⟨rfl, rfl, rfl, by decide +kernel, rfl, by decide +kernel, by decide +kernel⟩
abbrev s_halved : Stmt := topS 20
theorem sc_halved : FnScope ["table", "xs", "one", "other", "gaps", "x", "half", "rest"] ["table", "xs"] (defScope s_halved) := ⟨rfl, rfl, rfl, by decide +kernel, rfl, by decide +kernel, by decide +kernel⟩
abbrev s_halves : Stmt := topS 21
theorem sc_halves : FnScope ["x"] ["x"] (defScope s_halves) := ⟨rfl, rfl, rfl, by decide +kernel, rfl, by decide +kernel, by decide +kernel⟩
abbrev s__law_source_of : Stmt := topS 23
theorem sc__law_source_of : FnScope ["_law_cell"] ["_law_cell"] (defScope s__law_source_of) := ⟨rfl, rfl, rfl, by decide +kernel, rfl, by decide +kernel, by decide +kernel⟩
abbrev s__law_next : Stmt := topS 24
theorem sc__law_next : FnScope ["_law_source", "_law_many", "_law_found", "_law_prime", "_law_figure"] ["_law_source", "_law_many"] (defScope s__law_next) := ⟨rfl, rfl, rfl, by decide +kernel, rfl, by decide +kernel, by decide +kernel⟩
abbrev s__law_one : Stmt := topS 25
theorem sc__law_one : FnScope ["_law_source", "_law_some"] ["_law_source", "_law_some"] (defScope s__law_one) := ⟨rfl, rfl, rfl, by decide +kernel, rfl, by decide +kernel, by decide +kernel⟩
abbrev s__law_cell_at : Stmt := topS 26
theorem sc__law_cell_at : FnScope ["_law_script", "_law_k"] ["_law_script", "_law_k"] (defScope s__law_cell_at) := ⟨rfl, rfl, rfl, by decide +kernel, rfl, by decide +kernel, by decide +kernel⟩
abbrev s__law_mixed : Stmt := topS 27
theorem sc__law_mixed : FnScope ["_law_source", "_law_some", "_law_left", "_law_found"] ["_law_source", "_law_some"] (defScope s__law_mixed) := ⟨rfl, rfl, rfl, by decide +kernel, rfl, by decide +kernel, by decide +kernel⟩
abbrev s__law_ends : Stmt := topS 28
theorem sc__law_ends : FnScope ["_law_source", "_law_many", "_law_places", "_law_found", "_law_k", "_law_two"] ["_law_source", "_law_many"] (defScope s__law_ends) := ⟨rfl, rfl, rfl, by decide +kernel, rfl, by decide +kernel, by decide +kernel⟩
abbrev s__law_net : Stmt := topS 29
theorem sc__law_net : FnScope ["_law_ends_here", "_law_arcs", "_law_far", "_law_k", "_law_begin", "_law_goal", "_law_step", "_law_other", "_law_a", "_law_b"] ["_law_ends_here", "_law_arcs"] (defScope s__law_net) := ⟨rfl, rfl, rfl, by decide +kernel, rfl, by decide +kernel, by decide +kernel⟩
abbrev s__law_net_drawn : Stmt := topS 30
theorem sc__law_net_drawn : FnScope ["_law_source", "_law_many", "_law_wide", "_law_arcs", "_law_k"] ["_law_source", "_law_many", "_law_wide"] (defScope s__law_net_drawn) := ⟨rfl, rfl, rfl, by decide +kernel, rfl, by decide +kernel, by decide +kernel⟩
abbrev s__law_stretches : Stmt := topS 31
theorem sc__law_stretches : FnScope ["_law_source", "_law_many", "_law_wide", "_law_order", "_law_found", "_law_k", "_law_start", "_law_length", "_law_column"] ["_law_source", "_law_many", "_law_wide"] (defScope s__law_stretches) := ⟨rfl, rfl, rfl, by decide +kernel, rfl, by decide +kernel, by decide +kernel⟩
abbrev s__law_swung : Stmt := topS 32
theorem sc__law_swung : FnScope ["_law_source", "_law_table_here", "_law_rows", "_law_signs", "_law_found", "_law_row", "_law_sign", "_law_k", "_law_column", "_law_a", "_law_b"] ["_law_source", "_law_table_here"] (defScope s__law_swung) := ⟨rfl, rfl, rfl, by decide +kernel, rfl, by decide +kernel, by decide +kernel⟩
abbrev s__law_table : Stmt := topS 33
theorem sc__law_table : FnScope ["_law_source", "_law_most", "_law_many", "_law_wide", "_law_kind", "_law_table_here", "_law_k", "_law_row"] ["_law_source", "_law_most"] (defScope s__law_table) := ⟨rfl, rfl, rfl, by decide +kernel, rfl, by decide +kernel, by decide +kernel⟩
abbrev s__law_spent : Stmt := topS 34
theorem sc__law_spent : FnScope ["_law_got", "_law_part"] ["_law_got"] (defScope s__law_spent) := ⟨rfl, rfl, rfl, by decide +kernel, rfl, by decide +kernel, by decide +kernel⟩
abbrev s__law_lists : Stmt := topS 35
theorem sc__law_lists : FnScope ["_law_lows", "_law_highs", "_law_found", "_law_low", "_law_high", "_law_longer", "_law_one_here", "_law_number"] ["_law_lows", "_law_highs"] (defScope s__law_lists) := ⟨rfl, rfl, rfl, by decide +kernel, rfl, by decide +kernel, by decide +kernel⟩
abbrev s__law_whole_sums : Stmt := topS 36
theorem sc__law_whole_sums : FnScope ["_law_table_here", "_law_xs", "_law_row", "_law_a", "_law_b"] ["_law_table_here", "_law_xs"] (defScope s__law_whole_sums) := ⟨rfl, rfl, rfl, by decide +kernel, rfl, by decide +kernel, by decide +kernel⟩
abbrev s__law_out : Stmt := topS 37
theorem sc__law_out : FnScope ["_law_table_here", "_law_signs", "_law_one_here"] ["_law_table_here", "_law_signs"] (defScope s__law_out) := ⟨rfl, rfl, rfl, by decide +kernel, rfl, by decide +kernel, by decide +kernel⟩
abbrev s__law_halves : Stmt := topS 38
theorem sc__law_halves : FnScope ["_law_table_here", "_law_xs", "_law_one_here", "_law_other", "_law_x", "_law_z", "_law_y"] ["_law_table_here", "_law_xs"] (defScope s__law_halves) := ⟨rfl, rfl, rfl, by decide +kernel, rfl, by decide +kernel, by decide +kernel⟩
abbrev s_law : Stmt := topS 39
theorem sc_law : FnScope ["_law_script", "_law_k", "_law_cell", "_law_source", "_law_table_here", "_law_great", "_law_xs", "_law_due", "_law_handed", "_law_turn", "_law_found"] ["_law_script"] (defScope s_law) := ⟨rfl, rfl, rfl, by decide +kernel, rfl, by decide +kernel, by decide +kernel⟩
/-- what the top has written -/
structure Txt (K : PySem.W.Frag) (mg : Str → Option Value) where
  f_is_whole : Addr
  fd_is_whole : FuncData
  F_is_whole : Fun K "is_whole" "is_whole" s_is_whole f_is_whole fd_is_whole
  g_is_whole : mg "is_whole" = some (.ref f_is_whole)
  k_is_whole : PySem.W.keepIn K (.ref f_is_whole) = true
  b_is_whole : Binds K fd_is_whole ["thing"] []
  f_is_long : Addr
  fd_is_long : FuncData
  F_is_long : Fun K "is_long" "is_long" s_is_long f_is_long fd_is_long
  g_is_long : mg "is_long" = some (.ref f_is_long)
  k_is_long : PySem.W.keepIn K (.ref f_is_long) = true
  b_is_long : Binds K fd_is_long ["thing", "many"] []
  f_is_numbers : Addr
  fd_is_numbers : FuncData
  F_is_numbers : Fun K "is_numbers" "is_numbers" s_is_numbers f_is_numbers fd_is_numbers
  g_is_numbers : mg "is_numbers" = some (.ref f_is_numbers)
  k_is_numbers : PySem.W.keepIn K (.ref f_is_numbers) = true
  b_is_numbers : Binds K fd_is_numbers ["thing", "many"] []
  f_check_numbers : Addr
  fd_check_numbers : FuncData
  F_check_numbers : Fun K "check_numbers" "check_numbers" s_check_numbers f_check_numbers fd_check_numbers
  g_check_numbers : mg "check_numbers" = some (.ref f_check_numbers)
  k_check_numbers : PySem.W.keepIn K (.ref f_check_numbers) = true
  b_check_numbers : Binds K fd_check_numbers ["thing", "many", "word"] []
  f_all_lists : Addr
  fd_all_lists : FuncData
  F_all_lists : Fun K "all_lists" "all_lists" s_all_lists f_all_lists fd_all_lists
  g_all_lists : mg "all_lists" = some (.ref f_all_lists)
  k_all_lists : PySem.W.keepIn K (.ref f_all_lists) = true
  b_all_lists : Binds K fd_all_lists ["choices"] []
  f_is_table : Addr
  fd_is_table : FuncData
  F_is_table : Fun K "is_table" "is_table" s_is_table f_is_table fd_is_table
  g_is_table : mg "is_table" = some (.ref f_is_table)
  k_is_table : PySem.W.keepIn K (.ref f_is_table) = true
  b_is_table : Binds K fd_is_table ["thing"] []
  f_is_row : Addr
  fd_is_row : FuncData
  F_is_row : Fun K "is_row" "is_row" s_is_row f_is_row fd_is_row
  g_is_row : mg "is_row" = some (.ref f_is_row)
  k_is_row : PySem.W.keepIn K (.ref f_is_row) = true
  b_is_row : Binds K fd_is_row ["thing"] []
  f_check_table : Addr
  fd_check_table : FuncData
  F_check_table : Fun K "check_table" "check_table" s_check_table f_check_table fd_check_table
  g_check_table : mg "check_table" = some (.ref f_check_table)
  k_check_table : PySem.W.keepIn K (.ref f_check_table) = true
  b_check_table : Binds K fd_check_table ["thing"] []
  f_row_totals : Addr
  fd_row_totals : FuncData
  F_row_totals : Fun K "row_totals" "row_totals" s_row_totals f_row_totals fd_row_totals
  g_row_totals : mg "row_totals" = some (.ref f_row_totals)
  k_row_totals : PySem.W.keepIn K (.ref f_row_totals) = true
  b_row_totals : Binds K fd_row_totals ["table", "numbers"] []
  f_are_small : Addr
  fd_are_small : FuncData
  F_are_small : Fun K "are_small" "are_small" s_are_small f_are_small fd_are_small
  g_are_small : mg "are_small" = some (.ref f_are_small)
  k_are_small : PySem.W.keepIn K (.ref f_are_small) = true
  b_are_small : Binds K fd_are_small ["totals"] []
  f_halved : Addr
  fd_halved : FuncData
  F_halved : Fun K "halved" "halved" s_halved f_halved fd_halved
  g_halved : mg "halved" = some (.ref f_halved)
  k_halved : PySem.W.keepIn K (.ref f_halved) = true
  b_halved : Binds K fd_halved ["table", "xs"] []
  f_halves : Addr
  fd_halves : FuncData
  F_halves : Fun K "halves" "halves" s_halves f_halves fd_halves
  g_halves : mg "halves" = some (.ref f_halves)
  k_halves : PySem.W.keepIn K (.ref f_halves) = true
  b_halves : Binds K fd_halves ["x"] []
  f__law_source_of : Addr
  fd__law_source_of : FuncData
  F__law_source_of : Fun K "_law_source_of" "_law_source_of" s__law_source_of f__law_source_of fd__law_source_of
  g__law_source_of : mg "_law_source_of" = some (.ref f__law_source_of)
  k__law_source_of : PySem.W.keepIn K (.ref f__law_source_of) = true
  b__law_source_of : Binds K fd__law_source_of ["_law_cell"] []
  f__law_next : Addr
  fd__law_next : FuncData
  F__law_next : Fun K "_law_next" "_law_next" s__law_next f__law_next fd__law_next
  g__law_next : mg "_law_next" = some (.ref f__law_next)
  k__law_next : PySem.W.keepIn K (.ref f__law_next) = true
  b__law_next : Binds K fd__law_next ["_law_source", "_law_many"] []
  f__law_one : Addr
  fd__law_one : FuncData
  F__law_one : Fun K "_law_one" "_law_one" s__law_one f__law_one fd__law_one
  g__law_one : mg "_law_one" = some (.ref f__law_one)
  k__law_one : PySem.W.keepIn K (.ref f__law_one) = true
  b__law_one : Binds K fd__law_one ["_law_source", "_law_some"] []
  f__law_cell_at : Addr
  fd__law_cell_at : FuncData
  F__law_cell_at : Fun K "_law_cell_at" "_law_cell_at" s__law_cell_at f__law_cell_at fd__law_cell_at
  g__law_cell_at : mg "_law_cell_at" = some (.ref f__law_cell_at)
  k__law_cell_at : PySem.W.keepIn K (.ref f__law_cell_at) = true
  b__law_cell_at : Binds K fd__law_cell_at ["_law_script", "_law_k"] []
  f__law_mixed : Addr
  fd__law_mixed : FuncData
  F__law_mixed : Fun K "_law_mixed" "_law_mixed" s__law_mixed f__law_mixed fd__law_mixed
  g__law_mixed : mg "_law_mixed" = some (.ref f__law_mixed)
  k__law_mixed : PySem.W.keepIn K (.ref f__law_mixed) = true
  b__law_mixed : Binds K fd__law_mixed ["_law_source", "_law_some"] []
  f__law_ends : Addr
  fd__law_ends : FuncData
  F__law_ends : Fun K "_law_ends" "_law_ends" s__law_ends f__law_ends fd__law_ends
  g__law_ends : mg "_law_ends" = some (.ref f__law_ends)
  k__law_ends : PySem.W.keepIn K (.ref f__law_ends) = true
  b__law_ends : Binds K fd__law_ends ["_law_source", "_law_many"] []
  f__law_net : Addr
  fd__law_net : FuncData
  F__law_net : Fun K "_law_net" "_law_net" s__law_net f__law_net fd__law_net
  g__law_net : mg "_law_net" = some (.ref f__law_net)
  k__law_net : PySem.W.keepIn K (.ref f__law_net) = true
  b__law_net : Binds K fd__law_net ["_law_ends_here", "_law_arcs"] []
  f__law_net_drawn : Addr
  fd__law_net_drawn : FuncData
  F__law_net_drawn : Fun K "_law_net_drawn" "_law_net_drawn" s__law_net_drawn f__law_net_drawn fd__law_net_drawn
  g__law_net_drawn : mg "_law_net_drawn" = some (.ref f__law_net_drawn)
  k__law_net_drawn : PySem.W.keepIn K (.ref f__law_net_drawn) = true
  b__law_net_drawn : Binds K fd__law_net_drawn ["_law_source", "_law_many", "_law_wide"] []
  f__law_stretches : Addr
  fd__law_stretches : FuncData
  F__law_stretches : Fun K "_law_stretches" "_law_stretches" s__law_stretches f__law_stretches fd__law_stretches
  g__law_stretches : mg "_law_stretches" = some (.ref f__law_stretches)
  k__law_stretches : PySem.W.keepIn K (.ref f__law_stretches) = true
  b__law_stretches : Binds K fd__law_stretches ["_law_source", "_law_many", "_law_wide"] []
  f__law_swung : Addr
  fd__law_swung : FuncData
  F__law_swung : Fun K "_law_swung" "_law_swung" s__law_swung f__law_swung fd__law_swung
  g__law_swung : mg "_law_swung" = some (.ref f__law_swung)
  k__law_swung : PySem.W.keepIn K (.ref f__law_swung) = true
  b__law_swung : Binds K fd__law_swung ["_law_source", "_law_table_here"] []
  f__law_table : Addr
  fd__law_table : FuncData
  F__law_table : Fun K "_law_table" "_law_table" s__law_table f__law_table fd__law_table
  g__law_table : mg "_law_table" = some (.ref f__law_table)
  k__law_table : PySem.W.keepIn K (.ref f__law_table) = true
  b__law_table : Binds K fd__law_table ["_law_source", "_law_most"] []
  f__law_spent : Addr
  fd__law_spent : FuncData
  F__law_spent : Fun K "_law_spent" "_law_spent" s__law_spent f__law_spent fd__law_spent
  g__law_spent : mg "_law_spent" = some (.ref f__law_spent)
  k__law_spent : PySem.W.keepIn K (.ref f__law_spent) = true
  b__law_spent : Binds K fd__law_spent ["_law_got"] []
  f__law_lists : Addr
  fd__law_lists : FuncData
  F__law_lists : Fun K "_law_lists" "_law_lists" s__law_lists f__law_lists fd__law_lists
  g__law_lists : mg "_law_lists" = some (.ref f__law_lists)
  k__law_lists : PySem.W.keepIn K (.ref f__law_lists) = true
  b__law_lists : Binds K fd__law_lists ["_law_lows", "_law_highs"] []
  f__law_whole_sums : Addr
  fd__law_whole_sums : FuncData
  F__law_whole_sums : Fun K "_law_whole_sums" "_law_whole_sums" s__law_whole_sums f__law_whole_sums fd__law_whole_sums
  g__law_whole_sums : mg "_law_whole_sums" = some (.ref f__law_whole_sums)
  k__law_whole_sums : PySem.W.keepIn K (.ref f__law_whole_sums) = true
  b__law_whole_sums : Binds K fd__law_whole_sums ["_law_table_here", "_law_xs"] []
  f__law_out : Addr
  fd__law_out : FuncData
  F__law_out : Fun K "_law_out" "_law_out" s__law_out f__law_out fd__law_out
  g__law_out : mg "_law_out" = some (.ref f__law_out)
  k__law_out : PySem.W.keepIn K (.ref f__law_out) = true
  b__law_out : Binds K fd__law_out ["_law_table_here", "_law_signs"] []
  f__law_halves : Addr
  fd__law_halves : FuncData
  F__law_halves : Fun K "_law_halves" "_law_halves" s__law_halves f__law_halves fd__law_halves
  g__law_halves : mg "_law_halves" = some (.ref f__law_halves)
  k__law_halves : PySem.W.keepIn K (.ref f__law_halves) = true
  b__law_halves : Binds K fd__law_halves ["_law_table_here", "_law_xs"] []
  f_law : Addr
  fd_law : FuncData
  F_law : Fun K "law" "law" s_law f_law fd_law
  g_law : mg "law" = some (.ref f_law)
  k_law : PySem.W.keepIn K (.ref f_law) = true
  b_law : Binds K fd_law ["_law_script"] []
  t_MOST : Tok
  g_MOST : mg "MOST" = some (.int 8 t_MOST)
  n_abs : mg "abs" = none
  n_all : mg "all" = none
  n_bool : mg "bool" = none
  n_enumerate : mg "enumerate" = none
  n_int : mg "int" = none
  n_isinstance : mg "isinstance" = none
  n_len : mg "len" = none
  n_list : mg "list" = none
  n_max : mg "max" = none
  n_range : mg "range" = none
  n_repr : mg "repr" = none
  n_sum : mg "sum" = none
  n_zip : mg "zip" = none
/-! ### numbers -/
def Bd (n : Nat) (i : Int) : Prop := i.natAbs < 2 ^ n
theorem Bd.mono {a b : Nat} {i : Int} (h : Bd a i) (hab : a ≤ b) : Bd b i := Nat.lt_of_lt_of_le h (Nat.pow_le_pow_right (by decide) hab)
theorem Bd.mul {a b : Nat} {i j : Int} (h : Bd a i) (g : Bd b j) : Bd (a + b) (i * j) := wide_lt h g
theorem Bd.add {a : Nat} {i j : Int} (h : Bd a i) (g : Bd a j) : Bd (a + 1) (i + j) := by
  have h1 : i.natAbs < 2 ^ a := h
  have h2 : j.natAbs < 2 ^ a := g
  show (i + j).natAbs < 2 ^ (a + 1)
  rw [Nat.pow_succ]
  omega
theorem Bd.sub {a : Nat} {i j : Int} (h : Bd a i) (g : Bd a j) : Bd (a + 1) (i - j) := by
  have h1 : i.natAbs < 2 ^ a := h
  have h2 : j.natAbs < 2 ^ a := g
  show (i - j).natAbs < 2 ^ (a + 1)
  rw [Nat.pow_succ]
  omega
theorem Bd.neg {a : Nat} {i : Int} (h : Bd a i) : Bd a (-i) := by
  show (-i).natAbs < 2 ^ a
  rw [Int.natAbs_neg]
  exact h
theorem Bd.abs {a : Nat} {i j : Int} (h : Bd a i) (e : j.natAbs ≤ i.natAbs) : Bd a j := Nat.lt_of_le_of_lt e h
theorem Bd.mulOk {a b : Nat} {i j : Int} (h : Bd a i) (g : Bd b j) (h0 : 0 < a := by decide) (h1 : 0 < b := by decide) (hs : a + b ≤ 1000000 := by decide) : CMulW i j := wide_mul h g h0 h1 hs
theorem Bd.divOk {b : Nat} {i j : Int} (h : 0 < j) (g : Bd b j) (h0 : 0 < b := by decide) (h9 : b ≤ 9000 := by decide) : CDivW i j := wide_div h g h0 h9
/-- // by a divisor other than 0 below 2 ^ 9000 -/
def CDivNW (_ j : Int) : Prop := j ≠ 0 ∧ j.natAbs.log2 < 9000
theorem Bd.divNOk {b : Nat} {i j : Int} (h : j ≠ 0) (g : Bd b j) (h0 : 0 < b := by decide) (h9 : b ≤ 9000 := by decide) : CDivNW i j := ⟨h, Nat.lt_of_lt_of_le (PySem.Flt.log2_lt_of h0 g) h9⟩
theorem op_fdivNW {X : Cx} : OpR X (binaryOp .FloorDiv) (rI CDivNW fun i j => .int (i.fdiv j)) := opI fun _ _ _ _ _ _ _ hc q => floordiv_int hc.1 q (.inl (PyProof.noPylong_of_log2 hc.2))
/-! ### heaps -/
/-- all but what stands at s is as it was -/
def ExB (s : Addr) (H H' : Hp) : Prop := ∀ b o, b ≠ s → H b = some o → H' b = some o
theorem ExB.trans {s : Addr} {H H1 H2 : Hp} (a : ExB s H H1) (b : ExB s H1 H2) : ExB s H H2 := fun c o n h => b c o n (a c o n h)
theorem ExB.refl (s : Addr) (H : Hp) : ExB s H H := fun _ _ _ h => h
theorem ExB.of {s : Addr} {H H1 : Hp} (a : Ex H H1) : ExB s H H1 := fun c o _ h => a c o h
theorem ExB.ex {s : Addr} {H H1 H2 : Hp} (a : ExB s H1 H2) (n : H s = none) (e : Ex H H1) : Ex H H2 := fun b o h => a b o (ne_of_none h n) (e b o h)
theorem ExB.upd (s : Addr) (H : Hp) (o : HO) : ExB s H (upd H s o) := fun b u n h => by
  rw [upd_ne n]
  exact h
theorem Ex.updB {s : Addr} {H H' : Hp} {o : HO} (e : Ex H H') : ExB s H (upd H' s o) := fun b u n h => by
  rw [upd_ne n]
  exact e b u h
/-- the source of a law's numbers: n at least the numbers made so far -/
def SrcAt (H : Hp) (s : Addr) (n : Int) : Prop := ∃ p q r : Int, H s = some (.lst [.int p, .int q, .int r]) ∧ 0 ≤ q ∧ q < 2147483647 ∧ 0 ≤ r ∧ r ≤ n
theorem SrcAt.ex {H H' : Hp} {s : Addr} {n : Int} (h : SrcAt H s n) (e : Ex H H') : SrcAt H' s n := by
  obtain ⟨p, q, r, h1, h2⟩ := h
  exact ⟨p, q, r, e _ _ h1, h2⟩
theorem SrcAt.exB {H H' : Hp} {s t : Addr} {n : Int} (h : SrcAt H s n) (e : ExB t H H') (ne : s ≠ t) : SrcAt H' s n := by
  obtain ⟨p, q, r, h1, h2⟩ := h
  exact ⟨p, q, r, e _ _ ne h1, h2⟩
theorem SrcAt.le {H : Hp} {s : Addr} {n m : Int} (h : SrcAt H s n) (e : n ≤ m) : SrcAt H s m := by
  obtain ⟨p, q, r, h1, h2, h3, h4, h5⟩ := h
  exact ⟨p, q, r, h1, h2, h3, h4, by omega⟩
theorem SrcAt.obj {H : Hp} {s : Addr} {n : Int} (h : SrcAt H s n) : ∃ o, H s = some o := by
  obtain ⟨p, q, r, h1, _⟩ := h
  exact ⟨_, h1⟩
/-- classes that is_whole is asked about -/
def tyOk (t : String) : Prop := t = "int" ∨ t = "bool" ∨ t = "NoneType" ∨ t = "str" ∨ t = "tuple" ∨ t = "list" ∨ t = "dict"
theorem ty_int {t : String} (h : tyOk t) : kitB t "int" = some (t == "int" || t == "bool") := by
  rcases h with rfl | rfl | rfl | rfl | rfl | rfl | rfl <;> decide +kernel
theorem ty_bool {t : String} (h : tyOk t) : kitB t "bool" = some (t == "bool") := by
  rcases h with rfl | rfl | rfl | rfl | rfl | rfl | rfl <;> decide +kernel
theorem ty_tuple {t : String} (h : tyOk t) : kitB t "tuple" = some (t == "tuple") := by
  rcases h with rfl | rfl | rfl | rfl | rfl | rfl | rfl <;> decide +kernel
theorem ty_list {t : String} (h : tyOk t) : kitB t "list" = some (t == "list") := by
  rcases h with rfl | rfl | rfl | rfl | rfl | rfl | rfl <;> decide +kernel
theorem prime_at (r : Int) (h : 0 ≤ r) : ∃ p : Int, atI [V.int 2147483647, V.int 2147483629, V.int 2147483587, V.int 2147483579, V.int 2147483563, V.int 2147483549, V.int 2147483543] (r % 7) = some (.int p) ∧ 0 < p ∧ p ≤ 2147483647 := by
  have h1 : 0 ≤ r % 7 := Int.emod_nonneg _ (by decide)
  have h2 : r % 7 < 7 := Int.emod_lt_of_pos _ (by decide)
  generalize r % 7 = k at h1 h2
  have hk : k = 0 ∨ k = 1 ∨ k = 2 ∨ k = 3 ∨ k = 4 ∨ k = 5 ∨ k = 6 := by omega
  rcases hk with rfl | rfl | rfl | rfl | rfl | rfl | rfl <;> exact ⟨_, rfl, by decide, by decide⟩
/-! ### data, lists, tables -/
mutual
theorem dp_mono {K : PySem.W.Frag} {H H' : Hp} (h : ∀ a xs, SqL K H a xs → SqL K H' a xs) (h2 : ∀ a xs, SqT K H a xs → SqT K H' a xs) : ∀ {v : V} {d : PyData}, Dp K H v d → Dp K H' v d
  | _, _, .non => .non
  | _, _, .bl b => .bl b
  | _, _, .int i => .int i
  | _, _, .str x => .str x
  | _, _, .lst a b => .lst (h _ _ a) (dpAll_mono h h2 b)
  | _, _, .tup a b => .tup (h2 _ _ a) (dpAll_mono h h2 b)
theorem dpAll_mono {K : PySem.W.Frag} {H H' : Hp} (h : ∀ a xs, SqL K H a xs → SqL K H' a xs) (h2 : ∀ a xs, SqT K H a xs → SqT K H' a xs) : ∀ {vs : List V} {ds : List PyData}, DpAll K H vs ds → DpAll K H' vs ds
  | _, _, .nil => .nil
  | _, _, .cons a b => .cons (dp_mono h h2 a) (dpAll_mono h h2 b)
end
theorem dp_ex {K : PySem.W.Frag} {H H' : Hp} (e : Ex H H') {v : V} {d : PyData} (h : Dp K H v d) : Dp K H' v d := dp_mono (fun _ _ => ex_l e) (fun _ _ => ex_t e) h
theorem dpAll_ex {K : PySem.W.Frag} {H H' : Hp} (e : Ex H H') {v : List V} {d : List PyData} (h : DpAll K H v d) : DpAll K H' v d := dpAll_mono (fun _ _ => ex_l e) (fun _ _ => ex_t e) h
def NiceD (d : PyData) : Prop := d.canLay0 = true ∧ d.depth ≤ 8
/-- v is data, whatever becomes of the object at s -/
def DatV (K : PySem.W.Frag) (H : Hp) (s : Addr) (v : V) : Prop := ∀ H', ExB s H H' → ∃ d, Dp K H' v d ∧ NiceD d
theorem DatV.exB {K : PySem.W.Frag} {H H' : Hp} {s : Addr} {v : V} (h : DatV K H s v) (e : ExB s H H') : DatV K H' s v := fun H2 e2 => h H2 (e.trans e2)
theorem datv_int {K : PySem.W.Frag} {H : Hp} {s : Addr} (i : Int) : DatV K H s (.int i) := fun _ _ => ⟨_, .int i, rfl, Nat.zero_le _⟩
theorem datv_pair {K : PySem.W.Frag} {H : Hp} {s a : Addr} {x y : Int} (h : H a = some (.tup [.int x, .int y])) (n : a ≠ s) : DatV K H s (.ref a) := fun H' e =>
  ⟨_, .tup (SqT.of (e _ _ n h)) (.cons (.int x) (.cons (.int y) .nil)), rfl, Nat.le_of_ble_eq_true rfl⟩
theorem dpAll_ints {K : PySem.W.Frag} {H : Hp} : ∀ ns : List Int, DpAll K H (ns.map V.int) (ns.map PyData.int)
  | [] => .nil
  | n :: r => .cons (.int n) (dpAll_ints r)
theorem canLay_ints : ∀ ns : List Int, PyData.canLayAll0 (ns.map PyData.int) = true
  | [] => rfl
  | n :: r => by
    show (true && PyData.canLayAll0 (r.map PyData.int)) = true
    rw [canLay_ints r]
    rfl
theorem depth_ints : ∀ ns : List Int, PyData.depthAll (ns.map PyData.int) = 0
  | [] => rfl
  | n :: r => by
    show max 0 (PyData.depthAll (r.map PyData.int)) = 0
    rw [depth_ints r]
    rfl
theorem datv_row {K : PySem.W.Frag} {H : Hp} {s a : Addr} {ns : List Int} (h : H a = some (.lst (ns.map V.int))) (n : a ≠ s) : DatV K H s (.ref a) := fun H' e =>
  ⟨_, .lst (SqL.of (e _ _ n h)) (dpAll_ints ns), canLay_ints ns, by
    show PyData.depthAll (ns.map PyData.int) + 1 ≤ 8
    rw [depth_ints]
    decide⟩
theorem dat_all {K : PySem.W.Frag} {H : Hp} {s : Addr} : ∀ {xs : List V}, (∀ v ∈ xs, DatV K H s v) → ∃ ds, DpAll K H xs ds ∧ PyData.canLayAll0 ds = true ∧ PyData.depthAll ds ≤ 8
  | [], _ => ⟨[], .nil, rfl, by decide⟩
  | x :: xs, h => by
    obtain ⟨d, h1, h2, h3⟩ := h x (List.mem_cons_self ..) H (ExB.refl _ _)
    obtain ⟨ds, g1, g2, g3⟩ := dat_all (xs := xs) fun v hv => h v (List.mem_cons_of_mem _ hv)
    refine ⟨d :: ds, .cons h1 g1, ?_, ?_⟩
    · show (d.canLay0 && PyData.canLayAll0 ds) = true
      rw [h2, g2]
      rfl
    · show max d.depth (PyData.depthAll ds) ≤ 8
      omega
theorem shaped_list {ds : List PyData} (h : PyData.canLayAll0 ds = true) (h2 : PyData.depthAll ds ≤ 60) : SeqAt.shaped (.list ds) = true := by
  unfold SeqAt.shaped
  have e1 : (PyData.list ds).canLay0 = true := h
  have e2 : (PyData.list ds).depth ≤ 64 := by
    show PyData.depthAll ds + 1 ≤ 64
    omega
  rw [e1, decide_eq_true e2]
  rfl
theorem eqv_nil (ds : List PyData) : PyData.eqv (.list ds) (.list []) = ds.isEmpty := by
  cases ds <;> rfl
theorem Paired.perm {α β : Type} {R : α → β → Prop} {xs xs' : List α} (hp : xs'.Perm xs) : ∀ {ys : List β}, Paired R xs ys → ∃ ys', ys'.Perm ys ∧ Paired R xs' ys' := by
  induction hp with
  | nil => intro ys h; exact ⟨ys, .refl _, h⟩
  | cons x _ ih =>
    intro ys h
    cases h with
    | cons r t =>
      obtain ⟨ys', p, q⟩ := ih t
      exact ⟨_ :: ys', p.cons _, .cons r q⟩
  | swap x y l =>
    intro ys h
    cases h with
    | cons r t =>
      cases t with
      | cons r2 t2 => exact ⟨_, List.Perm.swap .., .cons r2 (.cons r t2)⟩
  | trans _ _ ih1 ih2 =>
    intro ys h
    obtain ⟨y1, p1, q1⟩ := ih2 h
    obtain ⟨y2, p2, q2⟩ := ih1 q1
    exact ⟨y2, p2.trans p1, q2⟩
theorem fresh_B {s p : Addr} {H H' : Hp} (e : ExB s H H') (hp : H' p = none) (hs : ∃ o, H' s = some o) : H p = none := by
  cases q : H p with
  | none => rfl
  | some o =>
    by_cases h : p = s
    · subst h
      obtain ⟨o', ho'⟩ := hs
      rw [ho'] at hp
      cases hp
    · rw [e p o h q] at hp
      cases hp
theorem SrcAt.ne {H : Hp} {s p : Addr} {n : Int} (h : SrcAt H s n) (hp : H p = none) : p ≠ s := by
  intro e
  subst e
  obtain ⟨o, ho⟩ := h.obj
  rw [ho] at hp
  cases hp
theorem SrcAt.neT {H : Hp} {s p : Addr} {n : Int} {xs : List V} (h : SrcAt H s n) (hp : H p = some (.tup xs)) : p ≠ s := by
  intro e
  subst e
  obtain ⟨_, _, _, ho, _⟩ := h
  rw [ho] at hp
  cases hp
theorem ExB.l {K : PySem.W.Frag} {s a : Addr} {H H' : Hp} {xs : List V} (e : ExB s H H') (n : a ≠ s) (h : SqL K H a xs) : SqL K H' a xs := by
  rcases h with (h | ⟨o, h⟩) | h
  · exact .inl (.inl (e _ _ n h))
  · exact .inl (.inr ⟨o, e _ _ n h⟩)
  · exact .inr h
theorem seqIx {i n : Int} {k : Nat} (h0 : 0 ≤ i) (h1 : i < (k : Int)) : seqIndex? i k = some i.toNat := by
  unfold seqIndex?
  split <;> simp_all <;> omega
theorem erase_perm {α : Type} : ∀ {ls : List α} {k : Nat} {y : α}, ls[k]? = some y → (y :: ls.eraseIdx k).Perm ls
  | [], _, _, h => by simp at h
  | a :: l, 0, y, h => by
    have e := Option.some.inj h
    subst e
    exact .refl _
  | a :: l, k + 1, y, h => (List.Perm.swap a y _).trans ((erase_perm (ls := l) (k := k) h).cons a)
theorem perm_pop {α : Type} {fs ls : List α} {k : Nat} {y : α} (h : ls[k]? = some y) : ((fs ++ [y]) ++ ls.eraseIdx k).Perm (fs ++ ls) := by
  have h1 := erase_perm h
  rw [List.append_assoc]
  exact List.Perm.append_left fs h1
/-- the table at p: its rows at the places as -/
def RowsAt (H : Hp) : List Addr → List (List Int) → Prop := Paired fun a r => H a = some (.lst (r.map V.int))
def Tab (H : Hp) (p : Addr) (as : List Addr) (rows : List (List Int)) : Prop := H p = some (.lst (as.map V.ref)) ∧ RowsAt H as rows
theorem RowsAt.ex {H H' : Hp} (e : Ex H H') : ∀ {as : List Addr} {rows : List (List Int)}, RowsAt H as rows → RowsAt H' as rows
  | _, _, .nil => .nil
  | _, _, .cons h t => .cons (e _ _ h) (RowsAt.ex e t)
theorem Tab.ex {H H' : Hp} {p : Addr} {as : List Addr} {rows : List (List Int)} (h : Tab H p as rows) (e : Ex H H') : Tab H' p as rows := ⟨e _ _ h.1, h.2.ex e⟩
/-! ### edges -/
def EdgesAt (H : Hp) : List Addr → List (Int × Int) → Prop := Paired fun a e => H a = some (.tup [.int e.1, .int e.2])
theorem paired_imp {α β : Type} {R R' : α → β → Prop} (h : ∀ a b, R a b → R' a b) : ∀ {xs : List α} {ys : List β}, Paired R xs ys → Paired R' xs ys
  | _, _, .nil => .nil
  | _, _, .cons r t => .cons (h _ _ r) (paired_imp h t)
theorem EdgesAt.mono {H H' : Hp} {as : List Addr} {es : List (Int × Int)} (h : ∀ a xs, H a = some (.tup xs) → H' a = some (.tup xs)) (x : EdgesAt H as es) : EdgesAt H' as es := paired_imp (fun _ _ r => h _ _ r) x
theorem tups_B {H H' : Hp} {s : Addr} {n : Int} (hs : SrcAt H s n) (e : ExB s H H') : ∀ a xs, H a = some (.tup xs) → H' a = some (.tup xs) := fun a _ h => e a _ (hs.neT h) h
theorem tups_E {H H' : Hp} (e : Ex H H') : ∀ a xs, H a = some (.tup xs) → H' a = some (.tup xs) := fun a _ h => e a _ h
theorem tups_U {H : Hp} {l : Addr} {xs : List V} {o : HO} (h : H l = some (.lst xs)) : ∀ a ys, H a = some (.tup ys) → upd H l o a = some (.tup ys) := fun a ys g => by
  rw [upd_ne (ne_of g h (by intro z; cases z))]
  exact g
def Conn (es : List (Int × Int)) (m : Int) : Prop := ∀ S : Int → Bool, (∀ e ∈ es, S e.1 = S e.2) → ∀ a b, 0 ≤ a → a ≤ m → 0 ≤ b → b ≤ m → S a = S b
theorem Conn.perm {es es' : List (Int × Int)} {m : Int} (h : Conn es m) (p : es'.Perm es) : Conn es' m := fun S hS => h S fun e he => hS e (p.mem_iff.mpr he)
def EdgeTree (pl : List Int) (es : List (Int × Int)) : Prop := ∀ j, j < es.length → ∃ i a b, i ≤ j ∧ pl[i]? = some a ∧ pl[j + 1]? = some b ∧ (es[j]? = some (a, b) ∨ es[j]? = some (b, a))
theorem EdgeTree.more {pl : List Int} {es : List (Int × Int)} {e : Int × Int} {i : Nat} {a b : Int} (h : EdgeTree pl es) (hi : i ≤ es.length) (ha : pl[i]? = some a) (hb : pl[es.length + 1]? = some b) (he : e = (a, b) ∨ e = (b, a)) : EdgeTree pl (es ++ [e]) := by
  intro j hj
  rw [List.length_append] at hj
  have hj' : j < es.length + 1 := hj
  by_cases h1 : j < es.length
  · obtain ⟨i', a', b', x1, x2, x3, x4⟩ := h j h1
    refine ⟨i', a', b', x1, x2, x3, ?_⟩
    rw [List.getElem?_append_left h1]
    exact x4
  · have h2 : j = es.length := by omega
    subst h2
    refine ⟨i, a, b, hi, ha, hb, ?_⟩
    rw [List.getElem?_append_right (Nat.le_refl _), Nat.sub_self]
    rcases he with rfl | rfl
    · exact .inl rfl
    · exact .inr rfl
theorem EdgeTree.conn {pl : List Int} {es : List (Int × Int)} {m : Nat} (h : EdgeTree pl es) (hl : es.length = m) (hp : pl.length = m + 1) (hall : ∀ a : Int, 0 ≤ a → a ≤ m → a ∈ pl) : Conn es m := by
  intro S hS
  have key : ∀ j : Nat, ∀ j' : Nat, j' ≤ j → ∀ a, pl[j']? = some a → ∀ z, pl[0]? = some z → S a = S z := by
    intro j
    induction j with
    | zero =>
      intro j' hj' a ha z hz
      have : j' = 0 := by omega
      subst this
      rw [hz] at ha
      rw [Option.some.inj ha]
    | succ j ih =>
      intro j' hj' a ha z hz
      by_cases h1 : j' ≤ j
      · exact ih j' h1 a ha z hz
      · have h2 : j' = j + 1 := by omega
        subst h2
        have hlt : j + 1 < pl.length := (List.getElem?_eq_some_iff.mp ha).1
        obtain ⟨i, x, y, hi, hx, hy, he⟩ := h j (by omega)
        rw [ha] at hy
        have ey := Option.some.inj hy
        subst ey
        have hSe : S x = S a := by
          rcases he with he | he
          · exact hS (x, a) (List.mem_of_getElem? he)
          · exact (hS (a, x) (List.mem_of_getElem? he)).symm
        rw [← hSe]
        exact ih i hi x hx z hz
  intro a b ha ha' hb hb'
  obtain ⟨i, hi⟩ := List.getElem?_of_mem (hall a ha ha')
  obtain ⟨j, hj⟩ := List.getElem?_of_mem (hall b hb hb')
  have hz : ∃ z, pl[0]? = some z := ⟨_, List.getElem?_eq_getElem (by omega)⟩
  obtain ⟨z, hz⟩ := hz
  rw [key i i (Nat.le_refl _) a hi z hz, key j j (Nat.le_refl _) b hj z hz]
theorem paired_map {α β : Type} {R : α → β → Prop} (f : β → α) (h : ∀ b, R (f b) b) : ∀ ys : List β, Paired R (ys.map f) ys
  | [] => .nil
  | b :: r => .cons (h b) (paired_map f h r)
theorem paired_eq_map {α β : Type} {f : β → α} : ∀ {xs : List α} {ys : List β}, Paired (fun x y => x = f y) xs ys → xs = ys.map f
  | _, _, .nil => rfl
  | _, _, .cons r t => by rw [r, paired_eq_map t]; rfl
theorem perm_ints {ys : List V} {ns : List Int} (h : ys.Perm (ns.map V.int)) : ∃ pl : List Int, ys = pl.map V.int ∧ pl.Perm ns := by
  obtain ⟨pl, p, q⟩ := Paired.perm (R := fun (x : V) y => x = V.int y) h (paired_map V.int (fun _ => rfl) ns)
  exact ⟨pl, paired_eq_map q, p⟩
theorem perm_refs {β : Type} {R : Addr → β → Prop} {ys : List V} {as : List Addr} {es : List β} (h : ys.Perm (as.map V.ref)) (hx : Paired R as es) : ∃ (as' : List Addr) (es' : List β), ys = as'.map V.ref ∧ es'.Perm es ∧ Paired R as' es' ∧ as'.Perm as := by
  obtain ⟨as', p, q⟩ := Paired.perm (R := fun (x : V) y => x = V.ref y) h (paired_map V.ref (fun _ => rfl) as)
  obtain ⟨es', p2, q2⟩ := Paired.perm p hx
  exact ⟨as', es', paired_eq_map q, p2, q2, p⟩
def numsTo (m : Nat) : List Int := (List.range m).map fun i : Nat => (i : Int)
theorem rgV_nums (m : Int) : rgV 0 m = (numsTo m.toNat).map V.int := by
  unfold rgV numsTo
  rw [List.map_map, Int.sub_zero]
  refine List.map_congr_left fun i _ => ?_
  show V.int (0 + (i : Int)) = V.int (i : Int)
  rw [Int.zero_add]
theorem mem_numsTo {m : Nat} {a : Int} : a ∈ numsTo m ↔ 0 ≤ a ∧ a < m := by
  unfold numsTo
  rw [List.mem_map]
  constructor
  · rintro ⟨i, hi, rfl⟩
    have := List.mem_range.mp hi
    omega
  · rintro ⟨h0, h1⟩
    exact ⟨a.toNat, List.mem_range.mpr (by omega), by omega⟩
theorem numsTo_length (m : Nat) : (numsTo m).length = m := by
  unfold numsTo
  rw [List.length_map, List.length_range]
theorem paired_snoc {α β : Type} {R : α → β → Prop} {a : α} {b : β} {xs : List α} {ys : List β} (h : Paired R xs ys) (r : R a b) : Paired R (xs ++ [a]) (ys ++ [b]) := Paired.snoc h r
theorem paired_mem {α β : Type} {R : α → β → Prop} : ∀ {xs : List α} {ys : List β} {x : α}, Paired R xs ys → x ∈ xs → ∃ y, y ∈ ys ∧ R x y
  | _, _, _, .nil, h => by simp at h
  | _, _, x, .cons (a := a) r t, h => by
    rcases List.mem_cons.mp h with e | h
    · subst e
      exact ⟨_, List.mem_cons_self .., r⟩
    · obtain ⟨y, hy, hr⟩ := paired_mem t h
      exact ⟨y, List.mem_cons_of_mem _ hy, hr⟩
/-! ### loops and comprehensions over more -/
theorem for_enum {K : PySem.W.Frag} {a : Addr} {xs : List V} {g : TG} {tb : TS} {D : Ends} {σ : L2.St} {H : Hp} (Pv : Nat → L2.St → Hp → Prop) (h0 : Pv 0 σ H) (hq : ∀ i σ H, Pv i σ H → SqL K H a xs)
    (hs : ∀ (i : Nat) (x : V) (T : Addr) (σ : L2.St) (H : Hp), xs[i]? = some x → Pv i σ H → H T = none → g (.ref T) σ (upd H T (.tup [.int (i : Nat), x])) fun σ2 H2 => tb { D with nx := Pv (i + 1), ct := Pv (i + 1), bk := D.nx } σ2 H2) (hd : ∀ σ H, Pv xs.length σ H → D.nx σ H) :
    ∃ W : Nat → Nat → L2.St → Hp → Prop, (∃ m, W 0 m σ H) ∧ ∀ i m σ H, W i m σ H →
      ((Ite K a).stop i H ∧ D.nx σ H) ∨ ((Ite K a).go i H ∧ ∃ N : L2.St → Hp → Prop, (∀ σ' H', N σ' H' → ∃ m', m' < m ∧ W (i + 1) m' σ' H') ∧ ∀ v H', (Ite K a).yld i H v H' → g v σ H' fun σ2 H2 => tb { D with nx := N, ct := N, bk := D.nx } σ2 H2) := by
  refine ⟨fun i m σ H => m = xs.length - i ∧ i ≤ xs.length ∧ Pv i σ H, ⟨xs.length, rfl, Nat.zero_le _, h0⟩, ?_⟩
  rintro i m σ H ⟨rfl, hi, p⟩
  have qx := hq i σ H p
  by_cases hlt : i < xs.length
  · have hx : xs[i]? = some xs[i] := List.getElem?_eq_getElem hlt
    refine .inr ⟨⟨xs, _, qx, hx⟩, Pv (i + 1), fun σ' H' p' => ⟨xs.length - (i + 1), by omega, rfl, hlt, p'⟩, fun v H' y => ?_⟩
    obtain ⟨T, x', rfl, hT, rfl, f1⟩ := y
    exact hs i x' T σ H (f1 xs qx) p hT
  · have e : i = xs.length := by omega
    subst e
    exact .inl ⟨⟨xs, qx, Nat.le_refl _⟩, hd σ H p⟩
theorem lc_zip {K : PySem.W.Frag} {a b : Addr} {xs ys : List V} {g : TG} {tt : TT} {te : TE} {vs : List Nat} {σ : L2.St} {H1 : Hp} {D : Addr} {Qd : Hp → Prop} (hl : xs.length = ys.length) (Pv : Nat → Hp → Prop) (h0 : Pv 0 (upd H1 D (.lst []))) (hq : ∀ i H, Pv i H → SqL K H a xs ∧ SqL K H b ys)
    (hs : ∀ (i : Nat) (x y : V) (T : Addr) (H : Hp), xs[i]? = some x → ys[i]? = some y → Pv i H → H T = none → g (.ref T) (wipe σ vs) (upd H T (.tup [x, y])) fun σ2 H2 => wipe σ2 vs = wipe σ vs ∧ tt σ2 H2 fun b H3 =>
      if b = true then te σ2 H3 fun y H4 => ∃ acc, H4 D = some (.lst acc) ∧ acc.length < sizeLine ∧ Pv (i + 1) (upd H4 D (.lst (acc ++ [y]))) else Pv (i + 1) H3) (hd : ∀ H, Pv xs.length H → Qd H) :
    ∃ W : Nat → Nat → Hp → Prop, (∃ m, W 0 m (upd H1 D (.lst []))) ∧ ∀ i m H, W i m H →
      ((Itz K a b).stop i H ∧ Qd H) ∨ ((Itz K a b).go i H ∧ ∃ Nx : Hp → Prop, (∀ H', Nx H' → ∃ m', m' < m ∧ W (i + 1) m' H') ∧ ∀ x H', (Itz K a b).yld i H x H' → g x (wipe σ vs) H' fun σ2 H2 => wipe σ2 vs = wipe σ vs ∧ tt σ2 H2 fun b H3 =>
        if b = true then te σ2 H3 fun y H4 => ∃ acc, H4 D = some (.lst acc) ∧ acc.length < sizeLine ∧ Nx (upd H4 D (.lst (acc ++ [y]))) else Nx H3) := by
  refine ⟨fun i m H => m = xs.length - i ∧ i ≤ xs.length ∧ Pv i H, ⟨xs.length, rfl, Nat.zero_le _, h0⟩, ?_⟩
  rintro i m H ⟨rfl, hi, p⟩
  obtain ⟨qx, qy⟩ := hq i H p
  by_cases hlt : i < xs.length
  · have hx : xs[i]? = some xs[i] := List.getElem?_eq_getElem hlt
    have hlt2 : i < ys.length := by omega
    have hy : ys[i]? = some ys[i] := List.getElem?_eq_getElem hlt2
    refine .inr ⟨⟨xs, ys, _, _, qx, qy, hx, hy⟩, Pv (i + 1), fun H' p' => ⟨xs.length - (i + 1), by omega, rfl, hlt, p'⟩, fun v H' y => ?_⟩
    obtain ⟨T, x', y', rfl, hT, rfl, f1, f2⟩ := y
    exact hs i x' y' T H (f1 xs qx) (f2 ys qy) p hT
  · have e : i = xs.length := by omega
    subst e
    exact .inl ⟨⟨xs, ys, qx, qy, Or.inl (Nat.le_refl _)⟩, hd H p⟩
abbrev g2 (K : PySem.W.Frag) (j1 j2 : Nat) : TG := gTup K 2 (gCons (gName j1) (gCons (gName j2) gNil))
theorem take_snoc {α : Type} {l : List α} {i : Nat} {x : α} (h : l[i]? = some x) : l.take (i + 1) = l.take i ++ [x] := by
  rw [List.take_add_one, h]
  rfl
/-- [f(x, y) for x, y in zip(xs, ys)] -/
theorem el_zip {K : PySem.W.Frag} {ta : TA} {te : TE} {vs : List Nat} {j1 j2 : Nat} {σ : L2.St} {H : Hp} {a b : Addr} {xs ys : List Int} (f : Int → Int → Int) (h : EvA ta σ H [.ref a, .ref b]) (hx : SqL K H a (xs.map V.int)) (hy : SqL K H b (ys.map V.int)) (hl : xs.length = ys.length) (hz : xs.length ≤ 1000)
    (hw : ∀ u v, wipe (((wipe σ vs).set j1 (some u)).set j2 (some v)) vs = wipe σ vs)
    (he : ∀ x y H1, x ∈ xs → y ∈ ys → Ex H H1 → Ev te (((wipe σ vs).set j1 (some (.int x))).set j2 (some (.int y))) H1 (.int (f x y))) : EvL (tLc (iZip K ta) (g2 K j1 j2) tYes te vs) σ H ((List.zipWith f xs ys).map V.int) := fun H0 e Q q => h H0 e _ fun H1 e1 => by
  have hx1 := ex_l (e.trans e1) hx
  have hy1 := ex_l (e.trans e1) hy
  refine ⟨a, b, _, _, rfl, hx1, hy1, fun D hD => ?_⟩
  refine lc_zip (xs := xs.map V.int) (ys := ys.map V.int) (by rw [List.length_map, List.length_map]; exact hl) (fun i H' => Ex H1 H' ∧ H' D = some (.lst (((List.zipWith f xs ys).take i).map V.int))) ⟨Ex.new hD, upd_same⟩ (fun i H' p => ⟨ex_l p.1 hx1, ex_l p.1 hy1⟩) (fun i x y T H' gx gy p nT => ?_) (fun H' p => ?_)
  · obtain ⟨p1, p2⟩ := p
    rw [List.getElem?_map] at gx gy
    obtain ⟨x', hx', rfl⟩ := Option.map_eq_some_iff.mp gx
    obtain ⟨y', hy', rfl⟩ := Option.map_eq_some_iff.mp gy
    refine ⟨T, _, rfl, SqT.of upd_same, rfl, _, _, rfl, _, _, rfl, rfl, hw _ _, ?_⟩
    show te _ _ _
    have xT : Ex H' (upd H' T (.tup [.int x', .int y'])) := Ex.new nT
    refine he x' y' H (List.mem_of_getElem? hx') (List.mem_of_getElem? hy') (Ex.refl H) _ ((e.trans e1).trans (p1.trans xT)) _ fun H4 e4 => ?_
    refine ⟨_, e4 _ _ (xT _ _ p2), ?_, Ex.mut ((p1.trans xT).trans e4) hD, ?_⟩
    · rw [List.length_map, List.length_take]
      have := (List.getElem?_eq_some_iff.mp hx').1
      exact small1000 (by omega)
    · have hzz : (List.zipWith f xs ys)[i]? = some (f x' y') := by
        rw [List.getElem?_zipWith, hx', hy']
      rw [upd_same, take_snoc hzz, List.map_append]
      rfl
  · obtain ⟨p1, p2⟩ := p
    rw [List.take_of_length_le (by rw [List.length_zipWith, List.length_map]; omega)] at p2
    exact q D H' (fresh_back e1 hD) (e1.trans p1) p2
/-- [g(x, y) for x, y in qs], qs a list of pairs -/
theorem el_pairs {K : PySem.W.Frag} {n : Nat} {te : TE} {vs : List Nat} {j1 j2 : Nat} {σ : L2.St} {H : Hp} {a : Addr} {bs : List Addr} {qs : List (Int × Int)} (f : Int × Int → Int) (hσ : σ[n]? = some (some (.ref a))) (hx : H a = some (.lst (bs.map V.ref))) (hE : EdgesAt H bs qs) (hz : qs.length ≤ 1000)
    (hw : ∀ u v, wipe (((wipe σ vs).set j1 (some u)).set j2 (some v)) vs = wipe σ vs)
    (he : ∀ e H1, e ∈ qs → Ex H H1 → Ev te (((wipe σ vs).set j1 (some (.int e.1))).set j2 (some (.int e.2))) H1 (.int (f e))) : EvL (tLc (iList K (tVar n)) (g2 K j1 j2) tYes te vs) σ H ((qs.map f).map V.int) := fun H1 e1 Q q => by
  have hx1 := e1 _ _ hx
  have el : bs.length = qs.length := Paired.length hE
  refine ⟨_, hσ, a, rfl, ⟨_, SqL.of hx1⟩, fun D hD => ?_⟩
  refine lc_list (K := K) (a := a) (xs := bs.map V.ref) (fun i H' => Ex H1 H' ∧ H' D = some (.lst (((qs.map f).take i).map V.int))) ⟨Ex.new hD, upd_same⟩ (fun i H' _ p => SqL.of (p.1 _ _ hx1)) (fun i x H' gx p => ?_) (fun H' p => ?_)
  · obtain ⟨p1, p2⟩ := p
    rw [List.getElem?_map] at gx
    obtain ⟨b, hb, rfl⟩ := Option.map_eq_some_iff.mp gx
    obtain ⟨ed, hed, hr⟩ := paired_get hE hb
    refine ⟨b, _, rfl, SqT.of ((e1.trans p1) _ _ hr), rfl, _, _, rfl, _, _, rfl, rfl, hw _ _, ?_⟩
    show te _ _ _
    refine he ed H (List.mem_of_getElem? hed) (Ex.refl H) _ (e1.trans p1) _ fun H4 e4 => ?_
    refine ⟨_, e4 _ _ p2, ?_, Ex.mut (p1.trans e4) hD, ?_⟩
    · rw [List.length_map, List.length_take, List.length_map]
      exact small1000 (by omega)
    · have hzz : (qs.map f)[i]? = some (f ed) := by rw [List.getElem?_map, hed]; rfl
      rw [upd_same, take_snoc hzz, List.map_append]
      rfl
  · obtain ⟨p1, p2⟩ := p
    rw [List.take_of_length_le (by rw [List.length_map, List.length_map]; omega)] at p2
    exact q D H' hD p1 p2
/-- [[..] for i in range(m)]: new rows -/
theorem lc_rows {ta : TA} {te : TE} {vs : List Nat} {j : Nat} {σ : L2.St} {H : Hp} {Q : VK} {m : Nat} (F : Nat → List Int) (h : EvA ta σ H [.int (m : Int)]) (hm : m ≤ 1000) (hw : ∀ u, wipe ((wipe σ vs).set j (some u)) vs = wipe σ vs)
    (he : ∀ i H1, Ex H H1 → i < m → EvL te ((wipe σ vs).set j (some (.int (i : Int)))) H1 ((F i).map V.int))
    (k : ∀ p as H2, H p = none → (∀ a ∈ as, H a = none) → as.Nodup → p ∉ as → Ex H H2 → Tab H2 p as ((List.range m).map F) → Q (.ref p) H2) : tLc (iRng1 ta) (gName j) tYes te vs σ H Q := by
  refine h H (Ex.refl H) _ fun H1 e1 => ⟨(m : Int), rfl, by omega, by omega, fun D hD => ?_⟩
  have hDH : H D = none := fresh_back e1 hD
  refine lc_range (lo := 0) (n := (m : Int).toNat) (fun i H' => ∃ as, Ex H1 H' ∧ H' D = some (.lst (as.map V.ref)) ∧ RowsAt H' as ((List.range i).map F) ∧ (∀ a ∈ as, H a = none) ∧ as.Nodup ∧ D ∉ as) ⟨[], Ex.new hD, upd_same, .nil, fun a ha => by simp at ha, List.nodup_nil, by simp⟩ (fun i H' hi p => ?_) (fun H' p => ?_)
  · obtain ⟨as, p1, p2, p3, p4, p5, p6⟩ := p
    have el : as.length = i := by rw [Paired.length p3, List.length_map, List.length_range]
    have e0 : (0 : Int) + (i : Int) = (i : Int) := Int.zero_add _
    refine ⟨hw _, ?_⟩
    show te ((wipe σ vs).set j (some (.int ((0 : Int) + (i : Int))))) H' _
    rw [e0]
    refine he i H' (e1.trans p1) (by omega) H' (Ex.refl _) _ fun r H4 nr e4 hr => ?_
    have nrD : r ≠ D := fun z => by
      rw [z, p2] at nr
      cases nr
    refine ⟨_, e4 _ _ p2, ?_, as ++ [r], Ex.mut (p1.trans e4) hD, ?_, ?_, ?_, ?_, ?_⟩
    · rw [List.length_map, el]
      exact small1000 (by omega)
    · rw [upd_same, List.map_append]
      rfl
    · rw [List.range_succ, List.map_append]
      have st : ∀ a (l : List Int), a ≠ D → H4 a = some (.lst (l.map V.int)) → upd H4 D (.lst (as.map V.ref ++ [.ref r])) a = some (.lst (l.map V.int)) := fun a l n g => by
        rw [upd_ne n]
        exact g
      refine paired_snoc ?_ (st r _ nrD hr)
      have aux : ∀ {as' : List Addr} {rs : List (List Int)}, D ∉ as' → RowsAt H' as' rs → RowsAt (upd H4 D (.lst (as.map V.ref ++ [.ref r]))) as' rs := by
        intro as' rs hn hp
        induction hp with
        | nil => exact .nil
        | cons g t ih => exact .cons (st _ _ (fun z => hn (by rw [z]; exact List.mem_cons_self ..)) (e4 _ _ g)) (ih fun z => hn (List.mem_cons_of_mem _ z))
      exact aux p6 p3
    · intro a ha
      rcases List.mem_append.mp ha with h | h
      · exact p4 a h
      · have : a = r := by simpa using h
        rw [this]
        exact fresh_back (e1.trans p1) nr
    · refine List.nodup_append.mpr ⟨p5, by simp, fun a ha b hb => ?_⟩
      have : b = r := by simpa using hb
      rw [this]
      intro z
      rw [z] at ha
      obtain ⟨x, _, hx⟩ := paired_mem p3 ha
      rw [nr] at hx
      cases hx
    · intro ha
      rcases List.mem_append.mp ha with h | h
      · exact p6 h
      · exact nrD (by simpa using h : D = r).symm
  · obtain ⟨as, p1, p2, p3, p4, p5, p6⟩ := p
    have em : (m : Int).toNat = m := by omega
    rw [em] at p3
    exact k D as H' hDH p4 p5 p6 (e1.trans p1) ⟨p2, p3⟩
/-! ### a dict of rows by places -/
theorem nodup_sub {α : Type} [DecidableEq α] : ∀ {l1 l2 : List α}, l1.Nodup → (∀ x ∈ l1, x ∈ l2) → l1.length ≤ l2.length
  | [], _, _, _ => Nat.zero_le _
  | a :: t, l2, hn, hs => by
    have h1 := List.nodup_cons.mp hn
    have ha := hs a (List.mem_cons_self ..)
    have ih := nodup_sub (l1 := t) (l2 := l2.erase a) h1.2 fun x hx => (List.mem_erase_of_ne (fun z => h1.1 (by rw [← z]; exact hx))).mpr (hs x (List.mem_cons_of_mem _ hx))
    rw [List.length_erase_of_mem ha] at ih
    have := List.length_pos_of_mem ha
    simp only [List.length_cons]
    omega
theorem rep_flat : ∀ m : Nat, (List.replicate m [V.int 0]).flatten = (List.replicate m 0).map V.int
  | 0 => rfl
  | m + 1 => by
    rw [List.replicate_succ, List.flatten_cons, rep_flat m]
    rfl
theorem nodup_nums (m : Nat) : (numsTo m).Nodup := by
  unfold numsTo
  exact List.Pairwise.map _ (fun a b h z => h (by omega)) List.nodup_range
theorem val_mem : ∀ {kvs : List (Key × V)} {L : List Int} {x : Int}, kvs.map (·.1) = L.map Sum.inl → ((valV kvs (Sum.inl x : Key)).isSome = true ↔ x ∈ L)
  | [], L, x, h => by
    cases L with
    | nil => simp [valV]
    | cons a l => simp at h
  | kv :: r, L, x, h => by
    cases L with
    | nil => simp at h
    | cons a l =>
      have h1 : kv.1 = Sum.inl a ∧ r.map (·.1) = l.map Sum.inl := by
        have := List.cons.inj h
        exact ⟨this.1, this.2⟩
      have ih := val_mem (kvs := r) (L := l) (x := x) h1.2
      by_cases e : x = a
      · subst e
        rw [valV_pos h1.1]
        simp
      · have ne : ¬ kv.1 = Sum.inl x := by
          rw [h1.1]
          intro z
          exact e (Sum.inl.inj z).symm
        have e2 : valV (kv :: r) (Sum.inl x : Key) = valV r (Sum.inl x : Key) := by
          simp [valV, List.find?_cons, ne]
        rw [e2, ih, List.mem_cons]
        exact ⟨Or.inr, fun z => z.resolve_left e⟩
/-- the dict at d: rows of m whole numbers by the places L -/
structure FarOk (H : Hp) (d : Addr) (m : Nat) (kvs : List (Key × V)) (L : List Int) : Prop where
  at_ : H d = some (.dK kvs)
  keys : kvs.map (·.1) = L.map Sum.inl
  nd : L.Nodup
  inn : ∀ x ∈ L, 0 ≤ x ∧ x ≤ m
  row : ∀ x v, valV kvs (Sum.inl x : Key) = some v → ∃ (a : Addr) (ns : List Int), v = .ref a ∧ H a = some (.lst (ns.map V.int)) ∧ ns.length = m ∧ ∀ y ∈ ns, y.natAbs ≤ L.length
theorem FarOk.len {H : Hp} {d : Addr} {m : Nat} {kvs : List (Key × V)} {L : List Int} (h : FarOk H d m kvs L) : kvs.length = L.length := by
  rw [← List.length_map (f := (·.1)), h.keys, List.length_map]
theorem FarOk.le {H : Hp} {d : Addr} {m : Nat} {kvs : List (Key × V)} {L : List Int} (h : FarOk H d m kvs L) : L.length ≤ m + 1 := by
  have := nodup_sub (l2 := numsTo (m + 1)) h.nd fun x hx => mem_numsTo.mpr (by have := h.inn x hx; omega)
  rw [numsTo_length] at this
  exact this
theorem FarOk.all {H : Hp} {d : Addr} {m : Nat} {kvs : List (Key × V)} {L : List Int} (h : FarOk H d m kvs L) (hl : m < L.length) : ∀ x : Int, 0 ≤ x → x ≤ m → x ∈ L := by
  intro x h0 h1
  by_cases hx : x ∈ L
  · exact hx
  · have h2 := nodup_sub (l1 := x :: L) (l2 := numsTo (m + 1)) (List.nodup_cons.mpr ⟨hx, h.nd⟩) fun y hy => mem_numsTo.mpr (by
      rcases List.mem_cons.mp hy with rfl | hy
      · omega
      · have := h.inn y hy
        omega)
    rw [numsTo_length, List.length_cons] at h2
    omega
theorem FarOk.ex {H H' : Hp} {d : Addr} {m : Nat} {kvs : List (Key × V)} {L : List Int} (h : FarOk H d m kvs L) (e : Ex H H') : FarOk H' d m kvs L :=
  ⟨e _ _ h.at_, h.keys, h.nd, h.inn, fun x v hv => by
    obtain ⟨a, ns, h1, h2, h3, h4⟩ := h.row x v hv
    exact ⟨a, ns, h1, e _ _ h2, h3, h4⟩⟩
theorem FarOk.get {H : Hp} {d : Addr} {m : Nat} {kvs : List (Key × V)} {L : List Int} (h : FarOk H d m kvs L) {x : Int} (hx : x ∈ L) : ∃ (a : Addr) (ns : List Int), valV kvs (Sum.inl x : Key) = some (.ref a) ∧ H a = some (.lst (ns.map V.int)) ∧ ns.length = m ∧ ∀ y ∈ ns, y.natAbs ≤ L.length := by
  have hs := (val_mem h.keys).mpr hx
  obtain ⟨v, hv⟩ := Option.isSome_iff_exists.mp hs
  obtain ⟨a, ns, h1, h2, h3, h4⟩ := h.row x v hv
  subst h1
  exact ⟨a, ns, hv, h2, h3, h4⟩
theorem FarOk.no {H : Hp} {d : Addr} {m : Nat} {kvs : List (Key × V)} {L : List Int} (h : FarOk H d m kvs L) {x : Int} (hx : x ∉ L) : valV kvs (Sum.inl x : Key) = none := by
  cases q : valV kvs (Sum.inl x : Key) with
  | none => rfl
  | some v => exact absurd ((val_mem h.keys).mp (by rw [q]; rfl)) hx
theorem FarOk.some_ {H : Hp} {d : Addr} {m : Nat} {kvs : List (Key × V)} {L : List Int} (h : FarOk H d m kvs L) (x : Int) : (valV kvs (Sum.inl x : Key)).isSome = decide (x ∈ L) := by
  rw [Bool.eq_iff_iff, val_mem h.keys, decide_eq_true_iff]
theorem FarOk.put {H : Hp} {d : Addr} {m : Nat} {kvs : List (Key × V)} {L : List Int} {x : Int} {a : Addr} {ns : List Int} (h : FarOk H d m kvs L) (hx : x ∉ L) (h0 : 0 ≤ x ∧ x ≤ m) (ha : H a = some (.lst (ns.map V.int))) (hl : ns.length = m) (hb : ∀ y ∈ ns, y.natAbs ≤ L.length + 1) :
    FarOk (upd H d (.dK (putK kvs (Sum.inl x) (.ref a)))) d m (putK kvs (Sum.inl x) (.ref a)) (L ++ [x]) := by
  have hn := h.no hx
  have ne : ∀ b (l : List V), H b = some (.lst l) → b ≠ d := fun b l g => ne_of g h.at_ (by intro z; cases z)
  refine ⟨upd_same, ?_, ?_, ?_, ?_⟩
  · rw [putK_new _ hn, List.map_append, List.map_append, h.keys]
    rfl
  · refine List.nodup_append.mpr ⟨h.nd, by simp, fun y hy z hz => ?_⟩
    have : z = x := by simpa using hz
    rw [this]
    intro e
    exact hx (e ▸ hy)
  · intro y hy
    rcases List.mem_append.mp hy with q | q
    · exact h.inn y q
    · have : y = x := by simpa using q
      rw [this]
      exact h0
  · intro y v hv
    rw [valV_put] at hv
    rw [List.length_append]
    by_cases e : (Sum.inl y : Key) = Sum.inl x
    · rw [if_pos e] at hv
      have ev := Option.some.inj hv
      subst ev
      refine ⟨a, ns, rfl, ?_, hl, hb⟩
      rw [upd_ne (ne a _ ha)]
      exact ha
    · rw [if_neg e] at hv
      obtain ⟨b, l, h1, h2, h3, h4⟩ := h.row y v hv
      refine ⟨b, l, h1, ?_, h3, fun z hz => Nat.le_succ_of_le (h4 z hz)⟩
      rw [upd_ne (ne b _ h2)]
      exact h2
theorem ev_dget {σ : L2.St} {H : Hp} {i j : Nat} {d : Addr} {x : Int} {kvs : List (Key × V)} {v : V} (h1 : σ[i]? = some (some (.ref d))) (h2 : σ[j]? = some (some (.int x))) (hd : H d = some (.dK kvs)) (hv : valV kvs (Sum.inl x : Key) = some v) : Ev (tDGet (tVar i) (tVar j)) σ H v := fun H1 e Q q =>
  ⟨_, h1, _, h2, d, v, rfl, by rw [← hv]; exact DGet.k (k := Sum.inl x) (e _ _ hd), q H1 (Ex.refl _)⟩
/-- the kk-th number of the row that stands by x -/
def rowOf : Option HO → List Int
  | some (.lst xs) => xs.map fun v => match v with | .int i => i | _ => 0
  | _ => []
theorem rowOf_ints (ns : List Int) : rowOf (some (.lst (ns.map V.int))) = ns := by
  show (ns.map V.int).map (fun v => match v with | V.int i => i | _ => 0) = ns
  rw [List.map_map]
  exact List.map_id' ns
def valN (H : Hp) (kvs : List (Key × V)) (x : Int) (kk : Nat) : Int :=
  match valV kvs (Sum.inl x : Key) with
  | some (.ref a) => (rowOf (H a))[kk]?.getD 0
  | _ => 0
theorem valN_eq {H : Hp} {kvs : List (Key × V)} {x : Int} {kk : Nat} {a : Addr} {ns : List Int} (h : valV kvs (Sum.inl x : Key) = some (.ref a)) (g : H a = some (.lst (ns.map V.int))) : valN H kvs x kk = ns[kk]?.getD 0 := by
  unfold valN
  rw [h]
  show (rowOf (H a))[kk]?.getD 0 = _
  rw [g, rowOf_ints]
theorem atI_row {ns : List Int} {kk : Nat} (h : kk < ns.length) : atI (ns.map V.int) (kk : Int) = some (.int (ns[kk]?.getD 0)) := by
  refine atI_nat ?_
  rw [List.getElem?_map, List.getElem?_eq_getElem h]
  rfl
/-- a new table (new since H): m rows of w numbers, none greater than B -/
structure NewTab (H H' : Hp) (p : Addr) (as : List Addr) (rows : List (List Int)) (w B : Nat) : Prop where
  p0 : H p = none
  a0 : ∀ a ∈ as, H a = none
  nd : as.Nodup
  np : p ∉ as
  tab : Tab H' p as rows
  ok : ∀ r ∈ rows, r.length = w ∧ ∀ y ∈ r, y.natAbs ≤ B
theorem NewTab.ex {H H' H2 : Hp} {p : Addr} {as : List Addr} {rows : List (List Int)} {w B : Nat} (h : NewTab H H' p as rows w B) (e : Ex H' H2) : NewTab H H2 p as rows w B := ⟨h.p0, h.a0, h.nd, h.np, h.tab.ex e, h.ok⟩
theorem rows_but {H H' : Hp} : ∀ {as : List Addr} {rows : List (List Int)}, RowsAt H as rows → (∀ a ∈ as, ∀ o, H a = some o → H' a = some o) → RowsAt H' as rows
  | _, _, .nil, _ => .nil
  | _, _, .cons g t, h => .cons (h _ (List.mem_cons_self ..) _ g) (rows_but t fun a ha => h a (List.mem_cons_of_mem _ ha))
theorem NewTab.exB {H H' H2 : Hp} {s p : Addr} {as : List Addr} {rows : List (List Int)} {w B : Nat} (h : NewTab H H' p as rows w B) (e : ExB s H' H2) (hs : ∃ o, H s = some o) : NewTab H H2 p as rows w B := by
  obtain ⟨o, ho⟩ := hs
  have n1 : p ≠ s := fun z => by
    have := h.p0
    rw [z, ho] at this
    cases this
  have n2 : ∀ a ∈ as, a ≠ s := fun a ha z => by
    have := h.a0 a ha
    rw [z, ho] at this
    cases this
  exact ⟨h.p0, h.a0, h.nd, h.np, ⟨e _ _ n1 h.tab.1, rows_but h.tab.2 fun a ha o' g => e a o' (n2 a ha) g⟩, h.ok⟩
theorem NewTab.back {H0 H H' : Hp} {s p : Addr} {as : List Addr} {rows : List (List Int)} {w B : Nat} (h : NewTab H H' p as rows w B) (e : ExB s H0 H) (hs : ∃ o, H s = some o) : NewTab H0 H' p as rows w B :=
  ⟨fresh_B e h.p0 hs, fun a ha => fresh_B e (h.a0 a ha) hs, h.nd, h.np, h.tab, h.ok⟩
theorem NewTab.mono {H H' : Hp} {p : Addr} {as : List Addr} {rows : List (List Int)} {w B B' : Nat} (h : NewTab H H' p as rows w B) (hb : B ≤ B') : NewTab H H' p as rows w B' :=
  ⟨h.p0, h.a0, h.nd, h.np, h.tab, fun r hr => ⟨(h.ok r hr).1, fun y hy => Nat.le_trans ((h.ok r hr).2 y hy) hb⟩⟩
/-- found.append(a new row) -/
theorem NewTab.app {H H' H2 : Hp} {p r : Addr} {as : List Addr} {rows : List (List Int)} {row : List Int} {w B : Nat} (h : NewTab H H' p as rows w B) (e0 : ∀ a, H' a = none → H a = none) (e : Ex H' H2) (nr : H' r = none) (hr : H2 r = some (.lst (row.map V.int))) (hl : row.length = w) (hb : ∀ y ∈ row, y.natAbs ≤ B) :
    NewTab H (upd H2 p (.lst (as.map V.ref ++ [.ref r]))) p (as ++ [r]) (rows ++ [row]) w B := by
  have nrp : r ≠ p := fun z => by
    rw [z, h.tab.1] at nr
    cases nr
  have nra : r ∉ as := fun ha => by
    obtain ⟨x, _, hx⟩ := paired_mem h.tab.2 ha
    rw [nr] at hx
    cases hx
  refine ⟨h.p0, fun a ha => ?_, ?_, ?_, ⟨?_, ?_⟩, fun x hx => ?_⟩
  · rcases List.mem_append.mp ha with q | q
    · exact h.a0 a q
    · have : a = r := by simpa using q
      rw [this]
      exact e0 r nr
  · refine List.nodup_append.mpr ⟨h.nd, by simp, fun a ha b hb z => ?_⟩
    have : b = r := by simpa using hb
    exact nra (by rw [← this, ← z]; exact ha)
  · intro ha
    rcases List.mem_append.mp ha with q | q
    · exact h.np q
    · exact nrp (by simpa using q : p = r).symm
  · rw [upd_same, List.map_append]
    rfl
  · refine paired_snoc (rows_but h.tab.2 fun a ha o g => ?_) ?_
    · rw [upd_ne (fun z => h.np (by rw [← z]; exact ha))]
      exact e a o g
    · rw [upd_ne nrp]
      exact hr
  · rcases List.mem_append.mp hx with q | q
    · exact h.ok x q
    · have : x = row := by simpa using q
      rw [this]
      exact ⟨hl, hb⟩
theorem NewTab.new {H : Hp} {H1 : Hp} {p : Addr} {w B : Nat} (h : H p = none) (h1 : H1 p = some (.lst [])) : NewTab H H1 p [] [] w B := ⟨h, fun a ha => by simp at ha, List.nodup_nil, by simp, ⟨h1, .nil⟩, fun r hr => by simp at hr⟩
theorem noneB {s : Addr} {H H' : Hp} (e : ExB s H H') (hs : ∃ o, H' s = some o) : ∀ a, H' a = none → H a = none := fun a h => fresh_B e h hs
theorem ev_chain {r r' : R2} {ta tb tc : TE} {σ : L2.St} {H : Hp} {x y z : V} {b c : Bool} (ha : Ev ta σ H x) (hb : Ev tb σ H y) (hc : Ev tc σ H z) (h1 : RV r x y H (.bl b)) (h2 : RV r' y z H (.bl c)) : Ev (tChain r r' ta tb tc) σ H (.bl (b && c)) := fun H1 e Q q =>
  ha H1 e _ fun H2 e2 => hb H2 (e.trans e2) _ fun H3 e3 => h1 H3 ((e.trans e2).trans e3) _ fun H4 e4 => ⟨b, rfl, by
    cases b with
    | true =>
      show tc σ H4 _
      exact hc H4 (((e.trans e2).trans e3).trans e4) _ fun H5 e5 => h2 H5 ((((e.trans e2).trans e3).trans e4).trans e5) Q fun H6 e6 => q H6 ((((e2.trans e3).trans e4).trans e5).trans e6)
    | false =>
      show Q (.bl false) H4
      exact q H4 ((e2.trans e3).trans e4)⟩
theorem ev_int1 {ta : TE} {σ : L2.St} {H : Hp} {b : Bool} (h : Ev ta σ H (.bl b)) : Ev (tCB (fun xs H Q => (∃ i, xs = [V.int i] ∧ Q (V.int i) H) ∨ ∃ k, xs = [V.bl k] ∧ Q (V.int (if k = true then 1 else 0)) H) (tCons ta tNil)) σ H (.int (if b = true then 1 else 0)) := fun H1 e Q q =>
  h H1 e _ fun H2 e2 => .inr ⟨b, rfl, q H2 e2⟩
/-- [e for i in range(m)], e whole numbers -/
theorem el_rng {ta : TA} {te : TE} {vs : List Nat} {j m : Nat} {σ : L2.St} {H : Hp} (f : Nat → Int) (h : EvA ta σ H [.int (m : Int)]) (hm : m ≤ 1000) (hw : ∀ x, wipe ((wipe σ vs).set j (some x)) vs = wipe σ vs)
    (he : ∀ (i : Nat) H1, Ex H H1 → i < m → Ev te ((wipe σ vs).set j (some (.int (i : Int)))) H1 (.int (f i))) : EvL (tLc (iRng1 ta) (gName j) tYes te vs) σ H (((List.range m).map f).map V.int) := by
  have g := el_lcR1 (t := tYes) (te := te) (j := j) (vs := vs) (σ := σ) (H := H) (n := (m : Int)) (ta := ta) (fun _ => true) (fun o => .int (f o)) h (by omega) hw (fun o H1 e ho Hx ex Qx qx => qx Hx (Ex.refl _)) (fun o H1 e ho hf => he o H1 e (by omega))
  have eg : given (m : Int).toNat (fun _ => true) (fun o => V.int (f o)) = ((List.range m).map f).map V.int := by
    unfold given
    rw [Int.toNat_natCast, List.filter_eq_self.mpr (fun _ _ => rfl), List.map_map]
    rfl
  rw [eg] at g
  exact g
/-- [f(row) for row in rows] -/
theorem el_col {K : PySem.W.Frag} {n : Nat} {te : TE} {vs : List Nat} {j : Nat} {σ : L2.St} {H : Hp} {a : Addr} {bs : List Addr} {qs : List (List Int)} (f : List Int → Int) (hσ : σ[n]? = some (some (.ref a))) (hx : H a = some (.lst (bs.map V.ref))) (hE : RowsAt H bs qs) (hz : qs.length ≤ 1000)
    (hw : ∀ u, wipe ((wipe σ vs).set j (some u)) vs = wipe σ vs)
    (he : ∀ b r H1, r ∈ qs → H b = some (.lst (r.map V.int)) → Ex H H1 → Ev te ((wipe σ vs).set j (some (.ref b))) H1 (.int (f r))) : EvL (tLc (iList K (tVar n)) (gName j) tYes te vs) σ H ((qs.map f).map V.int) := fun H1 e1 Q q => by
  have hx1 := e1 _ _ hx
  have el : bs.length = qs.length := Paired.length hE
  refine ⟨_, hσ, a, rfl, ⟨_, SqL.of hx1⟩, fun D hD => ?_⟩
  refine lc_list (K := K) (a := a) (xs := bs.map V.ref) (fun i H' => Ex H1 H' ∧ H' D = some (.lst (((qs.map f).take i).map V.int))) ⟨Ex.new hD, upd_same⟩ (fun i H' _ p => SqL.of (p.1 _ _ hx1)) (fun i x H' gx p => ?_) (fun H' p => ?_)
  · obtain ⟨p1, p2⟩ := p
    rw [List.getElem?_map] at gx
    obtain ⟨b, hb, rfl⟩ := Option.map_eq_some_iff.mp gx
    obtain ⟨ed, hed, hr⟩ := paired_get hE hb
    refine ⟨hw _, ?_⟩
    show te _ _ _
    refine he b ed H (List.mem_of_getElem? hed) hr (Ex.refl H) _ (e1.trans p1) _ fun H4 e4 => ?_
    refine ⟨_, e4 _ _ p2, ?_, Ex.mut (p1.trans e4) hD, ?_⟩
    · rw [List.length_map, List.length_take, List.length_map]
      exact small1000 (by omega)
    · have hzz : (qs.map f)[i]? = some (f ed) := by rw [List.getElem?_map, hed]; rfl
      rw [upd_same, take_snoc hzz, List.map_append]
      rfl
  · obtain ⟨p1, p2⟩ := p
    rw [List.take_of_length_le (by rw [List.length_map, List.length_map]; omega)] at p2
    exact q D H' hD p1 p2
/-- [a number drawn for i in range(m)] -/
theorem lc_draw {ta : TA} {te : TE} {vs : List Nat} {j m : Nat} {σ : L2.St} {H : Hp} {Q : VK} {s : Addr} {n : Int} (P : Int → Prop) (h : EvA ta σ H [.int (m : Int)]) (hm : m ≤ 1000) (hs : SrcAt H s n) (hw : ∀ u, wipe ((wipe σ vs).set j (some u)) vs = wipe σ vs)
    (he : ∀ (i : Nat) H1, ExB s H H1 → i < m → SrcAt H1 s (n + i) → ∀ Q1 : VK, (∀ x H2, P x → ExB s H1 H2 → SrcAt H2 s (n + i + 1) → Q1 (.int x) H2) → te ((wipe σ vs).set j (some (.int (i : Int)))) H1 Q1)
    (k : ∀ (D : Addr) (ns : List Int) (H2 : Hp), H D = none → ExB s H H2 → SrcAt H2 s (n + m) → H2 D = some (.lst (ns.map V.int)) → ns.length = m → (∀ x ∈ ns, P x) → Q (.ref D) H2) : tLc (iRng1 ta) (gName j) tYes te vs σ H Q := by
  refine h H (Ex.refl H) _ fun H1 e1 => ⟨(m : Int), rfl, by omega, by omega, fun D hD => ?_⟩
  have hDH : H D = none := fresh_back e1 hD
  have hDs : D ≠ s := (hs.ex e1).ne hD
  refine lc_range (lo := 0) (n := (m : Int).toNat) (fun i H' => ∃ ns, ExB s H H' ∧ SrcAt H' s (n + i) ∧ H' D = some (.lst (ns.map V.int)) ∧ ns.length = i ∧ ∀ x ∈ ns, P x) ⟨[], ExB.of (e1.trans (Ex.new hD)), (hs.ex (e1.trans (Ex.new hD))).le (by omega), upd_same, rfl, fun x hx => by simp at hx⟩ (fun i H' hi p => ?_) (fun H' p => ?_)
  · obtain ⟨ns, p1, p2, p3, p4, p5⟩ := p
    have e0 : (0 : Int) + (i : Int) = (i : Int) := Int.zero_add _
    refine ⟨hw _, ?_⟩
    show te ((wipe σ vs).set j (some (.int ((0 : Int) + (i : Int))))) H' _
    rw [e0]
    refine he i H' p1 (by omega) p2 _ fun x H2 hx e2 s2 => ?_
    refine ⟨_, e2 _ _ hDs p3, small1000 (by rw [List.length_map]; omega), ns ++ [x], ?_, ?_, ?_, ?_, ?_⟩
    · refine fun b o nb hb => ?_
      rw [upd_ne (ne_of_none hb hDH)]
      exact e2 _ _ nb (p1 _ _ nb hb)
    · obtain ⟨a1, a2, a3, a4, a5, a6, a7, a8⟩ := s2
      exact ⟨a1, a2, a3, by rw [upd_ne hDs.symm]; exact a4, a5, a6, a7, by omega⟩
    · rw [upd_same, List.map_append]
      rfl
    · rw [List.length_append, p4]
      rfl
    · intro y hy
      rcases List.mem_append.mp hy with q | q
      · exact p5 y q
      · have : y = x := by simpa using q
        rw [this]
        exact hx
  · obtain ⟨ns, p1, p2, p3, p4, p5⟩ := p
    have em : (m : Int).toNat = m := by omega
    rw [em] at p4 p2
    exact k D ns H' hDH p1 p2 p3 p4 p5
/-- the same over a list of whole numbers -/
theorem lc_drawL {K : PySem.W.Frag} {tl te : TE} {vs : List Nat} {j : Nat} {σ : L2.St} {H : Hp} {Q : VK} {s a : Addr} {n : Int} {xs : List Int} (P : Int → Prop) (h : Ev tl σ H (.ref a)) (hx : H a = some (.lst (xs.map V.int))) (has : a ≠ s) (hm : xs.length ≤ 1000) (hs : SrcAt H s n) (hw : ∀ u, wipe ((wipe σ vs).set j (some u)) vs = wipe σ vs)
    (he : ∀ (i : Nat) (y : Int) H1, ExB s H H1 → i < xs.length → SrcAt H1 s (n + i) → ∀ Q1 : VK, (∀ x H2, P x → ExB s H1 H2 → SrcAt H2 s (n + i + 1) → Q1 (.int x) H2) → te ((wipe σ vs).set j (some (.int y))) H1 Q1)
    (k : ∀ (D : Addr) (ns : List Int) (H2 : Hp), H D = none → ExB s H H2 → SrcAt H2 s (n + xs.length) → H2 D = some (.lst (ns.map V.int)) → ns.length = xs.length → (∀ x ∈ ns, P x) → Q (.ref D) H2) : tLc (iList K tl) (gName j) tYes te vs σ H Q := by
  refine h H (Ex.refl H) _ fun H1 e1 => ⟨a, rfl, ⟨_, SqL.of (e1 _ _ hx)⟩, fun D hD => ?_⟩
  have hDH : H D = none := fresh_back e1 hD
  have hDs : D ≠ s := (hs.ex e1).ne hD
  refine lc_list (K := K) (a := a) (xs := xs.map V.int) (fun i H' => ∃ ns, ExB s H H' ∧ SrcAt H' s (n + i) ∧ H' D = some (.lst (ns.map V.int)) ∧ ns.length = i ∧ ∀ x ∈ ns, P x) ⟨[], ExB.of (e1.trans (Ex.new hD)), (hs.ex (e1.trans (Ex.new hD))).le (by omega), upd_same, rfl, fun x hx => by simp at hx⟩ (fun i H' _ ⟨_, p1, _⟩ => SqL.of (p1 _ _ has hx)) (fun i y H' gy p => ?_) (fun H' p => ?_)
  · obtain ⟨ns, p1, p2, p3, p4, p5⟩ := p
    rw [List.getElem?_map] at gy
    obtain ⟨y', hy', rfl⟩ := Option.map_eq_some_iff.mp gy
    have hi := (List.getElem?_eq_some_iff.mp hy').1
    refine ⟨hw _, ?_⟩
    show te _ H' _
    refine he i y' H' p1 hi p2 _ fun x H2 hx' e2 s2 => ?_
    refine ⟨_, e2 _ _ hDs p3, small1000 (by rw [List.length_map]; omega), ns ++ [x], ?_, ?_, ?_, ?_, ?_⟩
    · refine fun b o nb hb => ?_
      rw [upd_ne (ne_of_none hb hDH)]
      exact e2 _ _ nb (p1 _ _ nb hb)
    · obtain ⟨a1, a2, a3, a4, a5, a6, a7, a8⟩ := s2
      exact ⟨a1, a2, a3, by rw [upd_ne hDs.symm]; exact a4, a5, a6, a7, by omega⟩
    · rw [upd_same, List.map_append]
      rfl
    · rw [List.length_append, p4]
      rfl
    · intro z hz
      rcases List.mem_append.mp hz with q | q
      · exact p5 z q
      · have : z = x := by simpa using q
        rw [this]
        exact hx'
  · obtain ⟨ns, p1, p2, p3, p4, p5⟩ := p
    rw [List.length_map] at p4 p2
    exact k D ns H' hDH p1 p2 p3 p4 p5
theorem rows_set {H : Hp} {v : List V} {x : Addr} : ∀ {as : List Addr} {rows : List (List Int)} {k : Nat} {row : List Int}, RowsAt H as rows → as.Nodup → as[k]? = some x → v = row.map V.int → RowsAt (upd H x (.lst v)) as (rows.set k row)
  | _, _, _, _, .nil, _, h, _ => by simp at h
  | a :: as, r :: rows, 0, row, .cons g t, nd, h, hv => by
    have e : a = x := Option.some.inj h
    subst e
    have h1 := List.nodup_cons.mp nd
    refine .cons (by rw [upd_same, hv]) (rows_but t fun b hb o q => ?_)
    rw [upd_ne (fun z => h1.1 (by rw [← z]; exact hb))]
    exact q
  | a :: as, r :: rows, k + 1, row, .cons g t, nd, h, hv => by
    have h1 := List.nodup_cons.mp nd
    have hx : as[k]? = some x := h
    refine .cons ?_ (rows_set t h1.2 hx hv)
    rw [upd_ne (fun z => h1.1 (by rw [z]; exact List.mem_of_getElem? hx))]
    exact g
theorem NewTab.set {H H' : Hp} {p x : Addr} {as : List Addr} {rows : List (List Int)} {w B k j : Nat} {row : List Int} {y : Int} (h : NewTab H H' p as rows w B) (hx : as[k]? = some x) (hr : rows[k]? = some row) (hy : y.natAbs ≤ B) : NewTab H (upd H' x (.lst ((row.map V.int).set j (.int y)))) p as (rows.set k (row.set j y)) w B := by
  have npx : p ≠ x := fun z => h.np (by rw [z]; exact List.mem_of_getElem? hx)
  have o := h.ok row (List.mem_of_getElem? hr)
  refine ⟨h.p0, h.a0, h.nd, h.np, ⟨?_, rows_set h.tab.2 h.nd hx (by rw [List.map_set])⟩, fun r hr' => ?_⟩
  · rw [upd_ne npx]
    exact h.tab.1
  · rcases List.mem_or_eq_of_mem_set hr' with q | q
    · exact h.ok r q
    · rw [q]
      refine ⟨by rw [List.length_set]; exact o.1, fun z hz => ?_⟩
      rcases List.mem_or_eq_of_mem_set hz with q2 | q2
      · exact o.2 z q2
      · rw [q2]
        exact hy
section
variable {prog : Program} {w : World} {A : Around} {E : Value → Shared → Prop} {s : Shared}
theorem slice_rev2 {sl : Addr} {vl vu vs : Value} {Q : Int × Int × Nat → Shared → Prop} (hs : s.heap.IsSliceOf sl vl vu vs) (pl : IsPart vl none) (pu : IsPart vu none) (ps : IsPart vs (some (-1)))
    (h : Q (1, -1, 2) s) : wpAny (model prog w) A (Builtin.Slice.sliceApplied (.ref sl) (pure ((2 : Nat) : Int))) Q E s := by
  obtain ⟨os, hos, hcs, hds⟩ := id hs
  unfold Builtin.Slice.sliceApplied Builtin.Slice.sliceFields
  refine wpAny_bind (wpAny_bind (wpAny_field hos hds (x := vl) rfl (wpAny_bind (wpAny_field hos hds (x := vu) rfl (wpAny_bind (wpAny_field hos hds (x := vs) rfl (wpAny_pure ?_)))))))
  refine wpAny_bind (slicePart_ ps ?_)
  show wpAny _ _ (if ((-1 : Int) == 0) = true then _ else _) _ _ s
  rw [if_neg (by decide)]
  refine wpAny_bind (slicePart_ pl (wpAny_bind (slicePart_ pu (wpAny_bind (wpAny_pure ?_)))))
  exact wpAny_pure h
theorem item_rev2 {t sl : Addr} {x y vl vu vs : Value} {Q : Value → Shared → Prop} (ht : IsTup s.heap t #[x, y]) (hs : s.heap.IsSliceOf sl vl vu vs) (pl : IsPart vl none) (pu : IsPart vu none) (ps : IsPart vs (some (-1)))
    (h : Q (.ref s.heap.objs.size) { s with heap := s.heap.push { cls := .type "tuple", data := .seq #[y, x] } }) : wpAny (model prog w) A (getItem (.ref t) (.ref sl)) Q E s := by
  have htake : sizeOk (.seq (#[y, x] : Array Value)) := by
    show 2 ≤ sizeLine
    decide
  obtain ⟨os, hos, hcs, hds⟩ := id hs
  have hTs : s.TypeIs (.ref sl) "slice" := ⟨os, hos, hcs⟩
  unfold getItem
  try with_reducible refine wpAny_holding ?_
  first | refine wpAny_bind (wpAny_pure ?_) | skip
  refine wpAny_bind (wpAny_sequenceKey ht.typeIs (by decide) ?_)
  refine wpAny_bind (wpAny_callSpecial?_slot (name := Str.ofString "__getitem__") ht.typeIs PyProof.Rows.slot_tuple_getitem
    (wpAny_call_entry PyProof.Rows.slot_tuple_getitem ht.typeIs entry_tuple_getitem ?_ (args_tuple_getitem _ _)))
  show wpAny _ _ (Builtin.Tuple.tupleItemsOf (.ref t) >>= _) _ _ s
  refine wpAny_bind (tupleItemsOf_ ht ?_)
  refine wpAny_bind (wpAny_typeOf hTs ?_)
  rw [if_pos (by decide)]
  refine wpAny_bind (slice_rev2 hs pl pu ps ?_)
  show wpAny _ _ (if (((1 : Int) == 0 && (-1 : Int) == 1 && (2 : Nat) == 2) = true) then _ else _) _ _ s
  rw [if_neg (by decide)]
  first
    | exact wpAny_bind (m := Builtin.Tuple.tupleExact _) (wpAny_newObj_type (wpAny_pure ⟨_, rfl, wpAny_pure h⟩) htake)
    | exact wpAny_bind (m := Builtin.Tuple.tupleExact _) (wpAny_newObj_type (wpAny_bind (wpAny_pure (wpAny_pure ⟨_, rfl, wpAny_pure h⟩))) htake)
    | exact wpAny_bind (wpAny_bind (m := Builtin.Tuple.tupleExact _) (wpAny_newObj_type (wpAny_pure (wpAny_pure ⟨_, rfl, wpAny_pure h⟩)) htake))
    | exact wpAny_bind (wpAny_bind (m := Builtin.Tuple.tupleExact _) (wpAny_newObj_type (wpAny_pure ⟨_, rfl, wpAny_pure h⟩) htake))
end
section
variable {X : Cx}
/-- t[::-1], t a pair -/
def tRevT (K : PySem.W.Frag) (te : TE) : TE := fun σ H Q => te σ H fun v H1 => ∃ a x y, v = .ref a ∧ SqT K H1 a [x, y] ∧ ∀ p, H1 p = none → Q (.ref p) (upd H1 p (.tup [y, x]))
theorem pe_revT {e : Expr} {te : TE} {k : Nat} {p1 p2 p3 pos : Pos} (he : PE X e te) : PE X (.Subscript e (.Slice none none (some (.UnaryOp .USub (.Constant (.int 1) k p1) p2)) p3) pos) (tRevT X.K te) := by
  refine ⟨fun pins s σ H Q I h => ?_⟩
  refine Subscript_ (thn (he.run pins s σ H _ I h) fun v s1 ⟨z, H1, I1, r1, q1⟩ => ?_)
  obtain ⟨a, x, y, ex, hx, q⟩ := q1
  subst ex
  cases r1
  have hst : PO X (some (.UnaryOp .USub (.Constant (.int 1) k p1) p2)) (tPart (tUn (rU fun i => .int (-i)) (tC (.int 1)))) := po_some (pe_un un_neg pe_int)
  refine wpAny_Slice (thn (po_none.run pins s1 σ H1 (fun o H2 => o = none ∧ H2 = H1) I1 ⟨rfl, rfl⟩) fun vl s2 ⟨l, H2, I2, pl, el, e2⟩ => ?_)
  subst el e2
  refine thn (po_none.run pins s2 σ H2 (fun o H3 => o = none ∧ H3 = H2) I2 ⟨rfl, rfl⟩) fun vu s3 ⟨u, H3, I3, pu, eu, e3⟩ => ?_
  subst eu e3
  refine thn (hst.run pins s3 σ H3 (fun o H4 => o = some (-1) ∧ H4 = H3) I3 ⟨1, rfl, -1, rfl, rfl, rfl⟩) fun vs s4 ⟨o, H4, I4, ps, eo, e4⟩ => ?_
  subst eo e4
  have I5 : Inv X pins σ H4 { s4 with heap := s4.heap.push { cls := .type "slice", data := .fields #[vl, vu, vs] } } := I4.kept (t' := s4.toks) fun b ob q => Heap.get?_push_of_some _ q
  obtain ⟨its, r, ht, hz⟩ := I5.tuple hx
  obtain ⟨ua, ub, rfl, ra, rb⟩ := vals2 r
  show wpAny (model X.prog X.w) X.A (subscriptTail e (.Slice none none (some (.UnaryOp .USub (.Constant (.int 1) k p1) p2)) p3) (.ref a) (.ref s4.heap.objs.size)) (EP X pins σ Q) X.xe { s4 with heap := s4.heap.push { cls := .type "slice", data := .fields #[vl, vu, vs] } }
  refine tail_any (ops := [.ref a, .ref s4.heap.objs.size]) ht.typeIs (PyProof.Rows.slot_tuple_getitem.lookup) ?_ (by with_unfolding_all rfl)
  refine item_rev2 ht (Heap.IsSliceOf.new _ vl vu vs) pl pu ps ?_
  refine ⟨.ref _, _, I5.laid (t' := s4.toks) (o := .tup [y, x]) (fun b ob q => Heap.get?_push_of_some _ q) (Nat.le_refl _) ?_, rfl, q _ (I5.hok.fresh (Nat.le_refl _))⟩
  exact ⟨by show 2 ≤ sizeLine; decide, [ub, ua], .cons rb (.cons ra .nil), IsTup.new _ _⟩
end

theorem mem_dims {rows : List (List Int)} {w B : Nat} (h : ∀ r ∈ rows, r.length = w ∧ ∀ y ∈ r, y.natAbs ≤ B) {r : List Int} (hr : r ∈ rows) : r.length = w := (h r hr).1
/-- a table as the program takes it: 1 to 8 rows of 1 to 8 -/
structure TabOk (H : Hp) (p : Addr) (as : List Addr) (rows : List (List Int)) (m w : Nat) : Prop where
  tab : Tab H p as rows
  m_ : rows.length = m
  w_ : ∀ r ∈ rows, r.length = w
  b : 1 ≤ m ∧ m ≤ 8 ∧ 1 ≤ w ∧ w ≤ 8
theorem TabOk.ex {H H' : Hp} {p : Addr} {as : List Addr} {rows : List (List Int)} {m w : Nat} (h : TabOk H p as rows m w) (e : Ex H H') : TabOk H' p as rows m w := ⟨h.tab.ex e, h.m_, h.w_, h.b⟩
theorem TabOk.al {H : Hp} {p : Addr} {as : List Addr} {rows : List (List Int)} {m w : Nat} (h : TabOk H p as rows m w) : as.length = m := by rw [Paired.length h.tab.2, h.m_]
theorem TabOk.row0 {H : Hp} {p : Addr} {as : List Addr} {rows : List (List Int)} {m w : Nat} (h : TabOk H p as rows m w) : ∃ a0 r0, as[0]? = some a0 ∧ rows[0]? = some r0 ∧ H a0 = some (.lst (r0.map V.int)) ∧ r0.length = w ∧ atI (as.map V.ref) 0 = some (.ref a0) := by
  have hb := h.b
  have hl := h.al
  obtain ⟨a0, ha0⟩ : ∃ a0, as[0]? = some a0 := ⟨_, List.getElem?_eq_getElem (by omega)⟩
  obtain ⟨r0, hr0, hh⟩ := paired_get h.tab.2 ha0
  exact ⟨a0, r0, ha0, hr0, hh, h.w_ r0 (List.mem_of_getElem? hr0), atI_nat (j := 0) (by rw [List.getElem?_map, ha0]; rfl)⟩
theorem all_true (n : Nat) : (List.replicate n true).all id = true := by
  induction n with
  | zero => rfl
  | succ n ih => rw [List.replicate_succ, List.all_cons, ih]; rfl
/-- [f(x) for x in xs], each True -/
theorem el_yes {K : PySem.W.Frag} {n j : Nat} {a : Addr} {xs : List V} {te : TE} {vs : List Nat} {σ : L2.St} {H : Hp} (hσ : σ[n]? = some (some (.ref a))) (hx : H a = some (.lst xs)) (hl : xs.length ≤ 1000)
    (hs : ∀ x H', x ∈ xs → Ex H H' → Ev te ((wipe σ vs).set j (some x)) H' (.bl true)) (hw : ∀ x, wipe ((wipe σ vs).set j (some x)) vs = wipe σ vs) : EvL (tLc (iList K (tVar n)) (gName j) tYes te vs) σ H ((List.replicate xs.length true).map V.bl) := by
  intro H0 e0 Q0 q0
  have hx0 := e0 _ _ hx
  refine ⟨_, hσ, a, rfl, ⟨_, SqL.of hx0⟩, fun D hD => ?_⟩
  refine lc_list (K := K) (a := a) (xs := xs) (fun i H' => Ex H0 H' ∧ H' D = some (.lst ((List.replicate i true).map V.bl))) ⟨Ex.new hD, upd_same⟩ (fun i H' _ p => SqL.of (p.1 _ _ hx0)) (fun i x H' gx p => ?_) (fun H' p => ?_)
  · obtain ⟨p1, p2⟩ := p
    have hi := (List.getElem?_eq_some_iff.mp gx).1
    refine ⟨hw _, ?_⟩
    show te _ _ _
    refine hs x H (List.mem_of_getElem? gx) (Ex.refl H) _ (e0.trans p1) _ fun H4 e4 => ?_
    refine ⟨_, e4 _ _ p2, ?_, Ex.mut (p1.trans e4) hD, ?_⟩
    · rw [List.length_map, List.length_replicate]
      exact small1000 (by omega)
    · rw [upd_same, List.replicate_succ', List.map_append]
      rfl
  · obtain ⟨p1, p2⟩ := p
    exact q0 D H' hD p1 p2
theorem ev_all {K : PySem.W.Frag} {ta : TE} {n : Nat} {σ : L2.St} {H : Hp} (h : EvL ta σ H ((List.replicate n true).map V.bl)) : Ev (tCB (rAll K) (tCons ta tNil)) σ H (.bl true) := fun H1 e Q q =>
  h H1 e _ fun p H2 _ e2 hp => ⟨p, _, rfl, SqL.of hp, by rw [all_true]; exact q H2 e2⟩
theorem ev_fn {sp : Sp} {E : XK} {ta : TA} {σ : L2.St} {H : Hp} {vs : List V} {z : V} (h : EvA ta σ H vs) (hs : ∀ H1, Ex H H1 → ∀ Q : VK, (∀ H2, Ex H1 H2 → Q z H2) → sp vs H1 Q E) : Ev (tCall sp [] E ta) σ H z := fun H1 e Q q =>
  h H1 e _ fun H2 e2 => by
    rw [List.append_nil]
    exact hs H2 (e.trans e2) Q fun H3 e3 => q H3 (e2.trans e3)
theorem ev_isi {K : PySem.W.Frag} {ta tb : TE} {σ : L2.St} {H : Hp} {x : V} {n : String} {t : String} {b : Bool} (ha : Ev ta σ H x) (hb : Ev tb σ H (.ty n)) (ht : ∀ H1, Ex H H1 → TyX K H1 x (.type t)) (hk : kitB t n = some b) : Ev (tCB (rIsi K) (tCons ta (tCons tb tNil))) σ H (.bl b) := fun H1 e Q q =>
  ha H1 e _ fun H2 e2 => hb H2 (e.trans e2) _ fun H3 e3 => ⟨x, .ty n, _, _, b, rfl, .ty n, ht H3 ((e.trans e2).trans e3), kit_ty hk, q H3 (e2.trans e3)⟩
theorem rv_le {i j : Int} {H : Hp} : RV (rI0 fun i j => .bl (decide (i ≤ j))) (.int i) (.int j) H (.bl (decide (i ≤ j))) := rv_I0
/-- a rising list of places below n -/
def Rising (n : Int) (ns : List Int) : Prop := (∀ x ∈ ns, 0 ≤ x ∧ x < n) ∧ ns.Pairwise (· < ·)

/-- [[..] for y in ys], ys whole numbers: new rows -/
theorem lc_rowsL {K : PySem.W.Frag} {nn : Nat} {te : TE} {vs : List Nat} {j : Nat} {σ : L2.St} {H : Hp} {Q : VK} {a : Addr} {ys : List Int} (F : Int → List Int) (hσ : σ[nn]? = some (some (.ref a))) (hx : H a = some (.lst (ys.map V.int))) (hm : ys.length ≤ 1000) (hw : ∀ u, wipe ((wipe σ vs).set j (some u)) vs = wipe σ vs)
    (he : ∀ y H1, y ∈ ys → Ex H H1 → EvL te ((wipe σ vs).set j (some (.int y))) H1 ((F y).map V.int))
    (k : ∀ p as H2, H p = none → (∀ a ∈ as, H a = none) → as.Nodup → p ∉ as → Ex H H2 → Tab H2 p as (ys.map F) → Q (.ref p) H2) : tLc (iList K (tVar nn)) (gName j) tYes te vs σ H Q := by
  refine ⟨_, hσ, a, rfl, ⟨_, SqL.of hx⟩, fun D hD => ?_⟩
  refine lc_list (K := K) (a := a) (xs := ys.map V.int) (fun i H' => ∃ as, Ex H H' ∧ H' D = some (.lst (as.map V.ref)) ∧ RowsAt H' as ((ys.take i).map F) ∧ (∀ a ∈ as, H a = none) ∧ as.Nodup ∧ D ∉ as) ⟨[], Ex.new hD, upd_same, .nil, fun a ha => by simp at ha, List.nodup_nil, by simp⟩ (fun i H' _ ⟨_, p1, _⟩ => SqL.of (p1 _ _ hx)) (fun i x H' gx p => ?_) (fun H' p => ?_)
  · obtain ⟨as, p1, p2, p3, p4, p5, p6⟩ := p
    rw [List.getElem?_map] at gx
    obtain ⟨y, hy, rfl⟩ := Option.map_eq_some_iff.mp gx
    have hi := (List.getElem?_eq_some_iff.mp hy).1
    have el : as.length = i := by rw [Paired.length p3, List.length_map, List.length_take]; omega
    refine ⟨hw _, ?_⟩
    show te _ H' _
    refine he y H' (List.mem_of_getElem? hy) p1 H' (Ex.refl _) _ fun r H4 nr e4 hr => ?_
    have nrD : r ≠ D := fun z => by
      rw [z, p2] at nr
      cases nr
    refine ⟨_, e4 _ _ p2, ?_, as ++ [r], Ex.mut (p1.trans e4) hD, ?_, ?_, ?_, ?_, ?_⟩
    · rw [List.length_map, el]
      exact small1000 (by omega)
    · rw [upd_same, List.map_append]
      rfl
    · rw [take_snoc hy, List.map_append]
      refine paired_snoc (rows_but p3 fun b hb o g => ?_) ?_
      · rw [upd_ne (fun z => p6 (by rw [← z]; exact hb))]
        exact e4 _ _ g
      · rw [upd_ne nrD]
        exact hr
    · intro b hb
      rcases List.mem_append.mp hb with h | h
      · exact p4 b h
      · rw [show b = r by simpa using h]
        exact fresh_back p1 nr
    · refine List.nodup_append.mpr ⟨p5, by simp, fun b hb c hc z => ?_⟩
      have : c = r := by simpa using hc
      have hb' : r ∈ as := by rw [← this, ← z]; exact hb
      obtain ⟨x, _, hx'⟩ := paired_mem p3 hb'
      rw [nr] at hx'
      cases hx'
    · intro hb
      rcases List.mem_append.mp hb with h | h
      · exact p6 h
      · exact nrD (by simpa using h : D = r).symm
  · obtain ⟨as, p1, p2, p3, p4, p5, p6⟩ := p
    rw [List.length_map, List.take_length] at p3
    exact k D as H' hD p4 p5 p6 p1 ⟨p2, p3⟩
/-- [f(y) for y in ys], ys whole numbers -/
theorem el_mapI {K : PySem.W.Frag} {n : Nat} {te : TE} {vs : List Nat} {j : Nat} {σ : L2.St} {H : Hp} {a : Addr} {qs : List Int} (f : Int → Int) (hσ : σ[n]? = some (some (.ref a))) (hx : H a = some (.lst (qs.map V.int))) (hz : qs.length ≤ 1000)
    (hw : ∀ u, wipe ((wipe σ vs).set j (some u)) vs = wipe σ vs)
    (he : ∀ y H1, y ∈ qs → Ex H H1 → Ev te ((wipe σ vs).set j (some (.int y))) H1 (.int (f y))) : EvL (tLc (iList K (tVar n)) (gName j) tYes te vs) σ H ((qs.map f).map V.int) := fun H1 e1 Q q => by
  have hx1 := e1 _ _ hx
  refine ⟨_, hσ, a, rfl, ⟨_, SqL.of hx1⟩, fun D hD => ?_⟩
  refine lc_list (K := K) (a := a) (xs := qs.map V.int) (fun i H' => Ex H1 H' ∧ H' D = some (.lst (((qs.map f).take i).map V.int))) ⟨Ex.new hD, upd_same⟩ (fun i H' _ p => SqL.of (p.1 _ _ hx1)) (fun i x H' gx p => ?_) (fun H' p => ?_)
  · obtain ⟨p1, p2⟩ := p
    rw [List.getElem?_map] at gx
    obtain ⟨b, hb, rfl⟩ := Option.map_eq_some_iff.mp gx
    refine ⟨hw _, ?_⟩
    show te _ _ _
    refine he b H (List.mem_of_getElem? hb) (Ex.refl H) _ (e1.trans p1) _ fun H4 e4 => ?_
    refine ⟨_, e4 _ _ p2, ?_, Ex.mut (p1.trans e4) hD, ?_⟩
    · rw [List.length_map, List.length_take, List.length_map]
      exact small1000 (by omega)
    · have hzz : (qs.map f)[i]? = some (f b) := by rw [List.getElem?_map, hb]; rfl
      rw [upd_same, take_snoc hzz, List.map_append]
      rfl
  · obtain ⟨p1, p2⟩ := p
    rw [List.take_of_length_le (by rw [List.length_map, List.length_map]; omega)] at p2
    exact q D H' hD p1 p2
theorem TabOk.row {H : Hp} {p : Addr} {as : List Addr} {rows : List (List Int)} {m w : Nat} (h : TabOk H p as rows m w) {i : Int} (h0 : 0 ≤ i) (h1 : i < m) : ∃ a r, atI (as.map V.ref) i = some (.ref a) ∧ rows[i.toNat]? = some r ∧ H a = some (.lst (r.map V.int)) ∧ r.length = w := by
  have hl := h.al
  obtain ⟨a, ha⟩ : ∃ a, as[i.toNat]? = some a := ⟨_, List.getElem?_eq_getElem (by omega)⟩
  obtain ⟨r, hr, hh⟩ := paired_get h.tab.2 ha
  exact ⟨a, r, at_of (j := i.toNat) (by omega) (by rw [List.getElem?_map, ha]; rfl), hr, hh, h.w_ r (List.mem_of_getElem? hr)⟩
theorem atI_rowI {ns : List Int} {i : Int} (h0 : 0 ≤ i) (h : i < ns.length) : atI (ns.map V.int) i = some (.int (ns[i.toNat]?.getD 0)) := by
  have e : i = ((i.toNat : Nat) : Int) := by omega
  have h2 := atI_row (ns := ns) (kk := i.toNat) (by omega)
  rw [← e] at h2
  exact h2

/-- [[..] for x, row in zip(xs, rows)]: new rows -/
theorem lc_rowsZ {K : PySem.W.Frag} {ta : TA} {te : TE} {vs : List Nat} {j1 j2 : Nat} {σ : L2.St} {H : Hp} {Q : VK} {a b : Addr} {xs : List Int} {as : List Addr} {rows : List (List Int)} (F : Int → List Int → List Int) (h : EvA ta σ H [.ref a, .ref b]) (hx : H a = some (.lst (xs.map V.int))) (ht : Tab H b as rows) (hl : xs.length = rows.length) (hz : xs.length ≤ 1000)
    (hw : ∀ u v, wipe (((wipe σ vs).set j1 (some u)).set j2 (some v)) vs = wipe σ vs)
    (he : ∀ x c r H1, x ∈ xs → r ∈ rows → H c = some (.lst (r.map V.int)) → Ex H H1 → EvL te (((wipe σ vs).set j1 (some (.int x))).set j2 (some (.ref c))) H1 ((F x r).map V.int))
    (k : ∀ p bs H2, H p = none → (∀ a ∈ bs, H a = none) → bs.Nodup → p ∉ bs → Ex H H2 → Tab H2 p bs (List.zipWith F xs rows) → Q (.ref p) H2) : tLc (iZip K ta) (g2 K j1 j2) tYes te vs σ H Q := by
  refine h H (Ex.refl H) _ fun H1 e1 => ⟨a, b, _, _, rfl, SqL.of (e1 _ _ hx), SqL.of (e1 _ _ ht.1), fun D hD => ?_⟩
  have hDH : H D = none := fresh_back e1 hD
  have el0 : as.length = rows.length := Paired.length ht.2
  refine lc_zip (xs := xs.map V.int) (ys := as.map V.ref) (by rw [List.length_map, List.length_map, el0]; exact hl) (fun i H' => ∃ bs, Ex H1 H' ∧ H' D = some (.lst (bs.map V.ref)) ∧ RowsAt H' bs ((List.zipWith F xs rows).take i) ∧ (∀ a ∈ bs, H a = none) ∧ bs.Nodup ∧ D ∉ bs) ⟨[], Ex.new hD, upd_same, .nil, fun a ha => by simp at ha, List.nodup_nil, by simp⟩ (fun i H' ⟨_, p1, _⟩ => ⟨SqL.of ((e1.trans p1) _ _ hx), SqL.of ((e1.trans p1) _ _ ht.1)⟩) (fun i x y T H' gx gy p nT => ?_) (fun H' p => ?_)
  · obtain ⟨bs, p1, p2, p3, p4, p5, p6⟩ := p
    rw [List.getElem?_map] at gx gy
    obtain ⟨x', hx', rfl⟩ := Option.map_eq_some_iff.mp gx
    obtain ⟨c, hc, rfl⟩ := Option.map_eq_some_iff.mp gy
    obtain ⟨r, hr, hh⟩ := paired_get ht.2 hc
    have hi := (List.getElem?_eq_some_iff.mp hx').1
    have el : bs.length = i := by rw [Paired.length p3, List.length_take, List.length_zipWith]; omega
    have xT : Ex H' (upd H' T (.tup [.int x', .ref c])) := Ex.new nT
    refine ⟨T, _, rfl, SqT.of upd_same, rfl, _, _, rfl, _, _, rfl, rfl, hw _ _, ?_⟩
    show te _ _ _
    refine he x' c r H (List.mem_of_getElem? hx') (List.mem_of_getElem? hr) hh (Ex.refl H) _ ((e1.trans p1).trans xT) _ fun q H4 nq e4 hq => ?_
    have nqD : q ≠ D := fun z => by
      rw [z, xT _ _ p2] at nq
      cases nq
    have nqH' : H' q = none := fresh_back xT nq
    refine ⟨_, e4 _ _ (xT _ _ p2), ?_, bs ++ [q], Ex.mut ((p1.trans xT).trans e4) hD, ?_, ?_, ?_, ?_, ?_⟩
    · rw [List.length_map, el]
      exact small1000 (by omega)
    · rw [upd_same, List.map_append]
      rfl
    · have hzz : (List.zipWith F xs rows)[i]? = some (F x' r) := by rw [List.getElem?_zipWith, hx', hr]
      rw [take_snoc hzz]
      refine paired_snoc (rows_but p3 fun b hb o g => ?_) ?_
      · rw [upd_ne (fun z => p6 (by rw [← z]; exact hb))]
        exact e4 _ _ (xT _ _ g)
      · rw [upd_ne nqD]
        exact hq
    · intro b hb
      rcases List.mem_append.mp hb with h | h
      · exact p4 b h
      · rw [show b = q by simpa using h]
        exact fresh_back (e1.trans p1) nqH'
    · refine List.nodup_append.mpr ⟨p5, by simp, fun b hb c' hc' z => ?_⟩
      have : c' = q := by simpa using hc'
      have hb' : q ∈ bs := by rw [← this, ← z]; exact hb
      obtain ⟨y, _, hy⟩ := paired_mem p3 hb'
      rw [nqH'] at hy
      cases hy
    · intro hb
      rcases List.mem_append.mp hb with h | h
      · exact p6 h
      · exact nqD (by simpa using h : D = q).symm
  · obtain ⟨bs, p1, p2, p3, p4, p5, p6⟩ := p
    rw [List.take_of_length_le (by rw [List.length_zipWith, List.length_map]; omega)] at p3
    exact k D bs H' hDH p4 p5 p6 (e1.trans p1) ⟨p2, p3⟩
theorem flat_ints (ns : List Int) : (ns.map V.int).all flatV = true := by
  rw [List.all_eq_true]
  intro x hx
  obtain ⟨i, _, rfl⟩ := List.mem_map.mp hx
  rfl
/-- -1 at the picked places, else 1 -/
def sgnAt (ns : List Int) (kk : Nat) : Int := if inV (.int (kk : Int)) (ns.map V.int) = true then -1 else 1
theorem sgnAt_two (ns : List Int) (kk : Nat) : sgnAt ns kk = 1 ∨ sgnAt ns kk = -1 := by
  unfold sgnAt
  split
  · exact .inr rfl
  · exact .inl rfl
def sgns (ns : List Int) (m : Nat) : List Int := (List.range m).map (sgnAt ns)
theorem sgns_mem {ns : List Int} {m : Nat} {x : Int} (h : x ∈ sgns ns m) : x = 1 ∨ x = -1 := by
  obtain ⟨kk, _, rfl⟩ := List.mem_map.mp h
  exact sgnAt_two ns kk
def signedOf (rows : List (List Int)) (ris cis : List Int) (m w : Nat) : List (List Int) := List.zipWith (fun s r => List.zipWith (fun c y => s * c * y) (sgns cis w) r) (sgns ris m) rows
theorem bd_sgn {x : Int} (h : x = 1 ∨ x = -1) : Bd 2 x := by
  rcases h with rfl | rfl <;> (unfold Bd; decide)

section
variable {P : Program} {w : World} {K : PySem.W.Frag} {mg : Str → Option Value} {base : Heap}
-- DEF is_whole

def sp_is_whole (K : PySem.W.Frag) : Sp := fun vs H Q _ => ∃ (x : V) (t : String), vs = [x] ∧ TyX K H x (.type t) ∧ tyOk t ∧ Q (.bl (t == "int")) H

theorem ok_is_whole (T : Txt K mg) : FnOk P w K mg base CX0 1 T.f_is_whole T.fd_is_whole ["thing"] (sp_is_whole K) := by
  refine Fun.ok T.F_is_whole sc_is_whole (fun vs H Q E h => ?_) (fun cdv A outer s H vs Q E hr h => ?_)
  · obtain ⟨_, _, rfl, _⟩ := h; rfl
  · refine ⟨_, (pss_one (ps_ret (pe_and (pe_callB (id := "isinstance") (r := rIsi K) call_isi (by rfl) T.n_isinstance (by decide +kernel) (pa_cons (pv 0) (pa_cons (pe_bltn (v := .ty "int") (by rfl) T.n_int (by decide +kernel) rfl) pa_nil))) (pe_one (pe_not (pe_callB (id := "isinstance") (r := rIsi K) call_isi (by rfl) T.n_isinstance (by decide +kernel) (pa_cons (pv 0) (pa_cons (pe_bltn (v := .ty "bool") (by rfl) T.n_bool (by decide +kernel) rfl) pa_nil)))))))), ?_⟩
    obtain ⟨x, t, rfl, ty, ok, q⟩ := h
    refine ⟨x, rfl, x, _, _, _, _, rfl, ClsV.ty _, ty, kit_ty (ty_int ok), _, rfl, ?_⟩
    rcases ok with rfl | rfl | rfl | rfl | rfl | rfl | rfl
    · exact iteT ⟨x, rfl, x, _, _, _, _, rfl, ClsV.ty _, ty, kit_ty (ty_bool (.inl rfl)), _, rfl, q⟩
    · exact iteT ⟨x, rfl, x, _, _, _, _, rfl, ClsV.ty _, ty, kit_ty (ty_bool (.inr (.inl rfl))), _, rfl, q⟩
    all_goals exact iteF q
-- DEF _law_source_of

def sp__law_source_of (K : PySem.W.Frag) : Sp := fun vs H Q _ => ∃ c : Int, vs = [.int c] ∧ ∀ (s : Addr) (H' : Hp), H s = none → Ex H H' → SrcAt H' s 0 → Q (.ref s) H'

theorem ok__law_source_of (T : Txt K mg) : FnOk P w K mg base CX0 1 T.f__law_source_of T.fd__law_source_of ["_law_cell"] (sp__law_source_of K) := by
  refine Fun.ok T.F__law_source_of sc__law_source_of (fun vs H Q E h => ?_) (fun cdv A outer s H vs Q E hr h => ?_)
  · obtain ⟨_, rfl, _⟩ := h; rfl
  · refine ⟨_, (pss_one (ps_ret (pe_lst (pa_cons (pe_op op_mul (pv 0) (pe_callTy (T := "int") call_int1 (by rfl) T.n_int (by decide +kernel) (pa_cons (pe_cmpR op_ge (pv 0) (pe_op op_pow pe_int pe_int) (nomark _)) pa_nil))) (pa_cons (pe_op op_mod (pv 0) pe_int) (pa_cons pe_int pa_nil)))))), ?_⟩
    obtain ⟨c, rfl, k⟩ := h
    refine ⟨_, rfl, _, rfl, _, _, rfl, rfl, ⟨by decide, by decide, by decide⟩, _, _, rfl, rfl, .inr ⟨_, rfl, _, _, rfl, rfl, .inr ?_, ?_⟩⟩
    · split <;> exact ⟨by decide, by decide⟩
    refine ⟨_, rfl, _, _, rfl, rfl, (by show (0 : Int) < 2147483647; decide), (by show 3 ≤ sizeLine; decide), fun s hs => ?_⟩
    exact k s _ hs (Ex.new hs) ⟨_, _, _, upd_same, Int.emod_nonneg _ (by decide), Int.emod_lt_of_pos _ (by decide), Int.le_refl _, Int.le_refl _⟩
-- DEF _law_next

def sp__law_next (K : PySem.W.Frag) : Sp := fun vs H Q _ => ∃ (s : Addr) (m n : Int), vs = [.ref s, .int m] ∧ SrcAt H s n ∧ n ≤ 1000000000 ∧ 0 < m ∧ Bd 8000 m ∧
  ∀ (f : Int) (H' : Hp), 0 ≤ f → f < m → ExB s H H' → SrcAt H' s (n + 1) → Q (.int f) H'

theorem ok__law_next (T : Txt K mg) : FnOk P w K mg base CX0 1 T.f__law_next T.fd__law_next ["_law_source", "_law_many"] (sp__law_next K) := by
  refine Fun.ok T.F__law_next sc__law_next (fun vs H Q E h => ?_) (fun cdv A outer s H vs Q E hr h => ?_)
  · obtain ⟨_, _, _, rfl, _⟩ := h; rfl
  · refine ⟨_, (pss_cons (ps_if (pt_cmpR op_gt (pe_ix (r := rIxL K) ix_list (pv 0) pe_int (fun _ _ => rfl)) pe_int (nomark _))
        (pss_cons (ps_set (i := 2) sc__law_next.nd rfl (by first | exact Or.inl rfl | exact Or.inr rfl) (pe_op op_mod (pe_ix (r := rIxL K) ix_list (pv 0) pe_int (fun _ _ => rfl)) (pv 1)))
          (pss_cons (ps_asg (pe_op op_fdivW (pe_ix (r := rIxL K) ix_list (pv 0) pe_int (fun _ _ => rfl)) (pv 1)) (pg_sub (pv 0) pe_int set_list))
          (pss_one (ps_ret (pv 2)))))
        pss_nil)
      (pss_cons (ps_asg (pe_op op_add (pe_ix (r := rIxL K) ix_list (pv 0) pe_int (fun _ _ => rfl)) pe_int) (pg_sub (pv 0) pe_int set_list))
      (pss_cons (ps_set (i := 3) sc__law_next.nd rfl (by first | exact Or.inl rfl | exact Or.inr rfl) (pe_ix (r := rIxL K) ix_list (pe_lst (pa_cons pe_int (pa_cons pe_int (pa_cons pe_int (pa_cons pe_int (pa_cons pe_int (pa_cons pe_int (pa_cons pe_int pa_nil)))))))) (pe_op op_mod (pe_ix (r := rIxL K) ix_list (pv 0) pe_int (fun _ _ => rfl)) pe_int) (fun _ _ => rfl)))
      (pss_cons (ps_set (i := 4) sc__law_next.nd rfl (by first | exact Or.inl rfl | exact Or.inr rfl) (pe_op op_mod (pe_op op_pow (pe_op op_add (pe_op op_add (pe_ix (r := rIxL K) ix_list (pv 0) pe_int (fun _ _ => rfl)) (pe_op op_mul pe_int (pe_ix (r := rIxL K) ix_list (pv 0) pe_int (fun _ _ => rfl)))) pe_int) pe_int) (pv 3)))
      (pss_cons (ps_set (i := 4) sc__law_next.nd rfl (by first | exact Or.inl rfl | exact Or.inr rfl) (pe_op op_mod (pe_op op_mul (pe_op op_add (pv 4) (pe_ix (r := rIxL K) ix_list (pv 0) pe_int (fun _ _ => rfl))) (pe_op op_add (pe_op op_fdiv (pv 4) pe_int) pe_int)) (pv 3)))
      (pss_one (ps_ret (pe_op op_mod (pe_op op_fdiv (pv 4) pe_int) (pv 1))))))))), ?_⟩
    obtain ⟨s, m, n, rfl, ⟨p, u, r, hs, hu0, hu1, hr0, hr1⟩, hn, hm, bm, k⟩ := h
    refine ⟨_, rfl, s, _, _, _, rfl, rfl, SqL.of hs, rfl, _, _, rfl, rfl, _, rfl, ?_⟩
    refine ite2 (fun hp => ?_) (fun _ => ?_)
    · refine ⟨_, rfl, s, _, _, _, rfl, rfl, SqL.of hs, rfl, _, rfl, _, _, rfl, rfl, hm, ?_⟩
      refine ⟨_, rfl, s, _, _, _, rfl, rfl, SqL.of hs, rfl, _, rfl, _, _, rfl, rfl, Bd.divOk hm (bm.mono (by decide : 8000 ≤ 9000)), ?_⟩
      refine ⟨_, rfl, s, _, _, 0, rfl, rfl, hs, rfl, ?_⟩
      refine ⟨_, rfl, ?_⟩
      exact k _ _ (Int.emod_nonneg _ (by omega)) (Int.emod_lt_of_pos _ hm) (ExB.upd _ _ _) ⟨_, _, _, upd_same, hu0, hu1, hr0, by omega⟩
    · refine ⟨_, rfl, s, _, _, _, rfl, rfl, SqL.of hs, rfl, _, _, rfl, rfl, ?_⟩
      refine ⟨_, rfl, s, _, _, 2, rfl, rfl, hs, rfl, ?_⟩
      have hs2 : upd H s (.lst [.int p, .int u, .int (r + 1)]) s = some (.lst [.int p, .int u, .int (r + 1)]) := upd_same
      show tSeq _ _ _ _ (upd H s (.lst [.int p, .int u, .int (r + 1)]))
      generalize hH : upd H s (.lst [.int p, .int u, .int (r + 1)]) = H2 at hs2 ⊢
      refine ⟨(by show 7 ≤ sizeLine; decide), fun l hl => ?_⟩
      have nls : s ≠ l := ne_of_none hs2 hl
      have hs3 : upd H2 l (.lst [V.int 2147483647, V.int 2147483629, V.int 2147483587, V.int 2147483579, V.int 2147483563, V.int 2147483549, V.int 2147483543]) s = some (.lst [.int p, .int u, .int (r + 1)]) := by
        rw [upd_ne nls]
        exact hs2
      obtain ⟨pr, hpr, hp0, hp1⟩ := prime_at (r + 1) (by omega)
      refine ⟨_, rfl, s, _, _, _, rfl, rfl, SqL.of hs3, rfl, _, _, rfl, rfl, (by show (0 : Int) < 7; decide), l, _, _, _, rfl, rfl, SqL.of upd_same, hpr, ?_⟩
      have eH : ExB s H2 (upd H2 l (.lst [V.int 2147483647, V.int 2147483629, V.int 2147483587, V.int 2147483579, V.int 2147483563, V.int 2147483549, V.int 2147483543])) := ExB.of (Ex.new hl)
      generalize upd H2 l (.lst [V.int 2147483647, V.int 2147483629, V.int 2147483587, V.int 2147483579, V.int 2147483563, V.int 2147483549, V.int 2147483543]) = H3 at hs3 eH ⊢
      -- figure
      refine ⟨_, rfl, s, _, _, _, rfl, rfl, SqL.of hs3, rfl, _, rfl, s, _, _, _, rfl, rfl, SqL.of hs3, rfl, _, _, rfl, rfl, .inl ⟨by decide, by decide⟩, _, _, rfl, rfl, _, _, rfl, rfl, _, _, rfl, rfl, ⟨by decide, by decide, ?_⟩, ?_⟩
      · show (u + 7919 * (r + 1) + 1).natAbs < 2 ^ 64
        omega
      refine ⟨_, rfl, _, _, rfl, rfl, hp0, ?_⟩
      have f0 : 0 ≤ (u + 7919 * (r + 1) + 1) ^ (5 : Int).toNat % pr := Int.emod_nonneg _ (by omega)
      have f1 : (u + 7919 * (r + 1) + 1) ^ (5 : Int).toNat % pr < pr := Int.emod_lt_of_pos _ hp0
      show tSeq _ _ _ [some (.ref s), some (.int m), _, some (.int pr), some (.int ((u + 7919 * (r + 1) + 1) ^ (5 : Int).toNat % pr))] _
      generalize (u + 7919 * (r + 1) + 1) ^ (5 : Int).toNat % pr = f at f0 f1 ⊢
      refine ⟨_, rfl, _, rfl, s, _, _, _, rfl, rfl, SqL.of hs3, rfl, _, _, rfl, rfl, ?_⟩
      refine ⟨_, rfl, _, _, rfl, rfl, ⟨by decide, by decide⟩, _, _, rfl, rfl, _, _, rfl, rfl, .inl ?_, ?_⟩
      · constructor <;> omega
      refine ⟨_, rfl, _, _, rfl, rfl, hp0, ?_⟩
      refine ⟨_, rfl, _, _, rfl, rfl, ⟨by decide, by decide⟩, _, rfl, _, _, rfl, rfl, hm, ?_⟩
      refine k _ _ (Int.emod_nonneg _ (by omega)) (Int.emod_lt_of_pos _ hm) (ExB.trans ?_ eH) ⟨_, _, _, hs3, hu0, hu1, by omega, by omega⟩
      rw [← hH]
      exact ExB.upd _ _ _
-- DEF _law_cell_at

def sp__law_cell_at (K : PySem.W.Frag) : Sp := fun vs H Q _ => ∃ (a : Addr) (ns : List Int) (k : Int), vs = [.ref a, .int k] ∧ SqL K H a (ns.map V.int) ∧ 0 ≤ k ∧ ∀ c : Int, Q (.int c) H

theorem ok__law_cell_at (T : Txt K mg) : FnOk P w K mg base CX0 1 T.f__law_cell_at T.fd__law_cell_at ["_law_script", "_law_k"] (sp__law_cell_at K) := by
  refine Fun.ok T.F__law_cell_at sc__law_cell_at (fun vs H Q E h => ?_) (fun cdv A outer s H vs Q E hr h => ?_)
  · obtain ⟨_, _, _, rfl, _⟩ := h; rfl
  · refine ⟨_, (pss_cons (ps_if (pt_cmpR op_lt (pv 1) (pe_callB (id := "len") (r := rLenS K) call_len_seq (by rfl) T.n_len PySem.boot_len (pa_cons (pv 0) pa_nil)) (nomark _))
        (pss_one (ps_ret (pe_ix (r := rIxL K) ix_list (pv 0) (pv 1) (fun _ _ => rfl))))
        pss_nil)
      (pss_one (ps_ret pe_int))), ?_⟩
    obtain ⟨a, ns, k, rfl, hS, hk, q⟩ := h
    refine ⟨_, rfl, _, rfl, a, _, rfl, .inl hS, _, _, rfl, rfl, _, rfl, ?_⟩
    refine ite2 (fun hp => ?_) (fun _ => q 0)
    have hlt : k < ((ns.map V.int).length : Int) := of_decide_eq_true hp
    rw [List.length_map] at hlt
    have hn : k.toNat < ns.length := by omega
    have g : (ns.map V.int)[k.toNat]? = some (.int ns[k.toNat]) := by
      rw [List.getElem?_map, List.getElem?_eq_getElem hn]
      rfl
    refine ⟨_, rfl, _, rfl, a, _, k, _, rfl, rfl, hS, at_of (j := k.toNat) (by omega) g, ?_⟩
    exact q _
-- DEF _law_net

def sp__law_net (K : PySem.W.Frag) : Sp := fun vs H Q _ => ∃ (pE pA : Addr) (as bs : List Addr) (es qs : List (Int × Int)) (m : Nat), vs = [.ref pE, .ref pA] ∧ es.length = m ∧ 1 ≤ m ∧ m ≤ 8 ∧ H pE = some (.lst (as.map V.ref)) ∧ EdgesAt H as es ∧ H pA = some (.lst (bs.map V.ref)) ∧ EdgesAt H bs qs ∧ qs.length ≤ 8 ∧
  (∀ e ∈ es, 0 ≤ e.1 ∧ e.1 ≤ m ∧ 0 ≤ e.2 ∧ e.2 ≤ m) ∧ (∀ e ∈ qs, 0 ≤ e.1 ∧ e.1 ≤ m ∧ 0 ≤ e.2 ∧ e.2 ≤ m) ∧ Conn es m ∧
  ∀ (rs : List Addr) (rows : List (List Int)) (p : Addr) (H' : Hp), H p = none → (∀ a ∈ rs, H a = none) → rs.Nodup → p ∉ rs → Ex H H' → Tab H' p rs rows → rows.length = m → (∀ r ∈ rows, r.length = qs.length ∧ ∀ y ∈ r, y.natAbs ≤ 100) → Q (.ref p) H'

theorem ok__law_net (T : Txt K mg) : FnOk P w K mg base CX0 1 T.f__law_net T.fd__law_net ["_law_ends_here", "_law_arcs"] (sp__law_net K) := by
  refine Fun.ok T.F__law_net sc__law_net (fun vs H Q E h => ?_) (fun cdv A outer s H vs Q E hr h => ?_)
  · obtain ⟨_, _, _, _, _, _, _, rfl, _⟩ := h; rfl
  · refine ⟨_, (pss_cons (ps_set (i := 2) sc__law_net.nd rfl (by first | exact Or.inl rfl | exact Or.inr rfl) (pe_disp (pps_cons (pe_ix (r := rIxT K) ix_tup (pe_ix (r := rIxL K) ix_list (pv 0) pe_int (fun _ _ => rfl)) pe_int (fun _ _ => rfl)) (pe_op op_rep (pe_lst (pa_cons pe_int pa_nil)) (pe_callB (id := "len") (r := rLenS K) call_len_seq (by rfl) T.n_len PySem.boot_len (pa_cons (pv 0) pa_nil))) pps_nil) (by rfl) (by rfl) (fun z => by cases z) (by decide)))
      (pss_cons (ps_while PassesOwn.never (pt_cmpR op_le (pe_callB (id := "len") call_lenD (by rfl) T.n_len PySem.boot_len (pa_cons (pv 2) pa_nil)) (pe_callB (id := "len") (r := rLenS K) call_len_seq (by rfl) T.n_len PySem.boot_len (pa_cons (pv 0) pa_nil)) (nomark _))
        (pss_one (ps_for PassesOwn.never rfl (pi_enum (by rfl) T.n_enumerate (pa_cons (pv 0) pa_nil)) (pg_tup rfl (pgs_cons (pg_name (i := 3) sc__law_net.nd rfl (by first | exact Or.inl rfl | exact Or.inr rfl)) (pgs_cons (pg_tup rfl (pgs_cons (pg_name (i := 4) sc__law_net.nd rfl (by first | exact Or.inl rfl | exact Or.inr rfl)) (pgs_cons (pg_name (i := 5) sc__law_net.nd rfl (by first | exact Or.inl rfl | exact Or.inr rfl)) pgs_nil))) pgs_nil)))
            (pss_cons (ps_setLc (i := 6) (own := [("_law_other", 7)]) (g := gName 7) (tt := tYes) rfl sc__law_net.nd rfl rfl (sw_true rfl rfl rfl (by decide +kernel)) (pi_range1 (by rfl) T.n_range (pa_cons (pe_callB (id := "len") (r := rLenS K) call_len_seq (by rfl) T.n_len PySem.boot_len (pa_cons (pv 0) pa_nil)) pa_nil)) (blkOk_by (N := ["_law_ends_here", "_law_arcs", "_law_far", "_law_k", "_law_begin", "_law_goal", "_law_step", "_law_other", "_law_a", "_law_b"]) (sc := (defScope s__law_net)) (by decide +kernel)) (fun _ _ _ _ _ => pg_name (i := 7) sc__law_net.nd rfl (Or.inl rfl)) (fun _ _ _ _ _ => pts_nil) (fun _ _ _ _ _ => (pe_callTy (T := "int") call_int1 (by rfl) T.n_int (by decide +kernel) (pa_cons (pe_cmpR op_eq (pv 3) (pv 7) (nomark _)) pa_nil))))
              (pss_one (ps_if (PW.pt (pw_and (pt_cmp (pc_din (hu_of hr) (pv 4) (pv 2))) (pw_and1 (pt_cmp (pc_dnotin (hu_of hr) (pv 5) (pv 2))))))
                (pss_one (ps_dput (hu_of hr) (pv 2) (pv 5) (pe_lc (own := [("_law_a", 8), ("_law_b", 9)]) (wi := iZip K _) (g := gTup K 2 (gCons (gName 8) (gCons (gName 9) gNil))) (tt := tYes) rfl sc__law_net.nd (pi_zip (by rfl) T.n_zip (pa_cons (pe_dget (hu_of hr) (pv 2) (pv 4) (fun _ _ => rfl)) (pa_cons (pv 6) pa_nil))) (blkOk_by (N := ["_law_ends_here", "_law_arcs", "_law_far", "_law_k", "_law_begin", "_law_goal", "_law_step", "_law_other", "_law_a", "_law_b"]) (sc := (defScope s__law_net)) (by decide +kernel)) (fun _ _ _ _ _ => (pg_tup rfl (pgs_cons (pg_name (i := 8) sc__law_net.nd rfl (Or.inl rfl)) (pgs_cons (pg_name (i := 9) sc__law_net.nd rfl (Or.inl rfl)) pgs_nil)))) (fun _ _ _ _ _ => pts_nil) (fun _ _ _ _ _ => (pe_op op_add (pv 8) (pv 9)))) rfl))
                (pss_one (ps_if (PW.pt (pw_and (pt_cmp (pc_din (hu_of hr) (pv 5) (pv 2))) (pw_and1 (pt_cmp (pc_dnotin (hu_of hr) (pv 4) (pv 2))))))
                    (pss_one (ps_dput (hu_of hr) (pv 2) (pv 4) (pe_lc (own := [("_law_a", 8), ("_law_b", 9)]) (wi := iZip K _) (g := gTup K 2 (gCons (gName 8) (gCons (gName 9) gNil))) (tt := tYes) rfl sc__law_net.nd (pi_zip (by rfl) T.n_zip (pa_cons (pe_dget (hu_of hr) (pv 2) (pv 5) (fun _ _ => rfl)) (pa_cons (pv 6) pa_nil))) (blkOk_by (N := ["_law_ends_here", "_law_arcs", "_law_far", "_law_k", "_law_begin", "_law_goal", "_law_step", "_law_other", "_law_a", "_law_b"]) (sc := (defScope s__law_net)) (by decide +kernel)) (fun _ _ _ _ _ => (pg_tup rfl (pgs_cons (pg_name (i := 8) sc__law_net.nd rfl (Or.inl rfl)) (pgs_cons (pg_name (i := 9) sc__law_net.nd rfl (Or.inl rfl)) pgs_nil)))) (fun _ _ _ _ _ => pts_nil) (fun _ _ _ _ _ => (pe_op op_sub (pv 8) (pv 9)))) rfl))
                    pss_nil))))))))
      (pss_one (ps_ret (pe_lc (own := [("_law_k", 3)]) (g := gName 3) (tt := tYes) rfl sc__law_net.nd (pi_range1 (by rfl) T.n_range (pa_cons (pe_callB (id := "len") (r := rLenS K) call_len_seq (by rfl) T.n_len PySem.boot_len (pa_cons (pv 0) pa_nil)) pa_nil)) (blkOk_by (N := ["_law_ends_here", "_law_arcs", "_law_far", "_law_k", "_law_begin", "_law_goal", "_law_step", "_law_other", "_law_a", "_law_b"]) (sc := (defScope s__law_net)) (by decide +kernel)) (fun _ _ _ _ _ => pg_name (i := 3) sc__law_net.nd rfl (Or.inr rfl)) (fun _ _ _ _ _ => pts_nil) (fun _ _ _ _ _ => (pe_lc (own := [("_law_begin", 4), ("_law_goal", 5)]) (wi := iList K _) (g := gTup K 2 (gCons (gName 4) (gCons (gName 5) gNil))) (tt := tYes) rfl sc__law_net.nd (pi_list (pv 1)) (blkOk_by (N := ["_law_ends_here", "_law_arcs", "_law_far", "_law_k", "_law_begin", "_law_goal", "_law_step", "_law_other", "_law_a", "_law_b"]) (sc := (relS ({ kind := .function, names := [(".0", .local), ("_law_k", .cell), ("_law_arcs", .free), ("_law_far", .free)], isGenerator := false, isCoroutine := false } : Scope) (defScope s__law_net))) (by decide +kernel)) (fun _ _ _ _ _ => (pg_tup rfl (pgs_cons (pg_name (i := 4) sc__law_net.nd rfl (Or.inl rfl)) (pgs_cons (pg_name (i := 5) sc__law_net.nd rfl (Or.inl rfl)) pgs_nil)))) (fun _ _ _ _ _ => pts_nil) (fun _ _ _ _ _ => (pe_op op_sub (pe_ix (r := rIxL K) ix_list (pe_dget (hu_of hr) (pv 2) (pv 5) (fun _ _ => rfl)) (pv 3) (fun _ _ => rfl)) (pe_ix (r := rIxL K) ix_list (pe_dget (hu_of hr) (pv 2) (pv 4) (fun _ _ => rfl)) (pv 3) (fun _ _ => rfl))))))))))), ?_⟩
    obtain ⟨pE, pA, as, bs, es, qs, m, rfl, hes, hm1, hm8, hE, hEE, hA, hAE, hq8, he0, hq0, hC, k⟩ := h
    have hal : as.length = m := by rw [Paired.length hEE, hes]
    -- far
    obtain ⟨a0, as', rfl⟩ : ∃ a0 as', as = a0 :: as' := by
      cases as with
      | nil => simp at hal; omega
      | cons a r => exact ⟨a, r, rfl⟩
    obtain ⟨e0, es', rfl, h00⟩ : ∃ e0 es', es = e0 :: es' ∧ H a0 = some (.tup [.int e0.1, .int e0.2]) := by
      cases hEE with
      | cons g t => exact ⟨_, _, rfl, g⟩
    have hE0 := he0 e0 (List.mem_cons_self ..)
    refine fun d nd => ?_
    have x0 : Ex H (upd H d (.dK [])) := Ex.new nd
    refine ⟨_, rfl, pE, _, 0, _, rfl, rfl, SqL.of (x0 _ _ hE), atI_nat (j := 0) rfl, a0, _, 0, _, rfl, rfl, SqT.of (x0 _ _ h00), rfl, ?_⟩
    refine ⟨Nat.le_of_ble_eq_true rfl, fun z1 nz1 => ?_⟩
    have x1 : Ex (upd H d (.dK [])) (upd (upd H d (.dK [])) z1 (.lst [.int 0])) := Ex.new nz1
    refine ⟨_, rfl, pE, _, rfl, .inl (SqL.of ((x0.trans x1) _ _ hE)), z1, _, _, rfl, rfl, upd_same, ?_, ?_, ?_, fun z2 nz2 => ?_⟩
    · rw [List.length_map, hal]; omega
    · rw [List.length_map, hal]; omega
    · rw [List.length_map, hal]
      exact sz_of (by simp; omega)
    have zz : (List.replicate (((a0 :: as').map V.ref).length : Int).toNat [V.int 0]).flatten = (List.replicate m 0).map V.int := by
      rw [List.length_map, hal, Int.toNat_natCast]
      exact rep_flat m
    rw [zz]
    have x2 : Ex (upd (upd H d (.dK [])) z1 (.lst [.int 0])) (upd (upd (upd H d (.dK [])) z1 (.lst [.int 0])) z2 (.lst ((List.replicate m 0).map V.int))) := Ex.new nz2
    have hd2 := (x1.trans x2) _ _ (upd_same (H := H) (a := d) (o := .dK []))
    refine ⟨hd2, [(Sum.inl e0.1, .ref z2)], rfl, Nat.le_of_ble_eq_true rfl, ?_⟩
    have xa := (x0.trans x1).trans x2
    have hz2 : upd (upd (upd H d (.dK [])) z1 (.lst [.int 0])) z2 (.lst ((List.replicate m 0).map V.int)) z2 = some (.lst ((List.replicate m 0).map V.int)) := upd_same
    generalize upd (upd (upd H d (.dK [])) z1 (.lst [.int 0])) z2 (.lst ((List.replicate m 0).map V.int)) = H2 at hd2 xa hz2 ⊢
    clear x0 x1 x2 nz1 nz2 zz
    have z2d : z2 ≠ d := ne_of hz2 hd2 (by intro z; cases z)
    have F0 : FarOk (upd H2 d (.dK (mergeK [] [(Sum.inl e0.1, .ref z2)]))) d m [(Sum.inl e0.1, .ref z2)] [e0.1] := by
      refine ⟨upd_same, rfl, by simp, fun x hx => ?_, fun x v hv => ?_⟩
      · have : x = e0.1 := by simpa using hx
        rw [this]
        exact ⟨hE0.1, hE0.2.1⟩
      · have hx : x = e0.1 ∧ v = .ref z2 := by
          by_cases h : (Sum.inl e0.1 : Key) = Sum.inl x
          · rw [valV_pos (p := (Sum.inl e0.1, V.ref z2)) h] at hv
            exact ⟨(Sum.inl.inj h).symm, (Option.some.inj hv).symm⟩
          · have : valV [((Sum.inl e0.1 : Key), V.ref z2)] (Sum.inl x : Key) = none := by simp [valV, List.find?_cons, h]
            rw [this] at hv
            cases hv
        obtain ⟨_, rfl⟩ := hx
        refine ⟨z2, List.replicate m 0, rfl, ?_, List.length_replicate, fun y hy => ?_⟩
        · rw [upd_ne z2d]
          exact hz2
        · rw [List.eq_of_mem_replicate hy]
          exact Nat.zero_le _
    have XB : ExB d H (upd H2 d (.dK (mergeK [] [(Sum.inl e0.1, .ref z2)]))) := Ex.updB xa
    have ndl : ∀ {b : Addr} {o : HO}, H b = some o → b ≠ d := fun g => ne_of_none g nd
    generalize upd H2 d (.dK (mergeK [] [(Sum.inl e0.1, .ref z2)])) = H3 at F0 XB
    clear hz2 hd2 xa
    -- the loop
    refine ⟨fun μ σ H' => ∃ (y3 y4 y5 y6 y7 y8 y9 : Option V) (kvs : List (Key × V)) (L : List Int), σ = [some (.ref pE), some (.ref pA), some (.ref d), y3, y4, y5, y6, y7, y8, y9] ∧ μ = m + 1 - L.length ∧ ExB d H H' ∧ FarOk H' d m kvs L ∧ 1 ≤ L.length,
      ⟨m, _, _, _, _, _, _, _, _, _, rfl, rfl, XB, F0, Nat.le_refl 1⟩, ?_⟩
    rintro μ σ H4 ⟨y3, y4, y5, y6, y7, y8, y9, kvs, L, rfl, rfl, e4, F4, hL1⟩
    refine ⟨_, rfl, d, kvs, rfl, F4.at_, _, rfl, pE, _, rfl, .inl (SqL.of (e4 _ _ (ndl hE) hE)), _, _, rfl, rfl, _, rfl, ?_⟩
    rw [F4.len, List.length_map, hal]
    refine ite2 (fun hc => ?_) (fun hc => ?_)
    · have hLm : L.length ≤ m := by have := of_decide_eq_true hc; omega
      refine ⟨fun σ' H' => ∃ (y3 y4 y5 y6 y7 y8 y9 : Option V) (kvs' : List (Key × V)) (L' : List Int), σ' = [some (.ref pE), some (.ref pA), some (.ref d), y3, y4, y5, y6, y7, y8, y9] ∧ L.length < L'.length ∧ ExB d H H' ∧ FarOk H' d m kvs' L',
        fun σ' H' ⟨z3, z4, z5, z6, z7, z8, z9, kvs', L', a1, a2, a3, a4⟩ => ⟨m + 1 - L'.length, by omega, z3, z4, z5, z6, z7, z8, z9, kvs', L', a1, rfl, a3, a4, by omega⟩, ?_⟩
      refine ⟨_, rfl, pE, _, rfl, SqL.of (e4 _ _ (ndl hE) hE), for_enum (xs := (a0 :: as').map V.ref) (fun i σ' H' => ∃ (y3 y4 y5 y6 y7 y8 y9 : Option V) (kvs' : List (Key × V)) (L' : List Int), σ' = [some (.ref pE), some (.ref pA), some (.ref d), y3, y4, y5, y6, y7, y8, y9] ∧ ExB d H H' ∧ FarOk H' d m kvs' L' ∧
        (L.length < L'.length ∨ (L' = L ∧ ∀ j, j < i → ∀ e, (e0 :: es')[j]? = some e → (e.1 ∈ L ↔ e.2 ∈ L)))) ?_ (fun i σ' H' ⟨_, _, _, _, _, _, _, _, _, _, x, _, _⟩ => SqL.of (x _ _ (ndl hE) hE)) ?_ ?_⟩
      · exact ⟨_, _, _, _, _, _, _, _, _, rfl, e4, F4, .inr ⟨rfl, fun j hj => absurd hj (Nat.not_lt_zero _)⟩⟩
      · rintro i x T σ' H5 hi ⟨z3, z4, z5, z6, z7, z8, z9, kvs', L', rfl, e5, F5, hor⟩ nT
        rw [List.getElem?_map] at hi
        obtain ⟨ai, hai, rfl⟩ := Option.map_eq_some_iff.mp hi
        obtain ⟨ei, hei, hti⟩ := paired_get hEE hai
        have xT : Ex H5 (upd H5 T (.tup [.int (i : Nat), .ref ai])) := Ex.new nT
        have mi := he0 ei (List.mem_of_getElem? hei)
        refine ⟨T, _, rfl, SqT.of upd_same, rfl, _, _, rfl, _, _, rfl, ⟨ai, _, rfl, SqT.of (xT _ _ (e5 _ _ (ndl hti) hti)), rfl, _, _, rfl, _, _, rfl, rfl, rfl, ?_⟩⟩
        have F6 := F5.ex xT
        have e6 : ExB d H (upd H5 T (.tup [.int (i : Nat), .ref ai])) := e5.trans (ExB.of xT)
        generalize upd H5 T (.tup [.int (i : Nat), .ref ai]) = H6 at F6 e6 ⊢
        -- step
        have Est : EvL (tLc (iRng1 (tCons (tCB (rLenS K) (tCons (tVar 0) tNil)) tNil)) (gName 7) tYes (tCB (fun xs H Q => (∃ i, xs = [V.int i] ∧ Q (V.int i) H) ∨ ∃ k, xs = [V.bl k] ∧ Q (V.int (if k = true then 1 else 0)) H) (tCons (tOp rEq (tVar 3) (tVar 7)) tNil)) [7])
            [some (.ref pE), some (.ref pA), some (.ref d), some (.int (i : Nat)), some (.int ei.1), some (.int ei.2), z6, z7, z8, z9] H6 (((List.range m).map fun o => if decide (V.int (i : Nat) = V.int (o : Nat)) = true then (1 : Int) else 0).map V.int) := by
          have g := el_lcR1 (t := tYes) (te := tCB (fun xs H Q => (∃ i, xs = [V.int i] ∧ Q (V.int i) H) ∨ ∃ k, xs = [V.bl k] ∧ Q (V.int (if k = true then 1 else 0)) H) (tCons (tOp rEq (tVar 3) (tVar 7)) tNil)) (j := 7) (vs := [7]) (σ := [some (.ref pE), some (.ref pA), some (.ref d), some (.int (i : Nat)), some (.int ei.1), some (.int ei.2), z6, z7, z8, z9]) (H := H6) (n := (m : Int)) (ta := tCons (tCB (rLenS K) (tCons (tVar 0) tNil)) tNil)
            (fun _ => true) (fun o => .int (if decide (V.int (i : Nat) = V.int (o : Nat)) = true then 1 else 0)) (ea_cons (ev_is (ev_len (ev_var rfl) (SqL.of (e6 _ _ (ndl hE) hE))) (by rw [List.length_map, hal])) ea_nil) (by omega) (fun x => rfl) (fun o H1 e ho Hx ex Qx qx => qx Hx (Ex.refl _)) (fun o H1 e ho hf H2 e2 Q2 q2 => ⟨_, rfl, _, rfl, rfl, .inr ⟨_, rfl, q2 H2 (Ex.refl _)⟩⟩)
          have eg : given (m : Int).toNat (fun _ => true) (fun o => V.int (if decide (V.int (i : Nat) = V.int (o : Nat)) = true then 1 else 0)) = ((List.range m).map fun o => if decide (V.int (i : Nat) = V.int (o : Nat)) = true then (1 : Int) else 0).map V.int := by
            unfold given
            rw [Int.toNat_natCast, List.filter_eq_self.mpr (fun _ _ => rfl), List.map_map]
            rfl
          rw [eg] at g
          exact g
        refine q_asgL Est fun st H7 _ e7 hst => ?_
        have F7 := F6.ex e7
        have e07 := e6.trans (ExB.of e7)
        have stb : ∀ y ∈ (List.range m).map fun o => if decide (V.int (i : Nat) = V.int (o : Nat)) = true then (1 : Int) else 0, y = 0 ∨ y = 1 := by
          intro y hy
          obtain ⟨o, _, rfl⟩ := List.mem_map.mp hy
          split
          · exact .inr rfl
          · exact .inl rfl
        have stl : ((List.range m).map fun o => if decide (V.int (i : Nat) = V.int (o : Nat)) = true then (1 : Int) else 0).length = m := by
          rw [List.length_map, List.length_range]
        generalize ((List.range m).map fun o => if decide (V.int (i : Nat) = V.int (o : Nat)) = true then (1 : Int) else 0) = sl at hst stb stl
        -- the ifs
        have nxt : ∀ H', ExB d H H' → FarOk H' d m kvs' L' → (ei.1 ∈ L' ↔ ei.2 ∈ L') → ∃ (y3 y4 y5 y6 y7 y8 y9 : Option V) (kvs' : List (Key × V)) (L' : List Int), [some (V.ref pE), some (.ref pA), some (.ref d), some (.int (i : Nat)), some (.int ei.1), some (.int ei.2), some (.ref st), z7, z8, z9] = [some (.ref pE), some (.ref pA), some (.ref d), y3, y4, y5, y6, y7, y8, y9] ∧ ExB d H H' ∧ FarOk H' d m kvs' L' ∧
            (L.length < L'.length ∨ (L' = L ∧ ∀ j, j < i + 1 → ∀ e, (e0 :: es')[j]? = some e → (e.1 ∈ L ↔ e.2 ∈ L))) := by
          intro H' x1 x2 x3
          refine ⟨_, _, _, _, _, _, _, kvs', L', rfl, x1, x2, ?_⟩
          rcases hor with h | ⟨rfl, h⟩
          · exact .inl h
          · refine .inr ⟨rfl, fun j hj e he => ?_⟩
            by_cases hji : j < i
            · exact h j hji e he
            · have : j = i := by omega
              subst this
              rw [hei] at he
              have := Option.some.inj he
              rw [← this]
              exact x3
        have grow : ∀ (x : Int) (a : Addr) (ns : List Int) (H' : Hp), ExB d H H' → FarOk H' d m kvs' L' → x ∉ L' → 0 ≤ x ∧ x ≤ m → H' a = some (.lst (ns.map V.int)) → ns.length = m → (∀ y ∈ ns, y.natAbs ≤ L'.length + 1) → ∃ (y3 y4 y5 y6 y7 y8 y9 : Option V) (kvs2 : List (Key × V)) (L2 : List Int), [some (V.ref pE), some (.ref pA), some (.ref d), some (.int (i : Nat)), some (.int ei.1), some (.int ei.2), some (.ref st), z7, z8, z9] = [some (.ref pE), some (.ref pA), some (.ref d), y3, y4, y5, y6, y7, y8, y9] ∧ ExB d H (upd H' d (.dK (putK kvs' (Sum.inl x) (.ref a)))) ∧ FarOk (upd H' d (.dK (putK kvs' (Sum.inl x) (.ref a)))) d m kvs2 L2 ∧
            (L.length < L2.length ∨ (L2 = L ∧ ∀ j, j < i + 1 → ∀ e, (e0 :: es')[j]? = some e → (e.1 ∈ L ↔ e.2 ∈ L))) := by
          intro x a ns H' x1 x2 x3 x4 x5 x6 x7
          refine ⟨_, _, _, _, _, _, _, _, L' ++ [x], rfl, x1.trans (ExB.upd _ _ _), x2.put x3 x4 x5 x6 x7, .inl ?_⟩
          rw [List.length_append]
          simp only [List.length_cons, List.length_nil]
          rcases hor with h | ⟨rfl, _⟩ <;> omega
        have hkv : kvs'.length < sizeLine := small1000 (by have := F7.len; have := F7.le; omega)
        show tIfS _ _ _ _ [some (V.ref pE), some (.ref pA), some (.ref d), some (.int (i : Nat)), some (.int ei.1), some (.int ei.2), some (.ref st), z7, z8, z9] H7
        refine ⟨_, rfl, _, rfl, d, _, rfl, DGet.k (k := Sum.inl ei.1) F7.at_, _, rfl, ?_⟩
        rw [F7.some_ ei.1]
        have snd : (∀ H', Ex H7 H' → ei.1 ∉ L' ∨ ei.2 ∈ L' → tIfS (tAnd (tB (tDIn (tVar 5) (tVar 2))) (tB (tDNotIn (tVar 4) (tVar 2)))) (sDPut (tVar 2) (tVar 4) (tLc (iZip K (tCons (tDGet (tVar 2) (tVar 5)) (tCons (tVar 6) tNil))) (g2 K 8 9) tYes (tOp (rI0 fun i j => V.int (i - j)) (tVar 8) (tVar 9)) [8, 9])) tNext
            { nx := fun σ' H' => ∃ (y3 y4 y5 y6 y7 y8 y9 : Option V) (kvs' : List (Key × V)) (L' : List Int), σ' = [some (.ref pE), some (.ref pA), some (.ref d), y3, y4, y5, y6, y7, y8, y9] ∧ ExB d H H' ∧ FarOk H' d m kvs' L' ∧ (L.length < L'.length ∨ (L' = L ∧ ∀ j, j < i + 1 → ∀ e, (e0 :: es')[j]? = some e → (e.1 ∈ L ↔ e.2 ∈ L))), rt := Q,
              bk := fun σ' H' => ∃ (y3 y4 y5 y6 y7 y8 y9 : Option V) (kvs' : List (Key × V)) (L' : List Int), σ' = [some (.ref pE), some (.ref pA), some (.ref d), y3, y4, y5, y6, y7, y8, y9] ∧ L.length < L'.length ∧ ExB d H H' ∧ FarOk H' d m kvs' L',
              ct := fun σ' H' => ∃ (y3 y4 y5 y6 y7 y8 y9 : Option V) (kvs' : List (Key × V)) (L' : List Int), σ' = [some (.ref pE), some (.ref pA), some (.ref d), y3, y4, y5, y6, y7, y8, y9] ∧ ExB d H H' ∧ FarOk H' d m kvs' L' ∧ (L.length < L'.length ∨ (L' = L ∧ ∀ j, j < i + 1 → ∀ e, (e0 :: es')[j]? = some e → (e.1 ∈ L ↔ e.2 ∈ L))) }
            [some (V.ref pE), some (.ref pA), some (.ref d), some (.int (i : Nat)), some (.int ei.1), some (.int ei.2), some (.ref st), z7, z8, z9] H') := by
          intro H' x1 hno
          have F8 := F7.ex x1
          have e8 := e07.trans (ExB.of x1)
          refine ⟨_, rfl, _, rfl, d, _, rfl, DGet.k (k := Sum.inl ei.2) F8.at_, _, rfl, ?_⟩
          rw [F8.some_ ei.2]
          by_cases h2 : ei.2 ∈ L'
          · rw [decide_eq_true h2]
            refine iteT ?_
            refine ⟨_, rfl, _, rfl, d, _, rfl, DGet.k (k := Sum.inl ei.1) F8.at_, _, rfl, ?_⟩
            rw [F8.some_ ei.1]
            by_cases h1 : ei.1 ∈ L'
            · rw [decide_eq_true h1]
              exact iteF (nxt _ e8 F8 ⟨fun _ => h2, fun _ => h1⟩)
            · rw [decide_eq_false h1]
              refine iteT ?_
              obtain ⟨ar, ns, hv, har, hnl, hnb⟩ := F8.get h2
              refine el_zip (K := K) (f := fun i j => i - j) (xs := ns) (ys := sl) (ea_cons (ev_dget rfl rfl F8.at_ hv) (ea_cons (ev_var rfl) ea_nil)) (SqL.of har) (SqL.of (x1 _ _ hst)) (by rw [hnl, stl]) (by omega) (fun u v => rfl) (fun x y H1 _ _ _ => ev_op (ev_var rfl) (ev_var rfl) rv_I0) H' (Ex.refl _) _ fun r H9 nr e9 hr => ?_
              have F9 := F8.ex e9
              refine ⟨_, rfl, _, rfl, d, _, rfl, DPut.k (k := Sum.inl ei.1) F9.at_ hkv, ?_⟩
              refine grow _ r _ H9 (e8.trans (ExB.of e9)) F9 h1 ⟨mi.1, mi.2.1⟩ hr (by rw [List.length_zipWith]; omega) fun y hy => ?_
              obtain ⟨u, v, hu, hv', rfl⟩ : ∃ u v, u ∈ ns ∧ v ∈ sl ∧ u - v = y := by
                obtain ⟨j, hj⟩ := List.getElem?_of_mem hy
                rw [List.getElem?_zipWith] at hj
                cases h3 : ns[j]? with
                | none => rw [h3] at hj; simp at hj
                | some u =>
                  cases h4 : sl[j]? with
                  | none => rw [h3, h4] at hj; simp at hj
                  | some v =>
                    rw [h3, h4] at hj
                    exact ⟨u, v, List.mem_of_getElem? h3, List.mem_of_getElem? h4, Option.some.inj hj⟩
              have b1 := hnb u hu
              rcases stb v hv' with rfl | rfl <;> omega
          · rw [decide_eq_false h2]
            refine iteF ?_
            have h1 : ei.1 ∉ L' := hno.resolve_right h2
            exact nxt _ e8 F8 ⟨fun z => absurd z h1, fun z => absurd z h2⟩
        by_cases h1 : ei.1 ∈ L'
        · rw [decide_eq_true h1]
          refine iteT ?_
          refine ⟨_, rfl, _, rfl, d, _, rfl, DGet.k (k := Sum.inl ei.2) F7.at_, _, rfl, ?_⟩
          rw [F7.some_ ei.2]
          by_cases h2 : ei.2 ∈ L'
          · rw [decide_eq_true h2]
            exact iteF (snd H7 (Ex.refl _) (.inr h2))
          · rw [decide_eq_false h2]
            refine iteT ?_
            obtain ⟨ar, ns, hv, har, hnl, hnb⟩ := F7.get h1
            refine el_zip (K := K) (f := fun i j => i + j) (xs := ns) (ys := sl) (ea_cons (ev_dget rfl rfl F7.at_ hv) (ea_cons (ev_var rfl) ea_nil)) (SqL.of har) (SqL.of hst) (by rw [hnl, stl]) (by omega) (fun u v => rfl) (fun x y H1 _ _ _ => ev_op (ev_var rfl) (ev_var rfl) rv_I0) H7 (Ex.refl _) _ fun r H9 nr e9 hr => ?_
            have F9 := F7.ex e9
            refine ⟨_, rfl, _, rfl, d, _, rfl, DPut.k (k := Sum.inl ei.2) F9.at_ hkv, ?_⟩
            refine grow _ r _ H9 (e07.trans (ExB.of e9)) F9 h2 ⟨mi.2.2.1, mi.2.2.2⟩ hr (by rw [List.length_zipWith]; omega) fun y hy => ?_
            obtain ⟨u, v, hu, hv', rfl⟩ : ∃ u v, u ∈ ns ∧ v ∈ sl ∧ u + v = y := by
              obtain ⟨j, hj⟩ := List.getElem?_of_mem hy
              rw [List.getElem?_zipWith] at hj
              cases h3 : ns[j]? with
              | none => rw [h3] at hj; simp at hj
              | some u =>
                cases h4 : sl[j]? with
                | none => rw [h3, h4] at hj; simp at hj
                | some v =>
                  rw [h3, h4] at hj
                  exact ⟨u, v, List.mem_of_getElem? h3, List.mem_of_getElem? h4, Option.some.inj hj⟩
            have b1 := hnb u hu
            rcases stb v hv' with rfl | rfl <;> omega
        · rw [decide_eq_false h1]
          exact iteF (snd H7 (Ex.refl _) (.inl h1))
      · rintro σ' H5 ⟨z3, z4, z5, z6, z7, z8, z9, kvs', L', rfl, e5, F5, hor⟩
        refine ⟨z3, z4, z5, z6, z7, z8, z9, kvs', L', rfl, ?_, e5, F5⟩
        rcases hor with h | ⟨rfl, h⟩
        · exact h
        · exfalso
          rw [List.length_map, hal] at h
          obtain ⟨x0, hx0⟩ : ∃ x0, x0 ∈ L' := by
            cases L' with
            | nil => simp at hL1
            | cons x r => exact ⟨x, List.mem_cons_self ..⟩
          have hS := hC (fun x => decide (x ∈ L')) (fun e he => by
            obtain ⟨j, hj⟩ := List.getElem?_of_mem he
            have := h j (by have := (List.getElem?_eq_some_iff.mp hj).1; omega) e hj
            by_cases q : e.1 ∈ L'
            · rw [decide_eq_true q, decide_eq_true (this.mp q)]
            · rw [decide_eq_false q, decide_eq_false (fun z => q (this.mpr z))])
          have hall : ∀ x ∈ numsTo (m + 1), x ∈ L' := by
            intro x hx
            have hx := mem_numsTo.mp hx
            have i0 := F5.inn x0 hx0
            have := hS x x0 (by omega) (by omega) i0.1 i0.2
            rw [decide_eq_true hx0] at this
            exact of_decide_eq_true this
          have := nodup_sub (nodup_nums (m + 1)) hall
          rw [numsTo_length] at this
          omega
    · have hLm : m < L.length := by
        have : ¬ ((L.length : Int) ≤ (m : Int)) := fun z => hc (decide_eq_true z)
        omega
      have hall := F4.all hLm
      have hEl := e4 _ _ (ndl hE) hE
      have hAl := e4 _ _ (ndl hA) hA
      have hAE4 : EdgesAt H4 bs qs := EdgesAt.mono (fun a xs g => e4 _ _ (ndl g) g) hAE
      -- the rows
      refine lc_rows (m := m) (F := fun kk => qs.map fun e => (valN H4 kvs e.2 kk) - (valN H4 kvs e.1 kk)) (ea_cons (ev_is (ev_len (ev_var rfl) (SqL.of hEl)) (by rw [List.length_map, hal])) ea_nil) (by omega) (fun u => rfl) ?_ ?_
      · intro kk H5 x5 hkk
        refine el_pairs (K := K) (f := fun e => (valN H4 kvs e.2 kk) - (valN H4 kvs e.1 kk)) rfl (x5 _ _ hAl) (EdgesAt.mono (tups_E x5) hAE4) (by omega) (fun u v => rfl) fun e H6 he x6 => ?_
        have mq := hq0 e he
        obtain ⟨a1, n1, v1, g1, l1, b1⟩ := F4.get (hall e.1 mq.1 mq.2.1)
        obtain ⟨a2, n2, v2, g2, l2, b2⟩ := F4.get (hall e.2 mq.2.2.1 mq.2.2.2)
        have x46 := x5.trans x6
        rw [valN_eq v1 g1, valN_eq v2 g2]
        refine ev_op (ev_op (ev_dget rfl rfl (x46 _ _ F4.at_) v2) (ev_var rfl) (rv_ixL (SqL.of (x46 _ _ g2)) (atI_row (by omega)))) (ev_op (ev_dget rfl rfl (x46 _ _ F4.at_) v1) (ev_var rfl) (rv_ixL (SqL.of (x46 _ _ g1)) (atI_row (by omega)))) rv_I0
      · intro p rs H5 np nrs ndr npr x5 ht
        have hH : ∀ {a : Addr}, H4 a = none → H a = none := fun {a} g => fresh_B e4 g ⟨_, F4.at_⟩
        refine k rs _ p H5 (hH np) (fun a ha => hH (nrs a ha)) ndr npr (fun b o g => (e4.trans (ExB.of x5)) b o (ndl g) g) ht (by rw [List.length_map, List.length_range]) fun r hr => ?_
        obtain ⟨kk, hkk, rfl⟩ := List.mem_map.mp hr
        refine ⟨by rw [List.length_map], fun y hy => ?_⟩
        obtain ⟨e, he, rfl⟩ := List.mem_map.mp hy
        have mq := hq0 e he
        have hkk := List.mem_range.mp hkk
        obtain ⟨a1, n1, v1, g1, l1, b1⟩ := F4.get (hall e.1 mq.1 mq.2.1)
        obtain ⟨a2, n2, v2, g2, l2, b2⟩ := F4.get (hall e.2 mq.2.2.1 mq.2.2.2)
        rw [valN_eq v1 g1, valN_eq v2 g2]
        have c1 : n1[kk]?.getD 0 ∈ n1 := by
          rw [List.getElem?_eq_getElem (by omega)]
          exact List.getElem_mem _
        have c2 : n2[kk]?.getD 0 ∈ n2 := by
          rw [List.getElem?_eq_getElem (by omega)]
          exact List.getElem_mem _
        have d1 := b1 _ c1
        have d2 := b2 _ c2
        have := F4.le
        omega
-- DEF is_row

def sp_is_row (K : PySem.W.Frag) : Sp := fun vs H Q _ => ∃ (a : Addr) (ns : List Int), vs = [.ref a] ∧ H a = some (.lst (ns.map V.int)) ∧ 1 ≤ ns.length ∧ ns.length ≤ 8 ∧ ∀ H', Ex H H' → Q (.bl true) H'

theorem ok_is_row (T : Txt K mg) : FnOk P w K mg base CX0 2 T.f_is_row T.fd_is_row ["thing"] (sp_is_row K) := by
  refine Fun.ok T.F_is_row sc_is_row (fun vs H Q E h => ?_) (fun cdv A outer s H vs Q E hr h => ?_)
  · obtain ⟨_, _, rfl, _⟩ := h; rfl
  · refine ⟨_, (pss_cons (ps_if (PW.pt (pw_or (pt_not (pt_val (pe_callB (id := "isinstance") (r := rIsi K) call_isi (by rfl) T.n_isinstance (by decide +kernel) (pa_cons (pv 0) (pa_cons (pe_bltn (v := .ty "list") (by rfl) T.n_list (by decide +kernel) rfl) pa_nil))))) (pw_or1 (pt_not (pt_chain op_le op_le pe_int (pe_callB (id := "len") (r := rLenS K) call_len_seq (by rfl) T.n_len PySem.boot_len (pa_cons (pv 0) pa_nil)) (pe_glob (v := .int 8) (by rfl) T.g_MOST ⟨_, rfl⟩))))))
        (pss_one (ps_ret pe_bl))
        pss_nil)
      (pss_one (ps_ret (pe_callB (id := "all") (r := rAll K) (cr_all rfl) (by rfl) T.n_all (by decide +kernel) (pa_cons (pe_lc (own := [("entry", 1)]) (wi := iList K _) (g := gName 1) (tt := tYes) rfl sc_is_row.nd (pi_list (pv 0)) (blkOk_by (N := ["thing", "entry"]) (sc := (defScope s_is_row)) (by decide +kernel)) (fun _ _ _ _ _ => pg_name (i := 1) sc_is_row.nd rfl (Or.inl rfl)) (fun _ _ _ _ _ => pts_nil) (fun _ _ _ _ _ => (pe_call (ok_is_whole T) hr (by rfl) T.g_is_whole T.k_is_whole T.b_is_whole .nil pass0 (pa_cons (pv 1) pa_nil)))) pa_nil))))), ?_⟩
    obtain ⟨a, ns, rfl, ha, h1, h8, k⟩ := h
    refine q_when (b := false) (et_is (et_or (et_not (et_B (ev_isi (t := "list") (b := true) (ev_var rfl) ev_c (fun H1 e => .base (.lst (e _ _ ha))) (by decide +kernel)))) (fun _ => et_not (et_test (ev_chain ev_c (ev_is (ev_len (ev_var rfl) (SqL.of ha)) (by rw [List.length_map])) ev_c rv_le rv_le)))) ?_) (fun z => nomatch z) (fun _ H1 e1 => ?_)
    · rw [decide_eq_true (show (1 : Int) ≤ (ns.length : Int) by omega), decide_eq_true (show (ns.length : Int) ≤ 8 by omega)]
      rfl
    refine s_ret (ev_all (el_yes (a := a) rfl (e1 _ _ ha) (by rw [List.length_map]; omega) (fun x H' hx e => ?_) (fun x => rfl))) fun H2 e2 => k H2 (e1.trans e2)
    obtain ⟨i, _, rfl⟩ := List.mem_map.mp hx
    exact ev_fn (ea_cons (ev_var rfl) ea_nil) fun H3 e3 Q3 q3 => ⟨_, "int", rfl, .base (.int _), .inl rfl, q3 H3 (Ex.refl _)⟩
-- DEF _law_one

def sp__law_one (K : PySem.W.Frag) : Sp := fun vs H Q _ => ∃ (s l : Addr) (n : Int) (xs : List V), vs = [.ref s, .ref l] ∧ SrcAt H s n ∧ n ≤ 500000000 ∧ l ≠ s ∧ SqL K H l xs ∧ 0 < xs.length ∧ xs.length ≤ 1000 ∧
  ∀ v ∈ xs, ∀ H', ExB s H H' → SrcAt H' s (n + 1) → Q v H'

theorem ok__law_one (T : Txt K mg) : FnOk P w K mg base CX0 2 T.f__law_one T.fd__law_one ["_law_source", "_law_some"] (sp__law_one K) := by
  refine Fun.ok T.F__law_one sc__law_one (fun vs H Q E h => ?_) (fun cdv A outer s H vs Q E hr h => ?_)
  · obtain ⟨_, _, _, _, rfl, _⟩ := h; rfl
  · refine ⟨_, (pss_one (ps_ret (pe_ix (r := rIxL K) ix_list (pv 1) (pe_call (ok__law_next T) hr (by rfl) T.g__law_next T.k__law_next T.b__law_next .nil pass0 (pa_cons (pv 0) (pa_cons (pe_callB (id := "len") (r := rLenS K) call_len_seq (by rfl) T.n_len PySem.boot_len (pa_cons (pv 1) pa_nil)) pa_nil))) (fun _ _ => rfl)))), ?_⟩
    obtain ⟨s, l, n, xs, rfl, hs, hn, nls, hl, h0, h1, k⟩ := h
    refine ⟨_, rfl, _, rfl, _, rfl, l, xs, rfl, .inl hl, s, _, n, rfl, hs, by omega, by omega, (by show xs.length < 2 ^ 8000; exact Nat.lt_of_le_of_lt h1 (by decide +kernel)), fun f H' f0 f1 e s' => ?_⟩
    have hk : f.toNat < xs.length := by omega
    refine ⟨l, xs, f, xs[f.toNat], rfl, rfl, e.l nls hl, at_of (j := f.toNat) (by omega) (List.getElem?_eq_getElem hk), ?_⟩
    exact k _ (List.getElem_mem hk) H' e s'
-- DEF _law_mixed

def sp__law_mixed (K : PySem.W.Frag) : Sp := fun vs H Q _ => ∃ (s l : Addr) (n : Int) (xs : List V), vs = [.ref s, .ref l] ∧ SrcAt H s n ∧ n ≤ 500000000 ∧ l ≠ s ∧ SqL K H l xs ∧ xs.length ≤ 100 ∧ (∀ v ∈ xs, DatV K H s v) ∧
  ∀ (ys : List V) (p : Addr) (H' : Hp), ys.Perm xs → H p = none → ExB s H H' → SrcAt H' s (n + 100) → H' p = some (.lst ys) → Q (.ref p) H'

theorem ok__law_mixed (T : Txt K mg) : FnOk P w K mg base CX0 2 T.f__law_mixed T.fd__law_mixed ["_law_source", "_law_some"] (sp__law_mixed K) := by
  refine Fun.ok T.F__law_mixed sc__law_mixed (fun vs H Q E h => ?_) (fun cdv A outer s H vs Q E hr h => ?_)
  · obtain ⟨_, _, _, _, rfl, _⟩ := h; rfl
  · refine ⟨_, (pss_cons (ps_set (i := 2) sc__law_mixed.nd rfl (by first | exact Or.inl rfl | exact Or.inr rfl) (pe_callTy (T := "list") (r := rListS K) call_list_of (by rfl) T.n_list (by decide +kernel) (pa_cons (pv 1) pa_nil)))
      (pss_cons (ps_set (i := 3) sc__law_mixed.nd rfl (by first | exact Or.inl rfl | exact Or.inr rfl) (pe_lst pa_nil))
      (pss_cons (ps_while PassesOwn.never (pt_cmpR (r := rNeD K) (op_neD hr.units) (pv 2) (pe_lst pa_nil) (nomark _))
        (pss_one (ps_expr (pe_bm PySem.F.plainAttrs_list PySem.F.slot_list_append PySem.F.type_list_append mt_append (pv 3) (pa_cons (pe_bm PySem.F.plainAttrs_list PySem.F.slot_list_pop PySem.F.type_list_pop mt_popAt (pv 2) (pa_cons (pe_call (ok__law_next T) hr (by rfl) T.g__law_next T.k__law_next T.b__law_next .nil pass0 (pa_cons (pv 0) (pa_cons (pe_callB (id := "len") (r := rLenS K) call_len_seq (by rfl) T.n_len PySem.boot_len (pa_cons (pv 2) pa_nil)) pa_nil))) pa_nil)) pa_nil)))))
      (pss_one (ps_ret (pv 3)))))), ?_⟩
    obtain ⟨s, l, n, xs, rfl, hs, hn, nls, hl, h1, hd, k⟩ := h
    -- left, found
    refine ⟨_, rfl, l, xs, rfl, .inl hl, fun q nq => ?_⟩
    refine ⟨Nat.zero_le _, fun p np => ?_⟩
    have nqs : q ≠ s := hs.ne nq
    have nps : p ≠ s := (hs.ex (Ex.new nq)).ne np
    have npq : p ≠ q := (ne_of_none upd_same np).symm
    have npH : H p = none := fresh_back (Ex.new nq) np
    refine ⟨fun m σ H' => ∃ ls fs : List V, σ = [some (.ref s), some (.ref l), some (.ref q), some (.ref p)] ∧ m = ls.length ∧ (fs ++ ls).Perm xs ∧ H' q = some (.lst ls) ∧ H' p = some (.lst fs) ∧ ExB s H H' ∧ SrcAt H' s (n + fs.length),
      ⟨xs.length, xs, [], rfl, rfl, .refl _, ?_, upd_same, ?_, ?_⟩, ?_⟩
    · rw [upd_ne npq.symm]
      exact upd_same
    · exact ExB.of ((Ex.new nq).trans (Ex.new np))
    · exact (hs.ex ((Ex.new nq).trans (Ex.new np))).le (by simp)
    rintro m σ H1 ⟨ls, fs, rfl, rfl, hp, hq, hpf, e1, s1⟩
    have hlen : fs.length + ls.length = xs.length := by
      rw [← List.length_append]
      exact hp.length_eq
    obtain ⟨ds, d1, d2, d3⟩ := dat_all (K := K) (H := H1) (s := s) (xs := ls) fun v hv => (hd v (hp.mem_iff.mp (List.mem_append_right _ hv))).exB e1
    refine ⟨_, rfl, Nat.zero_le _, fun z nz => ?_⟩
    have x1 : Ex H1 (upd H1 z (.lst [])) := Ex.new nz
    refine ⟨_, _, .lst (SqL.of (x1 _ _ hq)) (dpAll_ex x1 d1), .lst (SqL.of upd_same) .nil, shaped_list d2 (by omega), rfl, _, rfl, ?_⟩
    rw [eqv_nil]
    cases ls with
    | nil =>
      cases d1
      refine iteF ?_
      refine ⟨_, rfl, ?_⟩
      rw [List.append_nil] at hp
      exact k fs p _ hp npH (e1.trans (ExB.of x1)) ((s1.ex x1).le (by have := hp.length_eq; omega)) (x1 _ _ hpf)
    | cons y0 ls0 =>
      cases d1 with
      | cons _ _ =>
        refine iteT ?_
        refine ⟨fun σ' H' => ∃ ls' fs' : List V, σ' = [some (.ref s), some (.ref l), some (.ref q), some (.ref p)] ∧ ls'.length < (y0 :: ls0).length ∧ (fs' ++ ls').Perm xs ∧ H' q = some (.lst ls') ∧ H' p = some (.lst fs') ∧ ExB s H H' ∧ SrcAt H' s (n + fs'.length),
          fun σ' H' ⟨ls', fs', a1, a2, a3, a4, a5, a6, a7⟩ => ⟨ls'.length, a2, ls', fs', a1, rfl, a3, a4, a5, a6, a7⟩, ?_⟩
        refine ⟨_, rfl, .inl ⟨rfl, _, SqL.of (x1 _ _ hpf)⟩, _, rfl, .inl ⟨rfl, _, SqL.of (x1 _ _ hq)⟩, _, rfl, _, rfl, q, _, rfl, .inl (SqL.of (x1 _ _ hq)), s, _, n + fs.length, rfl, s1.ex x1, by omega, (by simp only [List.length_cons]; omega), ?_, fun f H2 f0 f1 e2 s2 => ?_⟩
        · show (((y0 :: ls0).length : Nat) : Int).natAbs < 2 ^ 8000
          rw [Int.natAbs_natCast]
          exact Nat.lt_of_le_of_lt (show (y0 :: ls0).length ≤ 100 by omega) (by decide +kernel)
        · have hk : f.toNat < (y0 :: ls0).length := by omega
          have hy := List.getElem?_eq_getElem hk
          refine ⟨q, _, f, f.toNat, _, rfl, rfl, e2 _ _ nqs (x1 _ _ hq), by omega, by omega, seqIx (n := 0) f0 f1, hy, ?_⟩
          refine ⟨p, fs, _, rfl, rfl, ?_, small1000 (by omega), ?_⟩
          · rw [upd_ne npq]
            exact e2 _ _ nps (x1 _ _ hpf)
          · refine ⟨_, _, rfl, ?_, (perm_pop hy).trans hp, ?_, upd_same, ?_, ?_⟩
            · rw [List.length_eraseIdx_of_lt hk]
              omega
            · rw [upd_ne npq.symm]
              exact upd_same
            · refine fun b o nb h => ?_
              have nbp := ne_of_none h npH
              have nbq := ne_of_none h nq
              rw [upd_ne nbp, upd_ne nbq]
              exact e2 _ _ nb (x1 _ _ (e1 _ _ nb h))
            · have s3 : SrcAt H2 s (n + ((fs ++ [(y0 :: ls0)[f.toNat]]).length : Nat)) := s2.le (by rw [List.length_append]; simp; omega)
              obtain ⟨a1, a2, a3, a4, a5⟩ := s3
              exact ⟨a1, a2, a3, by rw [upd_ne nps.symm, upd_ne nqs.symm]; exact a4, a5⟩
-- DEF is_table

def sp_is_table (K : PySem.W.Frag) : Sp := fun vs H Q _ => ∃ (p : Addr) (as : List Addr) (rows : List (List Int)) (m w : Nat), vs = [.ref p] ∧ TabOk H p as rows m w ∧ ∀ H', Ex H H' → Q (.bl true) H'

theorem ok_is_table (T : Txt K mg) : FnOk P w K mg base CX0 3 T.f_is_table T.fd_is_table ["thing"] (sp_is_table K) := by
  refine Fun.ok T.F_is_table sc_is_table (fun vs H Q E h => ?_) (fun cdv A outer s H vs Q E hr h => ?_)
  · obtain ⟨_, _, _, _, _, rfl, _⟩ := h; rfl
  · refine ⟨_, (pss_cons (ps_if (PW.pt (pw_or (pt_not (pt_val (pe_callB (id := "isinstance") (r := rIsi K) call_isi (by rfl) T.n_isinstance (by decide +kernel) (pa_cons (pv 0) (pa_cons (pe_bltn (v := .ty "list") (by rfl) T.n_list (by decide +kernel) rfl) pa_nil))))) (pw_or1 (pt_not (pt_chain op_le op_le pe_int (pe_callB (id := "len") (r := rLenS K) call_len_seq (by rfl) T.n_len PySem.boot_len (pa_cons (pv 0) pa_nil)) (pe_glob (v := .int 8) (by rfl) T.g_MOST ⟨_, rfl⟩))))))
        (pss_one (ps_ret pe_bl))
        pss_nil)
      (pss_cons (ps_if (pt_not (pt_val (pe_callB (id := "all") (r := rAll K) (cr_all rfl) (by rfl) T.n_all (by decide +kernel) (pa_cons (pe_lc (own := [("row", 1)]) (wi := iList K _) (g := gName 1) (tt := tYes) rfl sc_is_table.nd (pi_list (pv 0)) (blkOk_by (N := ["thing", "row"]) (sc := (defScope s_is_table)) (by decide +kernel)) (fun _ _ _ _ _ => pg_name (i := 1) sc_is_table.nd rfl (Or.inl rfl)) (fun _ _ _ _ _ => pts_nil) (fun _ _ _ _ _ => (pe_call (ok_is_row T) hr (by rfl) T.g_is_row T.k_is_row T.b_is_row .nil pass0 (pa_cons (pv 1) pa_nil)))) pa_nil))))
        (pss_one (ps_ret pe_bl))
        pss_nil)
      (pss_one (ps_ret (pe_callB (id := "all") (r := rAll K) (cr_all rfl) (by rfl) T.n_all (by decide +kernel) (pa_cons (pe_lc (own := [("row", 1)]) (wi := iList K _) (g := gName 1) (tt := tYes) rfl sc_is_table.nd (pi_list (pv 0)) (blkOk_by (N := ["thing", "row"]) (sc := (defScope s_is_table)) (by decide +kernel)) (fun _ _ _ _ _ => pg_name (i := 1) sc_is_table.nd rfl (Or.inl rfl)) (fun _ _ _ _ _ => pts_nil) (fun _ _ _ _ _ => (pe_cmpR op_eq (pe_callB (id := "len") (r := rLenS K) call_len_seq (by rfl) T.n_len PySem.boot_len (pa_cons (pv 1) pa_nil)) (pe_callB (id := "len") (r := rLenS K) call_len_seq (by rfl) T.n_len PySem.boot_len (pa_cons (pe_ix (r := rIxL K) ix_list (pv 0) pe_int (fun _ _ => rfl)) pa_nil)) (nomark _)))) pa_nil)))))), ?_⟩
    obtain ⟨p, as, rows, m, w, rfl, hT, k⟩ := h
    have hb := hT.b
    refine q_when (b := false) (et_is (et_or (et_not (et_B (ev_isi (t := "list") (b := true) (ev_var rfl) ev_c (fun H1 e => .base (.lst (e _ _ hT.tab.1))) (by decide +kernel)))) (fun _ => et_not (et_test (ev_chain ev_c (ev_is (ev_len (ev_var rfl) (SqL.of hT.tab.1)) (by rw [List.length_map, hT.al])) ev_c rv_le rv_le)))) ?_) (fun z => nomatch z) (fun _ H1 e1 => ?_)
    · rw [decide_eq_true (show (1 : Int) ≤ (m : Int) by omega), decide_eq_true (show (m : Int) ≤ 8 by omega)]
      rfl
    have hT1 := hT.ex e1
    refine q_when (b := false) (et_not (et_B (ev_all (el_yes (a := p) rfl hT1.tab.1 (by rw [List.length_map, hT.al]; omega) (fun x H' hx e => ?_) (fun x => rfl))))) (fun z => nomatch z) (fun _ H2 e2 => ?_)
    · obtain ⟨a, ha, rfl⟩ := List.mem_map.mp hx
      obtain ⟨r, hr, hh⟩ := paired_mem hT1.tab.2 ha
      have := hT1.w_ r hr
      exact ev_fn (ea_cons (ev_var rfl) ea_nil) fun H3 e3 Q3 q3 => ⟨a, r, rfl, (e.trans e3) _ _ hh, by omega, by omega, q3⟩
    have hT2 := hT1.ex e2
    refine s_ret (ev_all (el_yes (a := p) rfl hT2.tab.1 (by rw [List.length_map, hT.al]; omega) (fun x H' hx e => ?_) (fun x => rfl))) fun H3 e3 => k H3 ((e1.trans e2).trans e3)
    obtain ⟨a, ha, rfl⟩ := List.mem_map.mp hx
    obtain ⟨r, hr, hh⟩ := paired_mem hT2.tab.2 ha
    obtain ⟨a0, r0, _, _, hh0, hl0, at0⟩ := hT2.row0
    have := hT2.w_ r hr
    refine ev_is (ev_op (ev_len (ev_var rfl) (SqL.of (e _ _ hh))) (ev_len (ev_op (ev_var rfl) ev_c (rv_ixL (SqL.of (e _ _ hT2.tab.1)) at0)) (SqL.of (e _ _ hh0))) (rv_eq rfl)) ?_
    rw [List.length_map, List.length_map, hl0, this]
    exact congrArg V.bl (decide_eq_true rfl)
-- DEF _law_ends

def sp__law_ends (K : PySem.W.Frag) : Sp := fun vs H Q _ => ∃ (s : Addr) (n m : Int), vs = [.ref s, .int m] ∧ SrcAt H s n ∧ n ≤ 400000000 ∧ 1 ≤ m ∧ m ≤ 8 ∧
  ∀ (as : List Addr) (es : List (Int × Int)) (p : Addr) (H' : Hp), (es.length : Int) = m → (∀ e ∈ es, 0 ≤ e.1 ∧ e.1 ≤ m ∧ 0 ≤ e.2 ∧ e.2 ≤ m) → Conn es m → EdgesAt H' as es → H' p = some (.lst (as.map V.ref)) → H p = none → ExB s H H' → SrcAt H' s (n + 300) → Q (.ref p) H'

theorem ok__law_ends (T : Txt K mg) : FnOk P w K mg base CX0 3 T.f__law_ends T.fd__law_ends ["_law_source", "_law_many"] (sp__law_ends K) := by
  refine Fun.ok T.F__law_ends sc__law_ends (fun vs H Q E h => ?_) (fun cdv A outer s H vs Q E hr h => ?_)
  · obtain ⟨_, _, _, rfl, _⟩ := h; rfl
  · refine ⟨_, (pss_cons (ps_set (i := 2) sc__law_ends.nd rfl (by first | exact Or.inl rfl | exact Or.inr rfl) (pe_call (ok__law_mixed T) hr (by rfl) T.g__law_mixed T.k__law_mixed T.b__law_mixed .nil pass0 (pa_cons (pv 0) (pa_cons (pe_listRg rfl (by rfl) T.n_list (prg_1 (by rfl) T.n_range (pe_op op_add (pv 1) pe_int))) pa_nil))))
      (pss_cons (ps_set (i := 3) sc__law_ends.nd rfl (by first | exact Or.inl rfl | exact Or.inr rfl) (pe_lst pa_nil))
      (pss_cons (ps_for PassesOwn.never rfl (pi_range1 (by rfl) T.n_range (pa_cons (pv 1) pa_nil)) (pg_name (i := 4) sc__law_ends.nd rfl (by first | exact Or.inl rfl | exact Or.inr rfl))
        (pss_cut (ps_set (i := 5) sc__law_ends.nd rfl (by first | exact Or.inl rfl | exact Or.inr rfl) (pe_tup (pa_cons (pe_ix (r := rIxL K) ix_list (pv 2) (pe_call (ok__law_next T) (hr.mono (by decide)) (by rfl) T.g__law_next T.k__law_next T.b__law_next .nil pass0 (pa_cons (pv 0) (pa_cons (pe_op op_add (pv 4) pe_int) pa_nil))) (fun _ _ => rfl)) (pa_cons (pe_ix (r := rIxL K) ix_list (pv 2) (pe_op op_add (pv 4) pe_int) (fun _ _ => rfl)) pa_nil))))
          (pss_one (ps_expr (pe_bm PySem.F.plainAttrs_list PySem.F.slot_list_append PySem.F.type_list_append mt_append (pv 3) (pa_cons (pe_ix (r := rIxL K) ix_list (pe_lst (pa_cons (pv 5) (pa_cons (pe_revT (pv 5)) pa_nil))) (pe_call (ok__law_next T) (hr.mono (by decide)) (by rfl) T.g__law_next T.k__law_next T.b__law_next .nil pass0 (pa_cons (pv 0) (pa_cons pe_int pa_nil))) (fun _ _ => rfl)) pa_nil))))))
      (pss_one (ps_ret (pe_call (ok__law_mixed T) hr (by rfl) T.g__law_mixed T.k__law_mixed T.b__law_mixed .nil pass0 (pa_cons (pv 0) (pa_cons (pv 3) pa_nil)))))))), ?_⟩
    obtain ⟨s, n, m, rfl, hs, hn, hm1, hm8, k⟩ := h
    refine ⟨_, rfl, _, rfl, _, _, rfl, rfl, _, rfl, RgOk.of_le (by omega) (by omega) (by omega) (by omega), fun q nq => ?_⟩
    have x1 := Ex.new (o := .lst (rgV 0 (m + 1))) nq
    refine ⟨s, q, n, _, rfl, hs.ex x1, by omega, hs.ne nq, SqL.of upd_same, ?_, ?_, fun ys p1 H1 hp np1 e1 s1 h1 => ?_⟩
    · rw [rgV_length]
      omega
    · intro v hv
      rw [rgV_nums] at hv
      obtain ⟨i, _, rfl⟩ := List.mem_map.mp hv
      exact datv_int i
    rw [rgV_nums] at hp
    obtain ⟨pl, rfl, hpl⟩ := perm_ints hp
    have np1H : H p1 = none := fresh_back x1 np1
    have e01 : ExB s H H1 := (ExB.of x1).trans e1
    have hpll : pl.length = m.toNat + 1 := by
      rw [hpl.length_eq, numsTo_length]
      omega
    have hplm : ∀ a, a ∈ pl ↔ 0 ≤ a ∧ a ≤ m := fun a => by
      rw [hpl.mem_iff, mem_numsTo]
      omega
    have np1s : p1 ≠ s := (hs.ex x1).ne np1
    clear hp x1 e1 np1 nq
    -- found
    refine ⟨Nat.zero_le _, fun p2 np2 => ?_⟩
    have x2 : Ex H1 (upd H1 p2 (.lst [])) := Ex.new np2
    have np2s : p2 ≠ s := s1.ne np2
    have np12 : p1 ≠ p2 := ne_of_none h1 np2
    have np2H : H p2 = none := fresh_B e01 np2 s1.obj
    refine ⟨_, rfl, _, rfl, by omega, by omega, for_range (lo := 0) (n := m.toNat) (fun i σ H' => ∃ (y4 y5 : Option V) (as : List Addr) (es : List (Int × Int)), σ = [some (.ref s), some (.int m), some (.ref p1), some (.ref p2), y4, y5] ∧ es.length = i ∧ EdgesAt H' as es ∧ H' p2 = some (.lst (as.map V.ref)) ∧
      ExB s H H' ∧ SrcAt H' s (n + 100 + 2 * i) ∧ H' p1 = some (.lst (pl.map V.int)) ∧ EdgeTree pl es ∧ (∀ e ∈ es, 0 ≤ e.1 ∧ e.1 ≤ m ∧ 0 ≤ e.2 ∧ e.2 ≤ m)) ?_ ?_ ?_⟩
    · exact ⟨_, _, [], [], rfl, rfl, .nil, upd_same, e01.trans (ExB.of x2), (s1.ex x2).le (by omega), x2 _ _ h1, fun j hj => absurd hj (Nat.not_lt_zero _), fun e he => by simp at he⟩
    · rintro i σ H2 hi ⟨y4, y5, as, es, rfl, hes, hE, h2, e2, s2, g1, hT, hb⟩
      have hsz := hes
      have sat : ∀ {j : Nat}, j < pl.length → ∃ z, (pl.map V.int)[j]? = some (.int z) ∧ pl[j]? = some z := fun {j} hj => ⟨pl[j], by rw [List.getElem?_map, List.getElem?_eq_getElem hj]; rfl, List.getElem?_eq_getElem hj⟩
      -- two
      refine ⟨fun σ' H' => ∃ (t : Addr) (f : Nat) (a b : Int), σ' = [some (.ref s), some (.int m), some (.ref p1), some (.ref p2), some (.int (0 + (i : Int))), some (.ref t)] ∧ H' t = some (.tup [.int a, .int b]) ∧ f ≤ i ∧ pl[f]? = some a ∧ pl[i + 1]? = some b ∧ ExB s H2 H' ∧ SrcAt H' s (n + 100 + 2 * i + 1), ?_, ?_⟩
      · refine ⟨_, rfl, _, rfl, _, rfl, _, _, rfl, rfl, s, _, _, rfl, s2, by omega, by omega, ?_, fun f H3 f0 f1 e3 s3 => ?_⟩
        · unfold Bd
          exact Nat.lt_of_lt_of_le (show (0 + (i : Int) + 1).natAbs < 1024 by omega) (by decide +kernel)
        · obtain ⟨a, ha, ha'⟩ := sat (j := f.toNat) (by omega)
          obtain ⟨b, hb, hb'⟩ := sat (j := i + 1) (by omega)
          refine ⟨p1, _, _, _, rfl, rfl, SqL.of (e3 _ _ np1s g1), at_of (j := f.toNat) (by omega) ha, ?_⟩
          refine ⟨_, rfl, _, rfl, _, _, rfl, rfl, p1, _, _, _, rfl, rfl, SqL.of (e3 _ _ np1s g1), at_of (j := i + 1) (by omega) hb, (by show 2 ≤ sizeLine; decide), fun t nt => ?_⟩
          exact ⟨t, f.toNat, a, b, rfl, upd_same, by omega, ha', hb', e3.trans (ExB.of (Ex.new nt)), s3.ex (Ex.new nt)⟩
      · rintro σ' H3 ⟨t, f, a, b, rfl, ht, hf, ha, hb', e3, s3⟩
        have h2' := e3 _ _ np2s h2
        refine ⟨_, rfl, .inl ⟨rfl, _, SqL.of h2'⟩, _, rfl, _, rfl, t, _, _, rfl, SqT.of ht, fun u nu => ?_⟩
        have xu : Ex H3 (upd H3 u (.tup [.int b, .int a])) := Ex.new nu
        refine ⟨(by show 2 ≤ sizeLine; decide), fun l nl => ?_⟩
        have xl : Ex (upd H3 u (.tup [.int b, .int a])) (upd (upd H3 u (.tup [.int b, .int a])) l (.lst [.ref t, .ref u])) := Ex.new nl
        have xx := xu.trans xl
        refine ⟨_, rfl, s, 2, _, rfl, s3.ex xx, by omega, by decide, (by unfold Bd; decide +kernel), fun g H4 g0 gl e4 s4 => ?_⟩
        have nls : l ≠ s := (s3.ex xu).ne nl
        have hl4 := e4 _ _ nls (upd_same (H := upd H3 u (.tup [.int b, .int a])) (a := l) (o := .lst [.ref t, .ref u]))
        have st : ∀ c xs, H2 c = some (.tup xs) → H4 c = some (.tup xs) := fun c xs h => tups_B (s3.ex xx) e4 _ _ (tups_E xx _ _ (tups_B s2 e3 _ _ h))
        have st3 : ∀ c xs, H3 c = some (.tup xs) → H4 c = some (.tup xs) := fun c xs h => tups_B (s3.ex xx) e4 _ _ (tups_E xx _ _ h)
        have stu : H4 u = some (.tup [.int b, .int a]) := tups_B (s3.ex xx) e4 _ _ (xl _ _ upd_same)
        have p2' := e4 _ _ np2s (xx _ _ h2')
        have al : as.length = i := by rw [Paired.length hE, hes]
        have fin : ∀ (v : Addr) (e : Int × Int), H4 v = some (.tup [.int e.1, .int e.2]) → (e = (a, b) ∨ e = (b, a)) → rAppend (.ref p2) [.ref v] H4 fun _ H' => ∃ (y4 y5 : Option V) (as : List Addr) (es : List (Int × Int)), [some (V.ref s), some (.int m), some (.ref p1), some (.ref p2), some (.int (0 + (i : Int))), some (.ref t)] = [some (.ref s), some (.int m), some (.ref p1), some (.ref p2), y4, y5] ∧ es.length = i + 1 ∧ EdgesAt H' as es ∧ H' p2 = some (.lst (as.map V.ref)) ∧
            ExB s H H' ∧ SrcAt H' s (n + 100 + 2 * ((i + 1 : Nat) : Int)) ∧ H' p1 = some (.lst (pl.map V.int)) ∧ EdgeTree pl es ∧ (∀ e ∈ es, 0 ≤ e.1 ∧ e.1 ≤ m ∧ 0 ≤ e.2 ∧ e.2 ≤ m) := by
          intro v e hv he
          refine ⟨p2, _, _, rfl, rfl, p2', small1000 (by rw [List.length_map]; omega), _, _, as ++ [v], es ++ [e], rfl, ?_, ?_, ?_, ?_, ?_, ?_, ?_, ?_⟩
          · rw [List.length_append, hes]
            rfl
          · exact paired_imp (fun c d h => tups_U p2' _ _ h) (paired_snoc (EdgesAt.mono st hE) hv)
          · rw [upd_same, List.map_append]
            rfl
          · refine fun c o nc h => ?_
            rw [upd_ne (ne_of_none h np2H)]
            exact e4 _ _ nc (xx _ _ (e3 _ _ nc (e2 _ _ nc h)))
          · obtain ⟨a1, a2, a3, a4, a5, a6, a7, a8⟩ := s4
            exact ⟨a1, a2, a3, by rw [upd_ne np2s.symm]; exact a4, a5, a6, a7, by omega⟩
          · rw [upd_ne np12]
            exact e4 _ _ np1s (xx _ _ (e3 _ _ np1s g1))
          · exact hT.more (by omega) ha (by rw [hes]; exact hb') he
          · intro e' he'
            rcases List.mem_append.mp he' with h | h
            · exact hb e' h
            · have e1 : e' = e := by simpa using h
              subst e1
              have ma := (hplm a).mp (List.mem_of_getElem? ha)
              have mb := (hplm b).mp (List.mem_of_getElem? hb')
              rcases he with rfl | rfl
              · exact ⟨ma.1, ma.2, mb.1, mb.2⟩
              · exact ⟨mb.1, mb.2, ma.1, ma.2⟩
        have hg : g = 0 ∨ g = 1 := by omega
        rcases hg with rfl | rfl
        · exact ⟨l, _, _, .ref t, rfl, rfl, SqL.of hl4, rfl, fin t (a, b) (st3 _ _ ht) (.inl rfl)⟩
        · exact ⟨l, _, _, .ref u, rfl, rfl, SqL.of hl4, rfl, fin u (b, a) stu (.inr rfl)⟩
    · rintro σ H2 ⟨y4, y5, as, es, rfl, hes, hE, h2, e2, s2, g1, hT, hb⟩
      have al : as.length = m.toNat := by rw [Paired.length hE, hes]
      refine ⟨_, rfl, _, rfl, s, p2, _, _, rfl, s2, by omega, np2s, SqL.of h2, (by rw [List.length_map]; omega), fun v hv => ?_, fun ys p H3 hp np e3 s3 h3 => ?_⟩
      · obtain ⟨c, hc, rfl⟩ := List.mem_map.mp hv
        obtain ⟨d, _, hd⟩ := paired_mem hE hc
        exact datv_pair hd (s2.neT hd)
      · obtain ⟨as', es', rfl, pe, hE', _⟩ := perm_refs hp hE
        refine k as' es' p H3 ?_ (fun e he => hb e (pe.mem_iff.mp he)) ?_ (EdgesAt.mono (tups_B s2 e3) hE') h3 (fresh_B e2 np s2.obj) (e2.trans e3) (s3.le (by omega))
        · rw [pe.length_eq, hes]
          omega
        · have c := EdgeTree.conn (m := m.toNat) hT hes hpll fun a h0 h1 => (hplm a).mpr ⟨h0, by omega⟩
          have c2 := c.perm pe
          have em : ((m.toNat : Nat) : Int) = m := by omega
          rw [em] at c2
          exact c2
-- DEF _law_stretches

def sp__law_stretches (K : PySem.W.Frag) : Sp := fun vs H Q _ => ∃ (s : Addr) (n : Int) (m w : Nat), vs = [.ref s, .int m, .int w] ∧ SrcAt H s n ∧ n ≤ 300000000 ∧ 1 ≤ m ∧ m ≤ 8 ∧ 1 ≤ w ∧ w ≤ 8 ∧
  ∀ (rs : List Addr) (rows : List (List Int)) (p : Addr) (H' : Hp), NewTab H H' p rs rows w 100 → rows.length = m → ExB s H H' → SrcAt H' s (n + 400) → Q (.ref p) H'

theorem ok__law_stretches (T : Txt K mg) : FnOk P w K mg base CX0 3 T.f__law_stretches T.fd__law_stretches ["_law_source", "_law_many", "_law_wide"] (sp__law_stretches K) := by
  refine Fun.ok T.F__law_stretches sc__law_stretches (fun vs H Q E h => ?_) (fun cdv A outer s H vs Q E hr h => ?_)
  · obtain ⟨_, _, _, _, rfl, _⟩ := h; rfl
  · refine ⟨_, (pss_cons (ps_set (i := 3) sc__law_stretches.nd rfl (by first | exact Or.inl rfl | exact Or.inr rfl) (pe_call (ok__law_mixed T) hr (by rfl) T.g__law_mixed T.k__law_mixed T.b__law_mixed .nil pass0 (pa_cons (pv 0) (pa_cons (pe_listRg rfl (by rfl) T.n_list (prg_1 (by rfl) T.n_range (pv 2))) pa_nil))))
      (pss_cons (ps_set (i := 4) sc__law_stretches.nd rfl (by first | exact Or.inl rfl | exact Or.inr rfl) (pe_lst pa_nil))
      (pss_cons (ps_for PassesOwn.never rfl (pi_range1 (by rfl) T.n_range (pa_cons (pv 1) pa_nil)) (pg_name (i := 5) sc__law_stretches.nd rfl (by first | exact Or.inl rfl | exact Or.inr rfl))
        (pss_cut (ps_set (i := 6) sc__law_stretches.nd rfl (by first | exact Or.inl rfl | exact Or.inr rfl) (pe_call (ok__law_next T) (hr.mono (by decide)) (by rfl) T.g__law_next T.k__law_next T.b__law_next .nil pass0 (pa_cons (pv 0) (pa_cons (pv 2) pa_nil))))
          (pss_cut (ps_set (i := 7) sc__law_stretches.nd rfl (by first | exact Or.inl rfl | exact Or.inr rfl) (pe_call (ok__law_next T) (hr.mono (by decide)) (by rfl) T.g__law_next T.k__law_next T.b__law_next .nil pass0 (pa_cons (pv 0) (pa_cons (pe_op op_add (pe_op op_sub (pv 2) (pv 6)) pe_int) pa_nil))))
          (pss_one (ps_expr (pe_bm PySem.F.plainAttrs_list PySem.F.slot_list_append PySem.F.type_list_append mt_append (pv 4) (pa_cons (pe_lc (own := [("_law_column", 8)]) (g := gName 8) (tt := tYes) rfl sc__law_stretches.nd (pi_range1 (by rfl) T.n_range (pa_cons (pv 2) pa_nil)) (blkOk_by (N := ["_law_source", "_law_many", "_law_wide", "_law_order", "_law_found", "_law_k", "_law_start", "_law_length", "_law_column"]) (sc := (defScope s__law_stretches)) (by decide +kernel)) (fun _ _ _ _ _ => pg_name (i := 8) sc__law_stretches.nd rfl (Or.inl rfl)) (fun _ _ _ _ _ => pts_nil) (fun _ _ _ _ _ => (pe_callTy (T := "int") call_int1 (by rfl) T.n_int (by decide +kernel) (pa_cons (pe_chain op_le op_lt (pv 6) (pe_ix (r := rIxL K) ix_list (pv 3) (pv 8) (fun _ _ => rfl)) (pe_op op_add (pv 6) (pv 7))) pa_nil)))) pa_nil)))))))
      (pss_one (ps_ret (pv 4)))))), ?_⟩
    obtain ⟨s, n, m, w, rfl, hs, hn, hm1, hm8, hw1, hw8, k⟩ := h
    -- order
    refine ⟨_, rfl, _, rfl, _, rfl, RgOk.of_le (by omega) (by omega) (by omega) (by omega), fun q nq => ?_⟩
    have x1 := Ex.new (o := .lst (rgV 0 (w : Int))) nq
    refine ⟨s, q, n, _, rfl, hs.ex x1, by omega, hs.ne nq, SqL.of upd_same, ?_, ?_, fun ys p1 H1 hp np1 e1 s1 h1 => ?_⟩
    · rw [rgV_length]
      omega
    · intro v hv
      rw [rgV_nums] at hv
      obtain ⟨i, _, rfl⟩ := List.mem_map.mp hv
      exact datv_int i
    rw [rgV_nums] at hp
    obtain ⟨pl, rfl, hpl⟩ := perm_ints hp
    have hpll : pl.length = w := by
      rw [hpl.length_eq, numsTo_length]
      omega
    have e01 : ExB s H H1 := (ExB.of x1).trans e1
    have np1s : p1 ≠ s := (hs.ex x1).ne np1
    -- found
    refine ⟨Nat.zero_le _, fun p2 np2 => ?_⟩
    have x2 : Ex H1 (upd H1 p2 (.lst [])) := Ex.new np2
    have np2s : p2 ≠ s := s1.ne np2
    have np12 : p1 ≠ p2 := ne_of_none h1 np2
    have np2H : H p2 = none := fresh_B e01 np2 s1.obj
    refine ⟨_, rfl, _, rfl, by omega, by omega, for_range (lo := 0) (n := (m : Int).toNat) (fun i σ H' => ∃ (y5 y6 y7 y8 : Option V) (as : List Addr) (rows : List (List Int)), σ = [some (.ref s), some (.int m), some (.int w), some (.ref p1), some (.ref p2), y5, y6, y7, y8] ∧ rows.length = i ∧ NewTab H H' p2 as rows w 100 ∧
      ExB s H H' ∧ SrcAt H' s (n + 100 + 2 * i) ∧ H' p1 = some (.lst (pl.map V.int))) ?_ ?_ ?_⟩
    · exact ⟨_, _, _, _, [], [], rfl, rfl, NewTab.new np2H upd_same, e01.trans (ExB.of x2), (s1.ex x2).le (by omega), x2 _ _ h1⟩
    · rintro i σ H2 hi ⟨y5, y6, y7, y8, as, rows, rfl, hl, hN, e2, s2, g1⟩
      refine ⟨fun σ' H' => ∃ f : Int, σ' = [some (.ref s), some (.int m), some (.int w), some (.ref p1), some (.ref p2), some (.int (0 + (i : Int))), some (.int f), y7, y8] ∧ 0 ≤ f ∧ f < w ∧ ExB s H2 H' ∧ SrcAt H' s (n + 100 + 2 * i + 1), ?_, ?_⟩
      · refine ⟨_, rfl, _, rfl, s, _, _, rfl, s2, by omega, by omega, ?_, fun f H3 f0 f1 e3 s3 => ⟨f, rfl, f0, f1, e3, s3⟩⟩
        unfold Bd
        exact Nat.lt_of_lt_of_le (show ((w : Int)).natAbs < 1024 by omega) (by decide +kernel)
      rintro σ' H3 ⟨f, rfl, f0, f1, e3, s3⟩
      refine ⟨fun σ' H' => ∃ g : Int, σ' = [some (.ref s), some (.int m), some (.int w), some (.ref p1), some (.ref p2), some (.int (0 + (i : Int))), some (.int f), some (.int g), y8] ∧ ExB s H2 H' ∧ SrcAt H' s (n + 100 + 2 * i + 1 + 1), ?_, ?_⟩
      · refine ⟨_, rfl, _, rfl, _, rfl, _, _, rfl, rfl, _, _, rfl, rfl, s, _, _, rfl, s3, by omega, by omega, ?_, fun g H4 g0 gl e4 s4 => ⟨g, rfl, e3.trans e4, s4⟩⟩
        unfold Bd
        exact Nat.lt_of_lt_of_le (show ((w : Int) - f + 1).natAbs < 1024 by omega) (by decide +kernel)
      rintro σ' H4 ⟨g, rfl, e4, s4⟩
      have N4 := hN.exB e4 hs.obj
      have al : as.length = i := by rw [Paired.length N4.tab.2, hl]
      have hp1 := e4 _ _ np1s g1
      refine ⟨_, rfl, .inl ⟨rfl, _, SqL.of N4.tab.1⟩, ?_⟩
      refine el_rng (m := w) (fun o => if (decide (f ≤ pl[o]?.getD 0) && decide (pl[o]?.getD 0 < f + g)) = true then 1 else 0) (ea_cons (ev_var rfl) ea_nil) (by omega) (fun x => rfl) (fun o H5 x5 ho => ev_int1 (ev_chain (ev_var rfl) (ev_op (ev_var rfl) (ev_var rfl) (rv_ixL (SqL.of (x5 _ _ hp1)) (atI_row (by omega)))) (ev_op (ev_var rfl) (ev_var rfl) rv_I0) rv_I0 rv_I0)) H4 (Ex.refl _) _ fun r H5 nr e5 hr => ?_
      refine ⟨p2, _, _, rfl, rfl, e5 _ _ N4.tab.1, small1000 (by rw [List.length_map]; omega), ?_⟩
      refine ⟨_, _, _, _, as ++ [r], rows ++ [_], rfl, by rw [List.length_append, hl]; rfl, N4.app (noneB (e2.trans e4) s4.obj) e5 nr hr (by rw [List.length_map, List.length_range]) (fun y hy => ?_), ?_, ?_, ?_⟩
      · obtain ⟨o, _, rfl⟩ := List.mem_map.mp hy
        split <;> decide
      · refine fun b o nb h => ?_
        rw [upd_ne (ne_of_none h np2H)]
        exact e5 _ _ (e4 _ _ nb (e2 _ _ nb h))
      · obtain ⟨a1, a2, a3, a4, a5, a6, a7, a8⟩ := s4.ex e5
        exact ⟨a1, a2, a3, by rw [upd_ne np2s.symm]; exact a4, a5, a6, a7, by omega⟩
      · rw [upd_ne np12]
        exact e5 _ _ hp1
    · rintro σ H2 ⟨y5, y6, y7, y8, as, rows, rfl, hl, hN, e2, s2, g1⟩
      refine ⟨_, rfl, ?_⟩
      exact k as rows p2 H2 hN (by rw [hl]; omega) e2 (s2.le (by omega))
-- DEF _law_swung

def sp__law_swung (K : PySem.W.Frag) : Sp := fun vs H Q _ => ∃ (s g : Addr) (n : Int) (as : List Addr) (rows : List (List Int)) (m w : Nat), vs = [.ref s, .ref g] ∧ SrcAt H s n ∧ n ≤ 200000000 ∧ g ≠ s ∧ (∀ a ∈ as, a ≠ s) ∧ Tab H g as rows ∧ rows.length = m ∧ (∀ r ∈ rows, r.length = w ∧ ∀ y ∈ r, y.natAbs ≤ 100) ∧ 1 ≤ m ∧ m ≤ 8 ∧ 1 ≤ w ∧ w ≤ 8 ∧
  ∀ (rs : List Addr) (rows' : List (List Int)) (p : Addr) (H' : Hp) (m' w' : Nat), (m' = m ∧ w' = w ∨ m' = w ∧ w' = m) → NewTab H H' p rs rows' w' 100 → rows'.length = m' → ExB s H H' → SrcAt H' s (n + 200) → Q (.ref p) H'

theorem ok__law_swung (T : Txt K mg) : FnOk P w K mg base CX0 3 T.f__law_swung T.fd__law_swung ["_law_source", "_law_table_here"] (sp__law_swung K) := by
  refine Fun.ok T.F__law_swung sc__law_swung (fun vs H Q E h => ?_) (fun cdv A outer s H vs Q E hr h => ?_)
  · obtain ⟨_, _, _, _, _, _, _, rfl, _⟩ := h; rfl
  · refine ⟨_, (pss_cut (ps_set (i := 2) sc__law_swung.nd rfl (by first | exact Or.inl rfl | exact Or.inr rfl) (pe_call (ok__law_mixed T) hr (by rfl) T.g__law_mixed T.k__law_mixed T.b__law_mixed .nil pass0 (pa_cons (pv 0) (pa_cons (pv 1) pa_nil))))
      (pss_cut (ps_if (pt_cmpR op_eq (pe_call (ok__law_next T) (hr.mono (by decide)) (by rfl) T.g__law_next T.k__law_next T.b__law_next .nil pass0 (pa_cons (pv 0) (pa_cons pe_int pa_nil))) pe_int (nomark _))
        (pss_one (ps_set (i := 2) sc__law_swung.nd rfl (by first | exact Or.inl rfl | exact Or.inr rfl) (pe_lc (own := [("_law_k", 7)]) (g := gName 7) (tt := tYes) rfl sc__law_swung.nd (pi_range1 (by rfl) T.n_range (pa_cons (pe_callB (id := "len") (r := rLenS K) call_len_seq (by rfl) T.n_len PySem.boot_len (pa_cons (pe_ix (r := rIxL K) ix_list (pv 2) pe_int (fun _ _ => rfl)) pa_nil)) pa_nil)) (blkOk_by (N := ["_law_source", "_law_table_here", "_law_rows", "_law_signs", "_law_found", "_law_row", "_law_sign", "_law_k", "_law_column", "_law_a", "_law_b"]) (sc := (defScope s__law_swung)) (by decide +kernel)) (fun _ _ _ _ _ => pg_name (i := 7) sc__law_swung.nd rfl (Or.inr rfl)) (fun _ _ _ _ _ => pts_nil) (fun _ _ _ _ _ => (pe_lc (own := [("_law_row", 5)]) (wi := iList K _) (g := gName 5) (tt := tYes) rfl sc__law_swung.nd (pi_list (pv 2)) (blkOk_by (N := ["_law_source", "_law_table_here", "_law_rows", "_law_signs", "_law_found", "_law_row", "_law_sign", "_law_k", "_law_column", "_law_a", "_law_b"]) (sc := (relS ({ kind := .function, names := [(".0", .local), ("_law_k", .cell), ("_law_rows", .free)], isGenerator := false, isCoroutine := false } : Scope) (defScope s__law_swung))) (by decide +kernel)) (fun _ _ _ _ _ => pg_name (i := 5) sc__law_swung.nd rfl (Or.inl rfl)) (fun _ _ _ _ _ => pts_nil) (fun _ _ _ _ _ => (pe_ix (r := rIxL K) ix_list (pv 5) (pv 7) (fun _ _ => rfl))))))))
        pss_nil)
      (pss_cut (ps_setLc (i := 3) (own := [("_law_column", 8)]) (wi := iList K _) (g := gName 8) (tt := tYes) rfl sc__law_swung.nd rfl rfl (sw_true rfl rfl rfl (by decide +kernel)) (pi_list (pe_ix (r := rIxL K) ix_list (pv 2) pe_int (fun _ _ => rfl))) (blkOk_by (N := ["_law_source", "_law_table_here", "_law_rows", "_law_signs", "_law_found", "_law_row", "_law_sign", "_law_k", "_law_column", "_law_a", "_law_b"]) (sc := (defScope s__law_swung)) (by decide +kernel)) (fun _ _ _ _ _ => pg_name (i := 8) sc__law_swung.nd rfl (Or.inl rfl)) (fun _ _ _ _ _ => pts_nil) (fun _ _ _ _ _ => (pe_ix (r := rIxL K) ix_list (pe_lst (pa_cons pe_int (pa_cons (pe_un un_neg pe_int) pa_nil))) (pe_call (ok__law_next T) (hr.mono (by decide)) (by rfl) T.g__law_next T.k__law_next T.b__law_next .nil pass0 (pa_cons (pv 0) (pa_cons pe_int pa_nil))) (fun _ _ => rfl))))
      (pss_cons (ps_set (i := 4) sc__law_swung.nd rfl (by first | exact Or.inl rfl | exact Or.inr rfl) (pe_lst pa_nil))
      (pss_cons (ps_for PassesOwn.never rfl (pi_list (pv 2)) (pg_name (i := 5) sc__law_swung.nd rfl (by first | exact Or.inl rfl | exact Or.inr rfl))
        (pss_cut (ps_set (i := 6) sc__law_swung.nd rfl (by first | exact Or.inl rfl | exact Or.inr rfl) (pe_ix (r := rIxL K) ix_list (pe_lst (pa_cons pe_int (pa_cons pe_int (pa_cons (pe_un un_neg pe_int) pa_nil)))) (pe_call (ok__law_next T) (hr.mono (by decide)) (by rfl) T.g__law_next T.k__law_next T.b__law_next .nil pass0 (pa_cons (pv 0) (pa_cons pe_int pa_nil))) (fun _ _ => rfl)))
          (pss_one (ps_expr (pe_bm PySem.F.plainAttrs_list PySem.F.slot_list_append PySem.F.type_list_append mt_append (pv 4) (pa_cons (pe_lc (own := [("_law_a", 9), ("_law_b", 10)]) (wi := iZip K _) (g := gTup K 2 (gCons (gName 9) (gCons (gName 10) gNil))) (tt := tYes) rfl sc__law_swung.nd (pi_zip (by rfl) T.n_zip (pa_cons (pv 5) (pa_cons (pv 3) pa_nil))) (blkOk_by (N := ["_law_source", "_law_table_here", "_law_rows", "_law_signs", "_law_found", "_law_row", "_law_sign", "_law_k", "_law_column", "_law_a", "_law_b"]) (sc := (defScope s__law_swung)) (by decide +kernel)) (fun _ _ _ _ _ => (pg_tup rfl (pgs_cons (pg_name (i := 9) sc__law_swung.nd rfl (Or.inl rfl)) (pgs_cons (pg_name (i := 10) sc__law_swung.nd rfl (Or.inl rfl)) pgs_nil)))) (fun _ _ _ _ _ => pts_nil) (fun _ _ _ _ _ => (pe_op op_mulW (pe_op op_mulW (pv 6) (pv 9)) (pv 10)))) pa_nil))))))
      (pss_one (ps_ret (pv 4)))))))), ?_⟩
    obtain ⟨s, g, n, as, rows, m, w, rfl, hs, hn, hgs, has, hT, hm, hok, hm1, hm8, hw1, hw8, k⟩ := h
    have hal : as.length = m := by rw [Paired.length hT.2, hm]
    -- row_list
    refine ⟨fun σ' H1 => ∃ (p : Addr) (as1 : List Addr) (rows1 : List (List Int)), σ' = [some (.ref s), some (.ref g), some (.ref p), none, none, none, none, none, none, none, none] ∧ Tab H1 p as1 rows1 ∧ rows1.length = m ∧ (∀ r ∈ rows1, r.length = w ∧ ∀ y ∈ r, y.natAbs ≤ 100) ∧ p ≠ s ∧ (∀ a ∈ as1, a ≠ s) ∧ ExB s H H1 ∧ SrcAt H1 s (n + 100), ?_, ?_⟩
    · refine ⟨_, rfl, _, rfl, s, g, n, _, rfl, hs, by omega, hgs, SqL.of hT.1, (by rw [List.length_map]; omega), fun v hv => ?_, fun ys p H1 hp np e1 s1 h1 => ?_⟩
      · obtain ⟨a, ha, rfl⟩ := List.mem_map.mp hv
        obtain ⟨r, _, hr⟩ := paired_mem hT.2 ha
        exact datv_row hr (has a ha)
      · obtain ⟨as1, rows1, rfl, pr, hR, pa⟩ := perm_refs hp hT.2
        refine ⟨p, as1, rows1, rfl, ⟨h1, rows_but hR fun a ha o q => e1 a o (has a (pa.mem_iff.mp ha)) q⟩, by rw [pr.length_eq, hm], fun r hr => hok r (pr.mem_iff.mp hr), hs.ne np, fun a ha => has a (pa.mem_iff.mp ha), e1, s1⟩
    rintro σ' H1 ⟨p, as1, rows1, rfl, hT1, hm', hok1, nps, nas, e1, s1⟩
    -- perhaps turned
    refine ⟨fun σ' H2 => ∃ (y5 y7 : Option V) (p2 : Addr) (as2 : List Addr) (rows2 : List (List Int)) (m2 w2 : Nat), (m2 = m ∧ w2 = w ∨ m2 = w ∧ w2 = m) ∧ σ' = [some (.ref s), some (.ref g), some (.ref p2), none, none, y5, none, y7, none, none, none] ∧ Tab H2 p2 as2 rows2 ∧ rows2.length = m2 ∧ (∀ r ∈ rows2, r.length = w2 ∧ ∀ y ∈ r, y.natAbs ≤ 100) ∧ p2 ≠ s ∧ (∀ a ∈ as2, a ≠ s) ∧ ExB s H H2 ∧ SrcAt H2 s (n + 101), ?_, ?_⟩
    · refine ⟨_, rfl, s, 2, _, rfl, s1, by omega, by decide, (by unfold Bd; decide +kernel), fun f H2 f0 f1 e2 s2 => ⟨rfl, _, rfl, ?_⟩⟩
      have hT2 : Tab H2 p as1 rows1 := ⟨e2 _ _ nps hT1.1, rows_but hT1.2 fun a ha o q => e2 a o (nas a ha) q⟩
      refine ite2 (fun _ => ?_) (fun _ => ?_)
      · have h0 : ∃ a0 r0, as1[0]? = some a0 ∧ rows1[0]? = some r0 ∧ H2 a0 = some (.lst (r0.map V.int)) ∧ r0.length = w := by
          have hl1 : as1.length = m := by rw [Paired.length hT2.2, hm']
          obtain ⟨a0, ha0⟩ : ∃ a0, as1[0]? = some a0 := ⟨_, List.getElem?_eq_getElem (by omega)⟩
          obtain ⟨r0, hr0, hh⟩ := paired_get hT2.2 ha0
          exact ⟨a0, r0, ha0, hr0, hh, (hok1 r0 (List.mem_of_getElem? hr0)).1⟩
        obtain ⟨a0, r0, ha0, hr0, hh0, hl0⟩ := h0
        have at0 : atI (as1.map V.ref) 0 = some (.ref a0) := atI_nat (j := 0) (by rw [List.getElem?_map, ha0]; rfl)
        refine lc_rows (m := w) (F := fun kk => rows1.map fun r => r[kk]?.getD 0) (ea_cons (ev_is (ev_len (ev_op (ev_var rfl) ev_c (rv_ixL (SqL.of hT2.1) at0)) (SqL.of hh0)) (by rw [List.length_map, hl0])) ea_nil) (by omega) (fun u => rfl) (fun kk H3 x3 hkk => ?_) (fun p2 rs H3 np2 nrs ndr npr x3 ht => ?_)
        · refine el_col (K := K) (f := fun r => r[kk]?.getD 0) rfl (x3 _ _ hT2.1) (hT2.2.ex x3) (by omega) (fun u => rfl) fun b r H4 hr hb x4 => ?_
          have lr := (hok1 r hr).1
          exact ev_op (ev_var rfl) (ev_var rfl) (rv_ixL (SqL.of (x4 _ _ hb)) (atI_row (by omega)))
        · refine ⟨_, _, p2, rs, _, w, m, .inr ⟨rfl, rfl⟩, rfl, ht, by rw [List.length_map, List.length_range], fun r hr => ?_, s2.ne np2, fun a ha => s2.ne (nrs a ha), (e1.trans e2).trans (ExB.of x3), (s2.ex x3).le (by omega)⟩
          obtain ⟨kk, hkk, rfl⟩ := List.mem_map.mp hr
          have hkk := List.mem_range.mp hkk
          refine ⟨by rw [List.length_map, hm'], fun y hy => ?_⟩
          obtain ⟨r, hr, rfl⟩ := List.mem_map.mp hy
          have o := hok1 r hr
          rw [List.getElem?_eq_getElem (by omega)]
          exact o.2 _ (List.getElem_mem _)
      · exact ⟨_, _, p, as1, rows1, m, w, .inl ⟨rfl, rfl⟩, rfl, hT2, hm', hok1, nps, nas, e1.trans e2, s2.le (by omega)⟩
    rintro σ' H2 ⟨y5, y7, p2, as2, rows2, m2, w2, hmw, rfl, hT2, hm2, hok2, np2s, nas2, e2, s2⟩
    clear hT1 hm' hok1 nps nas e1 s1
    have hm2b : 1 ≤ m2 ∧ m2 ≤ 8 ∧ 1 ≤ w2 ∧ w2 ≤ 8 := by
      rcases hmw with ⟨rfl, rfl⟩ | ⟨rfl, rfl⟩ <;> exact ⟨by omega, by omega, by omega, by omega⟩
    -- signs
    refine ⟨fun σ' H3 => ∃ (y8 : Option V) (q : Addr) (sg : List Int), σ' = [some (.ref s), some (.ref g), some (.ref p2), some (.ref q), none, y5, none, y7, y8, none, none] ∧ H3 q = some (.lst (sg.map V.int)) ∧ sg.length = w2 ∧ (∀ x ∈ sg, x = 1 ∨ x = -1) ∧ q ≠ s ∧ H q = none ∧ ExB s H2 H3 ∧ SrcAt H3 s (n + 109), ?_, ?_⟩
    · have h0 : ∃ a0 r0, as2[0]? = some a0 ∧ rows2[0]? = some r0 ∧ H2 a0 = some (.lst (r0.map V.int)) ∧ r0.length = w2 := by
        have hl1 : as2.length = m2 := by rw [Paired.length hT2.2, hm2]
        obtain ⟨a0, ha0⟩ : ∃ a0, as2[0]? = some a0 := ⟨_, List.getElem?_eq_getElem (by omega)⟩
        obtain ⟨r0, hr0, hh⟩ := paired_get hT2.2 ha0
        exact ⟨a0, r0, ha0, hr0, hh, (hok2 r0 (List.mem_of_getElem? hr0)).1⟩
      obtain ⟨a0, r0, ha0, hr0, hh0, hl0⟩ := h0
      have at0 : atI (as2.map V.ref) 0 = some (.ref a0) := atI_nat (j := 0) (by rw [List.getElem?_map, ha0]; rfl)
      refine lc_drawL (K := K) (s := s) (n := n + 101) (xs := r0) (fun x => x = 1 ∨ x = -1) (ev_op (ev_var rfl) ev_c (rv_ixL (SqL.of hT2.1) at0)) hh0 (nas2 a0 (List.mem_of_getElem? ha0)) (by omega) s2 (fun u => rfl) (fun i y H3 e3 hi s3 Q1 kq => ?_) (fun D ns H3 hD e3 s3 hD3 hl3 hP => ?_)
      · refine ⟨_, rfl, (by show 2 ≤ sizeLine; decide), fun l nl => ?_⟩
        have xl : Ex H3 (upd H3 l (.lst [.int 1, .int (-1)])) := Ex.new nl
        have nls : l ≠ s := s3.ne nl
        refine ⟨_, rfl, s, 2, _, rfl, s3.ex xl, by omega, by decide, (by unfold Bd; decide +kernel), fun f H4 f0 f1 e4 s4 => ?_⟩
        have hl4 := e4 _ _ nls (upd_same (H := H3) (a := l) (o := .lst [.int 1, .int (-1)]))
        have hf : f = 0 ∨ f = 1 := by omega
        rcases hf with rfl | rfl
        · exact ⟨l, _, _, .int 1, rfl, rfl, SqL.of hl4, rfl, kq 1 H4 (.inl rfl) ((ExB.of xl).trans e4) s4⟩
        · exact ⟨l, _, _, .int (-1), rfl, rfl, SqL.of hl4, rfl, kq (-1) H4 (.inr rfl) ((ExB.of xl).trans e4) s4⟩
      · exact ⟨_, D, ns, rfl, hD3, by omega, hP, s2.ne hD, fresh_B e2 hD s2.obj, e3, s3.le (by omega)⟩
    rintro σ' H3 ⟨y8, q, sg, rfl, hq, hql, hqs, nqs, nqH, e3, s3⟩
    have hT3 : Tab H3 p2 as2 rows2 := ⟨e3 _ _ np2s hT2.1, rows_but hT2.2 fun a ha o z => e3 a o (nas2 a ha) z⟩
    have e03 := e2.trans e3
    -- found
    refine ⟨Nat.zero_le _, fun p3 np3 => ?_⟩
    have x3 : Ex H3 (upd H3 p3 (.lst [])) := Ex.new np3
    have np3s : p3 ≠ s := s3.ne np3
    have np3H : H p3 = none := fresh_B e03 np3 s3.obj
    have ne3 : ∀ {b : Addr} {o : HO}, H3 b = some o → b ≠ p3 := fun h => ne_of_none h np3
    have qp3 := ne3 hq
    refine ⟨_, rfl, p2, rfl, ⟨_, SqL.of (x3 _ _ hT3.1)⟩, for_list (K := K) (a := p2) (xs := as2.map V.ref) (fun i σ H' => ∃ (y5 y6 y9 y10 : Option V) (as : List Addr) (rws : List (List Int)), σ = [some (.ref s), some (.ref g), some (.ref p2), some (.ref q), some (.ref p3), y5, y6, y7, y8, y9, y10] ∧ rws.length = i ∧ NewTab H H' p3 as rws w2 100 ∧ ExB s H H' ∧ SrcAt H' s (n + 109 + i) ∧
      Tab H' p2 as2 rows2 ∧ H' q = some (.lst (sg.map V.int))) ?_ (fun i σ H' _ ⟨_, _, _, _, _, _, _, _, _, _, _, t, _⟩ => SqL.of t.1) ?_ ?_⟩
    · exact ⟨_, _, _, _, [], [], rfl, rfl, NewTab.new np3H upd_same, e03.trans (ExB.of x3), (s3.ex x3).le (by omega), hT3.ex x3, x3 _ _ hq⟩
    · rintro i x σ H4 hi ⟨z5, z6, z9, z10, as, rws, rfl, hl, hN, e4, s4, hT4, hq4⟩
      rw [List.getElem?_map] at hi
      obtain ⟨ai, hai, rfl⟩ := Option.map_eq_some_iff.mp hi
      obtain ⟨ri, hri, hti⟩ := paired_get hT4.2 hai
      have lri := hok2 ri (List.mem_of_getElem? hri)
      have i8 : i < m2 := by rw [← hm2]; exact (List.getElem?_eq_some_iff.mp hri).1
      have nai := nas2 ai (List.mem_of_getElem? hai)
      refine ⟨fun σ' H' => ∃ f : Int, (f = 1 ∨ f = -1) ∧ σ' = [some (.ref s), some (.ref g), some (.ref p2), some (.ref q), some (.ref p3), some (.ref ai), some (.int f), y7, y8, z9, z10] ∧ ExB s H4 H' ∧ SrcAt H' s (n + 109 + i + 1), ?_, ?_⟩
      · refine ⟨_, rfl, (by show 3 ≤ sizeLine; decide), fun l nl => ?_⟩
        have xl : Ex H4 (upd H4 l (.lst [.int 1, .int 1, .int (-1)])) := Ex.new nl
        have nls : l ≠ s := s4.ne nl
        refine ⟨_, rfl, s, 3, _, rfl, s4.ex xl, by omega, by decide, (by unfold Bd; decide +kernel), fun f H5 f0 f1 e5 s5 => ?_⟩
        have hl5 := e5 _ _ nls (upd_same (H := H4) (a := l) (o := .lst [.int 1, .int 1, .int (-1)]))
        have hf : f = 0 ∨ f = 1 ∨ f = 2 := by omega
        rcases hf with rfl | rfl | rfl
        · exact ⟨l, _, _, .int 1, rfl, rfl, SqL.of hl5, rfl, 1, .inl rfl, rfl, (ExB.of xl).trans e5, s5⟩
        · exact ⟨l, _, _, .int 1, rfl, rfl, SqL.of hl5, rfl, 1, .inl rfl, rfl, (ExB.of xl).trans e5, s5⟩
        · exact ⟨l, _, _, .int (-1), rfl, rfl, SqL.of hl5, rfl, -1, .inr rfl, rfl, (ExB.of xl).trans e5, s5⟩
      rintro σ' H5 ⟨f, hf, rfl, e5, s5⟩
      have N5 := hN.exB e5 hs.obj
      have hT5 : Tab H5 p2 as2 rows2 := ⟨e5 _ _ np2s hT4.1, rows_but hT4.2 fun a ha o z => e5 a o (nas2 a ha) z⟩
      have hq5 := e5 _ _ nqs hq4
      have hti5 := e5 _ _ nai hti
      have al : as.length = i := by rw [Paired.length N5.tab.2, hl]
      have bf : Bd 2 f := by
        rcases hf with rfl | rfl <;> (unfold Bd; decide)
      have small : ∀ {x : Int}, x.natAbs ≤ 100 → Bd 10 x := fun {x} h => Nat.lt_of_le_of_lt h (by decide)
      refine ⟨_, rfl, .inl ⟨rfl, _, SqL.of N5.tab.1⟩, ?_⟩
      refine el_zip (K := K) (f := fun x y => f * x * y) (xs := ri) (ys := sg) (ea_cons (ev_var rfl) (ea_cons (ev_var rfl) ea_nil)) (SqL.of hti5) (SqL.of hq5) (by omega) (by omega) (fun u v => rfl) (fun x y H1 hx hy _ => ev_op (ev_op (ev_var rfl) (ev_var rfl) (rv_I (bf.mulOk (small (lri.2 x hx))))) (ev_var rfl) (rv_I ((bf.mul (small (lri.2 x hx))).mulOk (show Bd 2 y by rcases hqs y hy with rfl | rfl <;> (unfold Bd; decide))))) H5 (Ex.refl _) _ fun r H6 nr e6 hr => ?_
      refine ⟨p3, _, _, rfl, rfl, e6 _ _ N5.tab.1, small1000 (by rw [List.length_map]; omega), ?_⟩
      refine ⟨_, _, _, _, as ++ [r], rws ++ [_], rfl, by rw [List.length_append, hl]; rfl, N5.app (noneB (e4.trans e5) s5.obj) e6 nr hr (by rw [List.length_zipWith]; omega) (fun y hy => ?_), ?_, ?_, ?_, ?_⟩
      · obtain ⟨u, v, hu, hv, rfl⟩ : ∃ u v, u ∈ ri ∧ v ∈ sg ∧ f * u * v = y := by
          obtain ⟨j, hj⟩ := List.getElem?_of_mem hy
          rw [List.getElem?_zipWith] at hj
          cases h3 : ri[j]? with
          | none => rw [h3] at hj; simp at hj
          | some u =>
            cases h4 : sg[j]? with
            | none => rw [h3, h4] at hj; simp at hj
            | some v =>
              rw [h3, h4] at hj
              exact ⟨u, v, List.mem_of_getElem? h3, List.mem_of_getElem? h4, Option.some.inj hj⟩
        have b1 := lri.2 u hu
        rcases hf with rfl | rfl <;> rcases hqs v hv with rfl | rfl <;> omega
      · refine fun b o nb h => ?_
        rw [upd_ne (ne_of_none h np3H)]
        exact e6 _ _ (e5 _ _ nb (e4 _ _ nb h))
      · obtain ⟨a1, a2, a3, a4, a5, a6, a7, a8⟩ := s5.ex e6
        exact ⟨a1, a2, a3, by rw [upd_ne np3s.symm]; exact a4, a5, a6, a7, by omega⟩
      · refine ⟨?_, rows_but hT5.2 fun a ha o z => ?_⟩
        · rw [upd_ne (ne3 hT3.1)]
          exact e6 _ _ hT5.1
        · obtain ⟨_, _, h3⟩ := paired_mem hT3.2 ha
          rw [upd_ne (ne3 h3)]
          exact e6 _ _ z
      · rw [upd_ne qp3]
        exact e6 _ _ hq5
    · rintro σ H4 ⟨z5, z6, z9, z10, as, rws, rfl, hl, hN, e4, s4, _, _⟩
      refine ⟨_, rfl, ?_⟩
      rw [List.length_map] at hl s4
      have := Paired.length hT3.2
      exact k as rws p3 H4 m2 w2 hmw hN (by omega) e4 (s4.le (by omega))
-- DEF check_table

def sp_check_table (K : PySem.W.Frag) : Sp := fun vs H Q _ => ∃ (p : Addr) (as : List Addr) (rows : List (List Int)) (m w : Nat), vs = [.ref p] ∧ TabOk H p as rows m w ∧ ∀ H', Ex H H' → Q .non H'

theorem ok_check_table (T : Txt K mg) : FnOk P w K mg base CX0 4 T.f_check_table T.fd_check_table ["thing"] (sp_check_table K) := by
  refine Fun.ok T.F_check_table sc_check_table (fun vs H Q E h => ?_) (fun cdv A outer s H vs Q E hr h => ?_)
  · obtain ⟨_, _, _, _, _, rfl, _⟩ := h; rfl
  · refine ⟨_, (pss_one (ps_if (pt_not (pt_val (pe_call (ok_is_table T) hr (by rfl) T.g_is_table T.k_is_table T.b_is_table .nil pass0 (pa_cons (pv 0) pa_nil))))
        (pss_one ps_never)
        pss_nil)), ?_⟩
    obtain ⟨p, as, rows, m, w, rfl, hT, k⟩ := h
    exact ⟨_, rfl, p, as, rows, m, w, rfl, hT, fun H' e => ⟨true, rfl, iteF (k H' e)⟩⟩
-- DEF _law_net_drawn

def sp__law_net_drawn (K : PySem.W.Frag) : Sp := fun vs H Q _ => ∃ (s : Addr) (n : Int) (m w : Nat), vs = [.ref s, .int m, .int w] ∧ SrcAt H s n ∧ n ≤ 300000000 ∧ 1 ≤ m ∧ m ≤ 8 ∧ 1 ≤ w ∧ w ≤ 8 ∧
  ∀ (rs : List Addr) (rows : List (List Int)) (p : Addr) (H' : Hp), NewTab H H' p rs rows w 100 → rows.length = m → ExB s H H' → SrcAt H' s (n + 400) → Q (.ref p) H'

theorem ok__law_net_drawn (T : Txt K mg) : FnOk P w K mg base CX0 4 T.f__law_net_drawn T.fd__law_net_drawn ["_law_source", "_law_many", "_law_wide"] (sp__law_net_drawn K) := by
  refine Fun.ok T.F__law_net_drawn sc__law_net_drawn (fun vs H Q E h => ?_) (fun cdv A outer s H vs Q E hr h => ?_)
  · obtain ⟨_, _, _, _, rfl, _⟩ := h; rfl
  · refine ⟨_, (pss_cons (ps_setLc (i := 3) (own := [("_law_k", 4)]) (g := gName 4) (tt := tYes) rfl sc__law_net_drawn.nd rfl rfl (sw_true rfl rfl rfl (by decide +kernel)) (pi_range1 (by rfl) T.n_range (pa_cons (pv 2) pa_nil)) (blkOk_by (N := ["_law_source", "_law_many", "_law_wide", "_law_arcs", "_law_k"]) (sc := (defScope s__law_net_drawn)) (by decide +kernel)) (fun _ _ _ _ _ => pg_name (i := 4) sc__law_net_drawn.nd rfl (Or.inl rfl)) (fun _ _ _ _ _ => pts_nil) (fun _ _ _ _ _ => (pe_tup (pa_cons (pe_call (ok__law_next T) (hr.mono (by decide)) (by rfl) T.g__law_next T.k__law_next T.b__law_next .nil pass0 (pa_cons (pv 0) (pa_cons (pe_op op_add (pv 1) pe_int) pa_nil))) (pa_cons (pe_call (ok__law_next T) (hr.mono (by decide)) (by rfl) T.g__law_next T.k__law_next T.b__law_next .nil pass0 (pa_cons (pv 0) (pa_cons (pe_op op_add (pv 1) pe_int) pa_nil))) pa_nil)))))
      (pss_one (ps_ret (pe_call (ok__law_net T) (hr.mono (by decide)) (by rfl) T.g__law_net T.k__law_net T.b__law_net .nil pass0 (pa_cons (pe_call (ok__law_ends T) hr (by rfl) T.g__law_ends T.k__law_ends T.b__law_ends .nil pass0 (pa_cons (pv 0) (pa_cons (pv 1) pa_nil))) (pa_cons (pv 3) pa_nil)))))), ?_⟩
    obtain ⟨s, n, m, w, rfl, hs, hn, hm1, hm8, hw1, hw8, k⟩ := h
    refine ⟨_, rfl, _, rfl, by omega, by omega, fun D hD => ?_⟩
    have hDs : D ≠ s := hs.ne hD
    refine lc_range (lo := 0) (n := (w : Int).toNat) (fun i H' => ∃ (bs : List Addr) (qs : List (Int × Int)), H' D = some (.lst (bs.map V.ref)) ∧ EdgesAt H' bs qs ∧ qs.length = i ∧ ExB s H H' ∧ SrcAt H' s (n + 2 * i) ∧ ∀ e ∈ qs, 0 ≤ e.1 ∧ e.1 ≤ (m : Int) ∧ 0 ≤ e.2 ∧ e.2 ≤ (m : Int))
      ⟨[], [], upd_same, .nil, rfl, ExB.of (Ex.new hD), (hs.ex (Ex.new hD)).le (by omega), fun e he => by simp at he⟩ (fun i H1 hi p => ?_) (fun H1 p => ?_)
    · obtain ⟨bs, qs, h1, h2, h3, h4, h5, h6⟩ := p
      have bm : Bd 8000 ((m : Int) + 1) := by
        unfold Bd
        exact Nat.lt_of_lt_of_le (show ((m : Int) + 1).natAbs < 1024 by omega) (by decide +kernel)
      refine ⟨rfl, ?_⟩
      refine ⟨_, rfl, _, rfl, _, _, rfl, rfl, s, _, _, rfl, h5, by omega, by omega, bm, fun f H2 f0 f1 e2 s2 => ?_⟩
      refine ⟨_, rfl, _, rfl, _, _, rfl, rfl, s, _, _, rfl, s2, by omega, by omega, bm, fun g H3 g0 gl e3 s3 => ?_⟩
      refine ⟨(by show 2 ≤ sizeLine; decide), fun t nt => ?_⟩
      have xt : Ex H3 (upd H3 t (.tup [.int f, .int g])) := Ex.new nt
      have e13 := e2.trans e3
      have hD3 := e13 _ _ hDs h1
      have el : bs.length = i := by rw [Paired.length h2, h3]
      refine ⟨_, xt _ _ hD3, small1000 (by rw [List.length_map]; omega), bs ++ [t], qs ++ [(f, g)], ?_, ?_, ?_, ?_, ?_, ?_⟩
      · rw [upd_same, List.map_append]
        rfl
      · exact paired_imp (fun c d h => tups_U (xt _ _ hD3) _ _ h) (paired_snoc (EdgesAt.mono (fun c xs h => xt _ _ (tups_B h5 e13 _ _ h)) h2) (upd_same : upd H3 t (.tup [.int f, .int g]) t = some (.tup [.int f, .int g])))
      · rw [List.length_append, h3]
        rfl
      · refine fun b o nb h => ?_
        rw [upd_ne (ne_of_none h hD)]
        exact xt _ _ (e13 _ _ nb (h4 _ _ nb h))
      · obtain ⟨a1, a2, a3, a4, a5, a6, a7, a8⟩ := s3.ex xt
        exact ⟨a1, a2, a3, by rw [upd_ne hDs.symm]; exact a4, a5, a6, a7, by omega⟩
      · intro e he
        rcases List.mem_append.mp he with q | q
        · exact h6 e q
        · have : e = (f, g) := by simpa using q
          rw [this]
          exact ⟨f0, by omega, g0, by omega⟩
    · obtain ⟨bs, qs, h1, h2, h3, h4, h5, h6⟩ := p
      have h3' : qs.length = w := by rw [h3]; omega
      refine ⟨_, rfl, _, rfl, s, _, _, rfl, h5, by omega, by omega, by omega, fun as es p H2 l2 b2 c2 d2 e2 f2 g2' s2 => ?_⟩
      refine ⟨_, rfl, p, D, as, bs, es, qs, m, rfl, by omega, hm1, hm8, e2, d2, g2' _ _ hDs h1, EdgesAt.mono (tups_B h5 g2') h2, by omega, b2, h6, c2, fun rs rows p' H3 x1 x2 x3 x4 x5 x6 x7 x8 => ?_⟩
      have nt : NewTab H2 H3 p' rs rows w 100 := ⟨x1, x2, x3, x4, x6, fun r hr => by rw [← h3']; exact x8 r hr⟩
      exact k rs rows p' H3 (nt.back (h4.trans g2') s2.obj) x7 ((h4.trans g2').trans (ExB.of x5)) ((s2.ex x5).le (by omega))
-- DEF _law_table

def sp__law_table (K : PySem.W.Frag) : Sp := fun vs H Q _ => ∃ (s : Addr) (n : Int) (most : Nat), vs = [.ref s, .int most] ∧ SrcAt H s n ∧ n ≤ 100000000 ∧ 1 ≤ most ∧ most ≤ 8 ∧
  ∀ (rs : List Addr) (rows : List (List Int)) (p : Addr) (H' : Hp) (m w : Nat), 1 ≤ m → m ≤ most → 1 ≤ w → w ≤ most → NewTab H H' p rs rows w (10 ^ 30) → rows.length = m → ExB s H H' → SrcAt H' s (n + 1000) → Q (.ref p) H'

theorem ok__law_table (T : Txt K mg) : FnOk P w K mg base CX0 5 T.f__law_table T.fd__law_table ["_law_source", "_law_most"] (sp__law_table K) := by
  refine Fun.ok T.F__law_table sc__law_table (fun vs H Q E h => ?_) (fun cdv A outer s H vs Q E hr h => ?_)
  · obtain ⟨_, _, _, rfl, _⟩ := h; rfl
  · refine ⟨_, (pss_cut (ps_set (i := 2) sc__law_table.nd rfl (by first | exact Or.inl rfl | exact Or.inr rfl) (pe_op op_add pe_int (pe_call (ok__law_next T) (hr.mono (by decide)) (by rfl) T.g__law_next T.k__law_next T.b__law_next .nil pass0 (pa_cons (pv 0) (pa_cons (pv 1) pa_nil)))))
      (pss_cut (ps_set (i := 3) sc__law_table.nd rfl (by first | exact Or.inl rfl | exact Or.inr rfl) (pe_op op_add pe_int (pe_call (ok__law_next T) (hr.mono (by decide)) (by rfl) T.g__law_next T.k__law_next T.b__law_next .nil pass0 (pa_cons (pv 0) (pa_cons (pv 1) pa_nil)))))
      (pss_cut (ps_set (i := 4) sc__law_table.nd rfl (by first | exact Or.inl rfl | exact Or.inr rfl) (pe_call (ok__law_next T) (hr.mono (by decide)) (by rfl) T.g__law_next T.k__law_next T.b__law_next .nil pass0 (pa_cons (pv 0) (pa_cons pe_int pa_nil))))
      (pss_cut (ps_if (pt_cmpR op_lt (pv 4) pe_int (nomark _))
        (pss_one (ps_setLc (i := 5) (own := [("_law_row", 7)]) (g := gName 7) (tt := tYes) rfl sc__law_table.nd rfl rfl (sw_true rfl rfl rfl (by decide +kernel)) (pi_range1 (by rfl) T.n_range (pa_cons (pv 2) pa_nil)) (blkOk_by (N := ["_law_source", "_law_most", "_law_many", "_law_wide", "_law_kind", "_law_table_here", "_law_k", "_law_row"]) (sc := (defScope s__law_table)) (by decide +kernel)) (fun _ _ _ _ _ => pg_name (i := 7) sc__law_table.nd rfl (Or.inl rfl)) (fun _ _ _ _ _ => pts_nil) (fun _ _ _ _ _ => (pe_lc (own := [("_law_k", 6)]) (g := gName 6) (tt := tYes) rfl sc__law_table.nd (pi_range1 (by rfl) T.n_range (pa_cons (pv 3) pa_nil)) (blkOk_by (N := ["_law_source", "_law_most", "_law_many", "_law_wide", "_law_kind", "_law_table_here", "_law_k", "_law_row"]) (sc := (relS ({ kind := .function, names := [(".0", .local), ("_law_row", .local), ("range", .globalImplicit), ("_law_source", .free), ("_law_wide", .free)], isGenerator := false, isCoroutine := false } : Scope) (defScope s__law_table))) (by decide +kernel)) (fun _ _ _ _ _ => pg_name (i := 6) sc__law_table.nd rfl (Or.inl rfl)) (fun _ _ _ _ _ => pts_nil) (fun _ _ _ _ _ => (pe_op op_sub (pe_call (ok__law_next T) (hr.mono (by decide)) (by rfl) T.g__law_next T.k__law_next T.b__law_next .nil pass0 (pa_cons (pv 0) (pa_cons pe_int pa_nil))) pe_int))))))
        (pss_one (ps_if (pt_cmpR op_lt (pv 4) pe_int (nomark _))
            (pss_one (ps_set (i := 5) sc__law_table.nd rfl (by first | exact Or.inl rfl | exact Or.inr rfl) (pe_call (ok__law_net_drawn T) hr (by rfl) T.g__law_net_drawn T.k__law_net_drawn T.b__law_net_drawn .nil pass0 (pa_cons (pv 0) (pa_cons (pv 2) (pa_cons (pv 3) pa_nil))))))
            (pss_one (ps_set (i := 5) sc__law_table.nd rfl (by first | exact Or.inl rfl | exact Or.inr rfl) (pe_call (ok__law_stretches T) (hr.mono (by decide)) (by rfl) T.g__law_stretches T.k__law_stretches T.b__law_stretches .nil pass0 (pa_cons (pv 0) (pa_cons (pv 2) (pa_cons (pv 3) pa_nil)))))))))
      (pss_cut (ps_if (pt_cmpR op_eq (pe_call (ok__law_next T) (hr.mono (by decide)) (by rfl) T.g__law_next T.k__law_next T.b__law_next .nil pass0 (pa_cons (pv 0) (pa_cons pe_int pa_nil))) pe_int (nomark _))
        (pss_one (ps_set (i := 5) sc__law_table.nd rfl (by first | exact Or.inl rfl | exact Or.inr rfl) (pe_call (ok__law_swung T) (hr.mono (by decide)) (by rfl) T.g__law_swung T.k__law_swung T.b__law_swung .nil pass0 (pa_cons (pv 0) (pa_cons (pv 5) pa_nil)))))
        pss_nil)
      (pss_cons (ps_for PassesOwn.never rfl (pi_range1 (by rfl) T.n_range (pa_cons (pe_call (ok__law_one T) (hr.mono (by decide)) (by rfl) T.g__law_one T.k__law_one T.b__law_one .nil pass0 (pa_cons (pv 0) (pa_cons (pe_lst (pa_cons pe_int (pa_cons pe_int (pa_cons pe_int (pa_cons pe_int pa_nil))))) pa_nil))) pa_nil)) (pg_name (i := 6) sc__law_table.nd rfl (by first | exact Or.inl rfl | exact Or.inr rfl))
        (pss_cut (ps_set (i := 7) sc__law_table.nd rfl (by first | exact Or.inl rfl | exact Or.inr rfl) (pe_ix (r := rIxL K) ix_list (pv 5) (pe_call (ok__law_next T) (hr.mono (by decide)) (by rfl) T.g__law_next T.k__law_next T.b__law_next .nil pass0 (pa_cons (pv 0) (pa_cons (pe_callB (id := "len") (r := rLenS K) call_len_seq (by rfl) T.n_len PySem.boot_len (pa_cons (pv 5) pa_nil)) pa_nil))) (fun _ _ => rfl)))
          (pss_one (ps_asg (pe_call (ok__law_one T) (hr.mono (by decide)) (by rfl) T.g__law_one T.k__law_one T.b__law_one .nil pass0 (pa_cons (pv 0) (pa_cons (pe_lst (pa_cons pe_int (pa_cons (pe_un un_neg pe_int) (pa_cons pe_int (pa_cons pe_int (pa_cons (pe_un un_neg pe_int) (pa_cons pe_int (pa_cons pe_int (pa_cons (pe_un un_neg pe_int) (pa_cons (pe_op op_pow pe_int pe_int) pa_nil)))))))))) pa_nil))) (pg_sub (pv 7) (pe_call (ok__law_next T) (hr.mono (by decide)) (by rfl) T.g__law_next T.k__law_next T.b__law_next .nil pass0 (pa_cons (pv 0) (pa_cons (pe_callB (id := "len") (r := rLenS K) call_len_seq (by rfl) T.n_len PySem.boot_len (pa_cons (pv 7) pa_nil)) pa_nil))) set_list)))))
      (pss_one (ps_ret (pv 5))))))))), ?_⟩
    obtain ⟨s, n, most, rfl, hs, hn, hm1, hm8, k⟩ := h
    have bmost : Bd 8000 (most : Int) := by
      unfold Bd
      exact Nat.lt_of_lt_of_le (show ((most : Int)).natAbs < 1024 by omega) (by decide +kernel)
    -- many, wide, kind
    refine ⟨fun σ' H1 => ∃ m : Nat, σ' = [some (.ref s), some (.int most), some (.int m), none, none, none, none, none] ∧ 1 ≤ m ∧ m ≤ most ∧ ExB s H H1 ∧ SrcAt H1 s (n + 1), ?_, ?_⟩
    · refine ⟨_, rfl, _, rfl, s, _, n, rfl, hs, by omega, by omega, bmost, fun f H1 f0 f1 e1 s1 => ⟨_, _, rfl, rfl, (1 + f).toNat, ?_, by omega, by omega, e1, s1⟩⟩
      have : (((1 + f).toNat : Nat) : Int) = 1 + f := by omega
      rw [this]
      rfl
    rintro σ' H1 ⟨m, rfl, m1, m2, e1, s1⟩
    refine ⟨fun σ' H2 => ∃ w : Nat, σ' = [some (.ref s), some (.int most), some (.int m), some (.int w), none, none, none, none] ∧ 1 ≤ w ∧ w ≤ most ∧ ExB s H H2 ∧ SrcAt H2 s (n + 2), ?_, ?_⟩
    · refine ⟨_, rfl, _, rfl, s, _, _, rfl, s1, by omega, by omega, bmost, fun f H2 f0 f1 e2 s2 => ⟨_, _, rfl, rfl, (1 + f).toNat, ?_, by omega, by omega, e1.trans e2, s2.le (by omega)⟩⟩
      have : (((1 + f).toNat : Nat) : Int) = 1 + f := by omega
      rw [this]
      rfl
    rintro σ' H2 ⟨w, rfl, w1, w2, e2, s2⟩
    refine ⟨fun σ' H3 => ∃ f : Int, σ' = [some (.ref s), some (.int most), some (.int m), some (.int w), some (.int f), none, none, none] ∧ ExB s H H3 ∧ SrcAt H3 s (n + 3), ?_, ?_⟩
    · exact ⟨_, rfl, s, 8, _, rfl, s2, by omega, by decide, (by unfold Bd; decide +kernel), fun f H3 f0 f1 e3 s3 => ⟨f, rfl, e2.trans e3, s3.le (by omega)⟩⟩
    rintro σ' H3 ⟨f, rfl, e3, s3⟩
    clear e1 s1 e2 s2
    -- the table
    refine ⟨fun σ' H4 => ∃ (y6 y7 : Option V) (p : Addr) (as : List Addr) (rows : List (List Int)), σ' = [some (.ref s), some (.int most), some (.int m), some (.int w), some (.int f), some (.ref p), y6, y7] ∧ NewTab H H4 p as rows w 100 ∧ rows.length = m ∧ ExB s H H4 ∧ SrcAt H4 s (n + 403), ?_, ?_⟩
    · refine ⟨_, rfl, _, _, rfl, rfl, _, rfl, ?_⟩
      refine ite2 (fun _ => ?_) (fun _ => ?_)
      · -- drawn
        refine ⟨_, rfl, _, rfl, by omega, by omega, fun D hD => ?_⟩
        have hDs : D ≠ s := s3.ne hD
        have hDH : H D = none := fresh_B e3 hD s3.obj
        refine lc_range (lo := 0) (n := (m : Int).toNat) (fun i H' => ∃ as rows, NewTab H H' D as rows w 100 ∧ rows.length = i ∧ ExB s H H' ∧ SrcAt H' s (n + 3 + 10 * i)) ⟨[], [], NewTab.new hDH upd_same, rfl, e3.trans (ExB.of (Ex.new hD)), (s3.ex (Ex.new hD)).le (by omega)⟩ (fun i H4 hi p => ?_) (fun H4 p => ?_)
        · obtain ⟨as, rows, hN, hl, e4, s4⟩ := p
          have al : as.length = i := by rw [Paired.length hN.tab.2, hl]
          refine ⟨rfl, ?_⟩
          dsimp only [tYes]
          rw [if_pos rfl]
          refine lc_draw (s := s) (n := n + 3 + 10 * i) (m := w) (fun x => x.natAbs ≤ 100) (ea_cons (ev_var rfl) ea_nil) (by omega) s4 (fun u => rfl) (fun j H5 e5 hj s5 Q1 kq => ?_) (fun r ns H5 nr e5 s5 hr hln hP => ?_)
          · exact ⟨_, rfl, s, 3, _, rfl, s5, by omega, by decide, (by unfold Bd; decide +kernel), fun g H6 g0 g1 e6 s6 => ⟨_, _, rfl, rfl, kq (g - 1) H6 (by omega) e6 s6⟩⟩
          · have N5 := hN.exB e5 hs.obj
            have nr0 : H r = none := fresh_B e4 nr s4.obj
            have nrD : r ≠ D := fun z => by
              rw [z, hN.tab.1] at nr
              cases nr
            have nra : r ∉ as := fun ha => by
              obtain ⟨x, _, hx⟩ := paired_mem hN.tab.2 ha
              rw [nr] at hx
              cases hx
            refine ⟨_, N5.tab.1, small1000 (by rw [List.length_map]; omega), as ++ [r], rows ++ [ns], ?_, ?_, ?_, ?_⟩
            · refine ⟨hDH, fun a ha => ?_, ?_, ?_, ⟨?_, ?_⟩, fun x hx => ?_⟩
              · rcases List.mem_append.mp ha with q | q
                · exact hN.a0 a q
                · rw [show a = r by simpa using q]
                  exact nr0
              · refine List.nodup_append.mpr ⟨hN.nd, by simp, fun a ha b hb z => ?_⟩
                have : b = r := by simpa using hb
                exact nra (by rw [← this, ← z]; exact ha)
              · intro ha
                rcases List.mem_append.mp ha with q | q
                · exact hN.np q
                · exact nrD (by simpa using q : D = r).symm
              · rw [upd_same, List.map_append]
                rfl
              · refine paired_snoc (rows_but N5.tab.2 fun a ha o g => ?_) ?_
                · rw [upd_ne (fun z => hN.np (by rw [← z]; exact ha))]
                  exact g
                · rw [upd_ne nrD]
                  exact hr
              · rcases List.mem_append.mp hx with q | q
                · exact hN.ok x q
                · rw [show x = ns by simpa using q]
                  exact ⟨hln, hP⟩
            · rw [List.length_append, hl]
              rfl
            · refine fun b o nb h => ?_
              rw [upd_ne (ne_of_none h hDH)]
              exact e5 _ _ nb (e4 _ _ nb h)
            · obtain ⟨a1, a2, a3, a4, a5, a6, a7, a8⟩ := s5
              exact ⟨a1, a2, a3, by rw [upd_ne hDs.symm]; exact a4, a5, a6, a7, by omega⟩
        · obtain ⟨as, rows, hN, hl, e4, s4⟩ := p
          exact ⟨_, _, D, as, rows, rfl, hN, by omega, e4, s4.le (by omega)⟩
      · refine ⟨_, rfl, _, _, rfl, rfl, _, rfl, ?_⟩
        refine ite2 (fun _ => ?_) (fun _ => ?_)
        · refine ⟨_, rfl, _, rfl, _, rfl, s, _, m, w, rfl, s3, by omega, by omega, by omega, by omega, by omega, fun rs rows p H4 hN hl e4 s4 => ?_⟩
          exact ⟨_, _, p, rs, rows, rfl, hN.back e3 s3.obj, hl, e3.trans e4, s4.le (by omega)⟩
        · refine ⟨_, rfl, _, rfl, _, rfl, s, _, m, w, rfl, s3, by omega, by omega, by omega, by omega, by omega, fun rs rows p H4 hN hl e4 s4 => ?_⟩
          exact ⟨_, _, p, rs, rows, rfl, hN.back e3 s3.obj, hl, e3.trans e4, s4.le (by omega)⟩
    rintro σ' H4 ⟨y6, y7, p, as, rows, rfl, hN, hl, e4, s4⟩
    -- perhaps swung
    have nin : ∀ {a : Addr}, H a = none → a ≠ s := fun h => hs.ne h
    refine ⟨fun σ' H5 => ∃ (p : Addr) (as : List Addr) (rows : List (List Int)) (m' w' : Nat), σ' = [some (.ref s), some (.int most), some (.int m), some (.int w), some (.int f), some (.ref p), y6, y7] ∧ 1 ≤ m' ∧ m' ≤ most ∧ 1 ≤ w' ∧ w' ≤ most ∧ NewTab H H5 p as rows w' 100 ∧ rows.length = m' ∧ ExB s H H5 ∧ SrcAt H5 s (n + 604), ?_, ?_⟩
    · refine ⟨_, rfl, s, 2, _, rfl, s4, by omega, by decide, (by unfold Bd; decide +kernel), fun g H5 g0 g1 e5 s5 => ⟨rfl, _, rfl, ?_⟩⟩
      have N5 := hN.exB e5 hs.obj
      refine ite2 (fun _ => ?_) (fun _ => ?_)
      · refine ⟨_, rfl, _, rfl, s, p, _, as, rows, m, w, rfl, s5, by omega, nin hN.p0, fun a ha => nin (hN.a0 a ha), N5.tab, hl, hN.ok, by omega, by omega, by omega, by omega, fun rs rows' p' H6 m' w' hmw hN' hl' e6 s6 => ?_⟩
        refine ⟨p', rs, rows', m', w', rfl, ?_, ?_, ?_, ?_, hN'.back (e4.trans e5) s5.obj, hl', (e4.trans e5).trans e6, s6.le (by omega)⟩ <;> rcases hmw with ⟨rfl, rfl⟩ | ⟨rfl, rfl⟩ <;> omega
      · exact ⟨p, as, rows, m, w, rfl, m1, m2, w1, w2, N5, hl, e4.trans e5, s5.le (by omega)⟩
    rintro σ' H5 ⟨p, as, rows, m', w', rfl, m1', m2', w1', w2', hN5, hl5, e5, s5⟩
    clear hN hl e4 s4
    have hN5 := hN5.mono (show 100 ≤ 10 ^ 30 by decide)
    -- other entries
    refine ⟨_, rfl, (by show 4 ≤ sizeLine; decide), fun l nl => ?_⟩
    have xl : Ex H5 (upd H5 l (.lst [.int 0, .int 0, .int 1, .int 2])) := Ex.new nl
    refine ⟨s, l, _, _, rfl, s5.ex xl, by omega, s5.ne nl, SqL.of upd_same, by decide, Nat.le_of_ble_eq_true rfl, fun v hv H6 e6 s6 => ?_⟩
    obtain ⟨c, rfl, hc0, hc2⟩ : ∃ c : Int, v = .int c ∧ 0 ≤ c ∧ c ≤ 2 := by
      simp only [List.mem_cons, List.not_mem_nil, or_false] at hv
      rcases hv with rfl | rfl | rfl | rfl
      · exact ⟨0, rfl, by decide, by decide⟩
      · exact ⟨0, rfl, by decide, by decide⟩
      · exact ⟨1, rfl, by decide, by decide⟩
      · exact ⟨2, rfl, by decide, by decide⟩
    have N6 := (hN5.ex xl).exB e6 hs.obj
    have e06 := (e5.trans (ExB.of xl)).trans e6
    clear xl nl
    refine ⟨_, rfl, by omega, by omega, for_range (lo := 0) (n := c.toNat) (fun i σ H' => ∃ (y6 y7 : Option V) (rows : List (List Int)), σ = [some (.ref s), some (.int most), some (.int m), some (.int w), some (.int f), some (.ref p), y6, y7] ∧ NewTab H H' p as rows w' (10 ^ 30) ∧ rows.length = m' ∧ ExB s H H' ∧ SrcAt H' s (n + 605 + 3 * i)) ⟨_, _, rows, rfl, N6, hl5, e06, s6.le (by omega)⟩ ?_ ?_⟩
    · rintro i σ H7 hi ⟨z6, z7, rows7, rfl, hN7, hl7, e7, s7⟩
      have al : as.length = m' := by rw [Paired.length hN7.tab.2, hl7]
      have i2 : i < 2 := by omega
      refine ⟨fun σ' H8 => ∃ (kk : Nat) (x : Addr) (row : List Int), σ' = [some (.ref s), some (.int most), some (.int m), some (.int w), some (.int f), some (.ref p), some (.int (0 + (i : Int))), some (.ref x)] ∧ as[kk]? = some x ∧ rows7[kk]? = some row ∧ ExB s H7 H8 ∧ SrcAt H8 s (n + 605 + 3 * i + 1), ?_, ?_⟩
      · refine ⟨_, rfl, _, rfl, _, rfl, p, _, rfl, .inl (SqL.of hN7.tab.1), s, _, _, rfl, s7, by omega, (by rw [List.length_map]; omega), ?_, fun g H8 g0 g1 e8 s8 => ?_⟩
        · unfold Bd
          exact Nat.lt_of_lt_of_le (show (((as.map V.ref).length : Nat) : Int).natAbs < 1024 by rw [List.length_map]; omega) (by decide +kernel)
        · rw [List.length_map] at g1
          obtain ⟨x, hx⟩ : ∃ x, as[g.toNat]? = some x := ⟨_, List.getElem?_eq_getElem (by omega)⟩
          obtain ⟨row, hrow, _⟩ := paired_get hN7.tab.2 hx
          have N8 := hN7.exB e8 hs.obj
          exact ⟨p, _, _, _, rfl, rfl, SqL.of N8.tab.1, at_of (j := g.toNat) (by omega) (by rw [List.getElem?_map, hx]; rfl), g.toNat, x, row, rfl, hx, hrow, e8, s8⟩
      rintro σ' H8 ⟨kk, x, row, rfl, hx, hrow, e8, s8⟩
      have N8 := hN7.exB e8 hs.obj
      have nxs : x ≠ s := nin (hN7.a0 x (List.mem_of_getElem? hx))
      have o := hN7.ok row (List.mem_of_getElem? hrow)
      have hxr : H8 x = some (.lst (row.map V.int)) := by
        obtain ⟨r', hr', hh⟩ := paired_get N8.tab.2 hx
        rw [hrow] at hr'
        rw [Option.some.inj hr']
        exact hh
      refine ⟨_, rfl, _, rfl, _, rfl, _, rfl, _, _, rfl, rfl, ⟨by decide, by decide, by decide⟩, (by show 9 ≤ sizeLine; decide), fun l nl => ?_⟩
      have xl : Ex H8 (upd H8 l (.lst [.int 1, .int (-1), .int 0, .int 1, .int (-1), .int 0, .int 2, .int (-3), .int (10 ^ (30 : Int).toNat)])) := Ex.new nl
      refine ⟨s, l, _, _, rfl, s8.ex xl, by omega, s8.ne nl, SqL.of upd_same, by decide, Nat.le_of_ble_eq_true rfl, fun v hv H9 e9 s9 => ?_⟩
      obtain ⟨y, rfl, hy⟩ : ∃ y : Int, v = .int y ∧ y.natAbs ≤ 10 ^ 30 := by
        simp only [List.mem_cons, List.not_mem_nil, or_false] at hv
        rcases hv with rfl | rfl | rfl | rfl | rfl | rfl | rfl | rfl | rfl <;> exact ⟨_, rfl, by decide +kernel⟩
      have x9 := e9 _ _ nxs (xl _ _ hxr)
      refine ⟨_, rfl, _, rfl, _, rfl, x, _, rfl, .inl (SqL.of x9), s, _, _, rfl, s9, by omega, (by rw [List.length_map, o.1]; omega), ?_, fun g HA g0 g1 eA sA => ?_⟩
      · unfold Bd
        exact Nat.lt_of_lt_of_le (show (((row.map V.int).length : Nat) : Int).natAbs < 1024 by rw [List.length_map, o.1]; omega) (by decide +kernel)
      · rw [List.length_map] at g1
        have e8A := (e8.trans (ExB.of xl)).trans (e9.trans eA)
        have NA := hN7.exB e8A hs.obj
        have ix : ixN (row.map V.int).length g = some g.toNat := by
          have := Evl.ixN_nat (n := (row.map V.int).length) (j := g.toNat) (by rw [List.length_map]; omega)
          rw [← this]
          congr 1
          omega
        refine ⟨x, _, g, g.toNat, rfl, rfl, eA _ _ nxs x9, ix, ?_⟩
        refine ⟨_, _, rows7.set kk (row.set g.toNat y), rfl, NA.set hx hrow hy, by rw [List.length_set]; exact hl7, ?_, ?_⟩
        · refine fun b o' nb h => ?_
          rw [upd_ne (ne_of_none h (hN7.a0 x (List.mem_of_getElem? hx)))]
          exact e8A _ _ nb (e7 _ _ nb h)
        · obtain ⟨a1, a2, a3, a4, a5, a6, a7, a8⟩ := sA
          exact ⟨a1, a2, a3, by rw [upd_ne nxs.symm]; exact a4, a5, a6, a7, by omega⟩
    · rintro σ H7 ⟨z6, z7, rows7, rfl, hN7, hl7, e7, s7⟩
      refine ⟨_, rfl, ?_⟩
      exact k as rows7 p H7 m' w' m1' m2' w1' w2' hN7 hl7 e7 (s7.le (by omega))
-- DEF is_long

def sp_is_long (K : PySem.W.Frag) : Sp := fun vs H Q _ => ∃ (a : Addr) (xs : List V) (n : Int), vs = [.ref a, .int n] ∧ H a = some (.lst xs) ∧ (xs.length : Int) = n ∧ ∀ H', Ex H H' → Q (.bl true) H'

theorem ok_is_long (T : Txt K mg) : FnOk P w K mg base CX0 1 T.f_is_long T.fd_is_long ["thing", "many"] (sp_is_long K) := by
  refine Fun.ok T.F_is_long sc_is_long (fun vs H Q E h => ?_) (fun cdv A outer s H vs Q E hr h => ?_)
  · obtain ⟨_, _, _, rfl, _⟩ := h; rfl
  · refine ⟨_, (pss_one (ps_ret (pe_and (pe_callB (id := "isinstance") (r := rIsi K) call_isi (by rfl) T.n_isinstance (by decide +kernel) (pa_cons (pv 0) (pa_cons (pe_bltn (v := .ty "list") (by rfl) T.n_list (by decide +kernel) rfl) pa_nil))) (pe_one (pe_cmpR op_eq (pe_callB (id := "len") (r := rLenS K) call_len_seq (by rfl) T.n_len PySem.boot_len (pa_cons (pv 0) pa_nil)) (pv 1) (nomark _)))))), ?_⟩
    obtain ⟨a, xs, n, rfl, ha, hl, k⟩ := h
    exact s_ret (ev_andV (a := true) (b := true) (ev_isi (t := "list") (b := true) (ev_var rfl) ev_c (fun H1 e => .base (.lst (e _ _ ha))) (by decide +kernel)) (fun _ => ev_is (ev_op (ev_len (ev_var rfl) (SqL.of ha)) (ev_var rfl) (rv_eq rfl)) (by rw [hl]; exact congrArg V.bl (decide_eq_true rfl)))) fun H' e => k H' e
-- DEF all_lists
structure TN (s : Addr) (H : Hp) (p : Addr) (as : List Addr) (rows : List (List Int)) : Prop where
  tab : Tab H p as rows
  ps : p ≠ s
  ass : ∀ a ∈ as, a ≠ s
theorem TN.ex {s : Addr} {H H' : Hp} {p : Addr} {as : List Addr} {rows : List (List Int)} (h : TN s H p as rows) (e : Ex H H') : TN s H' p as rows := ⟨h.tab.ex e, h.ps, h.ass⟩
theorem TN.exB {s : Addr} {H H' : Hp} {p : Addr} {as : List Addr} {rows : List (List Int)} (h : TN s H p as rows) (e : ExB s H H') : TN s H' p as rows := ⟨⟨e _ _ h.ps h.tab.1, rows_but h.tab.2 fun a ha o g => e a o (h.ass a ha) g⟩, h.ps, h.ass⟩
theorem TN.of {s : Addr} {n : Int} {H0 H : Hp} {p : Addr} {as : List Addr} {rows : List (List Int)} (hs : SrcAt H0 s n) (hp : H0 p = none) (ha : ∀ a ∈ as, H0 a = none) (h : Tab H p as rows) : TN s H p as rows := ⟨h, hs.ne hp, fun a q => hs.ne (ha a q)⟩
theorem dp_rows {K : PySem.W.Frag} {H : Hp} : ∀ {as : List Addr} {rows : List (List Int)}, RowsAt H as rows → DpAll K H (as.map V.ref) (rows.map fun r => PyData.list (r.map PyData.int))
  | _, _, .nil => .nil
  | _, _, .cons h t => .cons (.lst (SqL.of h) (dpAll_ints _)) (dp_rows t)
theorem canLay_rows : ∀ rows : List (List Int), PyData.canLayAll0 (rows.map fun r => PyData.list (r.map PyData.int)) = true
  | [] => rfl
  | r :: rs => by
    show (PyData.canLayAll0 (r.map PyData.int) && PyData.canLayAll0 (rs.map fun r => PyData.list (r.map PyData.int))) = true
    rw [canLay_ints, canLay_rows rs]
    rfl
theorem depth_rows : ∀ rows : List (List Int), PyData.depthAll (rows.map fun r => PyData.list (r.map PyData.int)) ≤ 1
  | [] => Nat.zero_le _
  | r :: rs => by
    show max (PyData.depthAll (r.map PyData.int) + 1) (PyData.depthAll (rs.map fun r => PyData.list (r.map PyData.int))) ≤ 1
    have := depth_rows rs
    rw [depth_ints]
    omega
theorem rv_neT {K : PySem.W.Frag} {H : Hp} {p q : Addr} {as bs : List Addr} {rows : List (List Int)} (hp : Tab H p as rows) (hq : Tab H q bs rows) : RV (rNeD K) (.ref p) (.ref q) H (.bl false) := fun H1 e Q k => by
  have sh : SeqAt.shaped (.list (rows.map fun r => PyData.list (r.map PyData.int))) = true := shaped_list (canLay_rows rows) (Nat.le_trans (depth_rows rows) (by decide))
  refine ⟨_, _, .lst (SqL.of (e _ _ hp.1)) (dp_rows (hp.2.ex e)), .lst (SqL.of (e _ _ hq.1)) (dp_rows (hq.2.ex e)), sh, sh, ?_⟩
  rw [SeqAt.eqv_refl _ (SeqAt.canLay_of_shaped sh)]
  exact k H1 (Ex.refl _)
theorem cutV_ints (ns : List Int) (lo hi : Option Int) : ∃ zs : List Int, cutV (ns.map V.int) lo hi = zs.map V.int := by
  refine ⟨(ns.drop (HT.sIx (ns.map V.int).length 0 lo)).take (HT.sIx (ns.map V.int).length (ns.map V.int).length hi - HT.sIx (ns.map V.int).length 0 lo), ?_⟩
  unfold cutV
  rw [List.map_take, List.map_drop]
theorem paired_app {α β : Type} {R : α → β → Prop} : ∀ {xs : List α} {ys : List β} {xs2 : List α} {ys2 : List β}, Paired R xs ys → Paired R xs2 ys2 → Paired R (xs ++ xs2) (ys ++ ys2)
  | _, _, _, _, .nil, h => h
  | _, _, _, _, .cons a t, h => .cons a (paired_app t h)
theorem paired_take {α β : Type} {R : α → β → Prop} : ∀ {xs : List α} {ys : List β} (n : Nat), Paired R xs ys → Paired R (xs.take n) (ys.take n)
  | _, _, 0, _ => by rw [List.take_zero, List.take_zero]; exact .nil
  | _, _, n + 1, .nil => by rw [List.take_nil, List.take_nil]; exact .nil
  | _, _, n + 1, .cons a t => .cons a (paired_take n t)
theorem lc_rowsT {K : PySem.W.Frag} {nn : Nat} {te : TE} {vs : List Nat} {j : Nat} {σ : L2.St} {H : Hp} {Q : VK} {a : Addr} {as0 : List Addr} {rows : List (List Int)} (F : List Int → List Int) (hσ : σ[nn]? = some (some (.ref a))) (ht : Tab H a as0 rows) (hm : rows.length ≤ 1000) (hw : ∀ u, wipe ((wipe σ vs).set j (some u)) vs = wipe σ vs)
    (he : ∀ c r H1, r ∈ rows → H c = some (.lst (r.map V.int)) → Ex H H1 → EvL te ((wipe σ vs).set j (some (.ref c))) H1 ((F r).map V.int))
    (k : ∀ p as H2, H p = none → (∀ a ∈ as, H a = none) → as.Nodup → p ∉ as → Ex H H2 → Tab H2 p as (rows.map F) → Q (.ref p) H2) : tLc (iList K (tVar nn)) (gName j) tYes te vs σ H Q := by
  refine ⟨_, hσ, a, rfl, ⟨_, SqL.of ht.1⟩, fun D hD => ?_⟩
  refine lc_list (K := K) (a := a) (xs := as0.map V.ref) (fun i H' => ∃ as, Ex H H' ∧ H' D = some (.lst (as.map V.ref)) ∧ RowsAt H' as ((rows.take i).map F) ∧ (∀ a ∈ as, H a = none) ∧ as.Nodup ∧ D ∉ as) ⟨[], Ex.new hD, upd_same, .nil, fun a ha => by simp at ha, List.nodup_nil, by simp⟩ (fun i H' _ ⟨_, p1, _⟩ => SqL.of (p1 _ _ ht.1)) (fun i x H' gx p => ?_) (fun H' p => ?_)
  · obtain ⟨as, p1, p2, p3, p4, p5, p6⟩ := p
    rw [List.getElem?_map] at gx
    obtain ⟨c0, hc0, rfl⟩ := Option.map_eq_some_iff.mp gx
    obtain ⟨y, hy, hh⟩ := paired_get ht.2 hc0
    have hi := (List.getElem?_eq_some_iff.mp hy).1
    have el : as.length = i := by rw [Paired.length p3, List.length_map, List.length_take]; omega
    refine ⟨hw _, ?_⟩
    show te _ H' _
    refine he c0 y H' (List.mem_of_getElem? hy) hh p1 H' (Ex.refl _) _ fun r H4 nr e4 hr => ?_
    have nrD : r ≠ D := fun z => by
      rw [z, p2] at nr
      cases nr
    refine ⟨_, e4 _ _ p2, ?_, as ++ [r], Ex.mut (p1.trans e4) hD, ?_, ?_, ?_, ?_, ?_⟩
    · rw [List.length_map, el]
      exact small1000 (by omega)
    · rw [upd_same, List.map_append]
      rfl
    · rw [take_snoc hy, List.map_append]
      refine paired_snoc (rows_but p3 fun b hb o g => ?_) ?_
      · rw [upd_ne (fun z => p6 (by rw [← z]; exact hb))]
        exact e4 _ _ g
      · rw [upd_ne nrD]
        exact hr
    · intro b hb
      rcases List.mem_append.mp hb with h | h
      · exact p4 b h
      · rw [show b = r by simpa using h]
        exact fresh_back p1 nr
    · refine List.nodup_append.mpr ⟨p5, by simp, fun b hb c hc z => ?_⟩
      have : c = r := by simpa using hc
      have hb' : r ∈ as := by rw [← this, ← z]; exact hb
      obtain ⟨x, _, hx'⟩ := paired_mem p3 hb'
      rw [nr] at hx'
      cases hx'
    · intro hb
      rcases List.mem_append.mp hb with h | h
      · exact p6 h
      · exact nrD (by simpa using h : D = r).symm
  · obtain ⟨as, p1, p2, p3, p4, p5, p6⟩ := p
    rw [List.length_map, Paired.length ht.2, List.take_length] at p3
    exact k D as H' hD p4 p5 p6 p1 ⟨p2, p3⟩
theorem el_cat {ta tb : TE} {σ : L2.St} {H : Hp} {xs ys : List V} (ha : EvL ta σ H xs) (hb : EvL tb σ H ys) (hz : xs.length + ys.length ≤ 100000) : EvL (tOp rCat ta tb) σ H (xs ++ ys) := fun H1 e Q q =>
  ha H1 e _ fun p H2 np e2 hp => hb H2 (e.trans e2) _ fun r H3 nr e3 hr => ⟨p, r, xs, ys, rfl, rfl, e3 _ _ hp, hr, sz_of hz, fun l nl => q l _ (fresh_back (e2.trans e3) nl) ((e2.trans e3).trans (Ex.new nl)) upd_same⟩
theorem el_catVL {ta tb : TE} {σ : L2.St} {H : Hp} {a : Addr} {xs ys : List V} (ha : Ev ta σ H (.ref a)) (h : H a = some (.lst xs)) (hb : EvL tb σ H ys) (hz : xs.length + ys.length ≤ 100000) : EvL (tOp rCat ta tb) σ H (xs ++ ys) := fun H1 e Q q =>
  ha H1 e _ fun H2 e2 => hb H2 (e.trans e2) _ fun r H3 nr e3 hr => ⟨a, r, xs, ys, rfl, rfl, ((e.trans e2).trans e3) _ _ h, hr, sz_of hz, fun l nl => q l _ (fresh_back (e2.trans e3) nl) ((e2.trans e3).trans (Ex.new nl)) upd_same⟩

/-- [F(r, z) for r in rows for z in zs]: new lists -/
theorem lc2_grow {K : PySem.W.Frag} {n1 n2 j j1 : Nat} {te : TE} {vs vs1 : List Nat} {σ : L2.St} {H : Hp} {Q : VK} {p q : Addr} {as : List Addr} {rows : List (List Int)} {zs : List Int} (F : List Int → Int → List Int)
    (h1 : σ[n1]? = some (some (.ref p))) (ht : Tab H p as rows) (h2 : ∀ u, ((wipe σ vs).set j (some u))[n2]? = some (some (.ref q))) (hq : H q = some (.lst (zs.map V.int))) (hm : rows.length * zs.length ≤ 50000)
    (hw : ∀ u, wipe ((wipe σ vs).set j (some u)) vs = wipe σ vs) (hw1 : ∀ u v, wipe ((wipe ((wipe σ vs).set j (some u)) vs1).set j1 (some v)) vs1 = wipe ((wipe σ vs).set j (some u)) vs1)
    (he : ∀ c r z H1, r ∈ rows → z ∈ zs → H1 c = some (.lst (r.map V.int)) → Ex H H1 → EvL te ((wipe ((wipe σ vs).set j (some (.ref c))) vs1).set j1 (some (.int z))) H1 ((F r z).map V.int))
    (k : ∀ D bs H2, H D = none → (∀ b ∈ bs, H b = none) → bs.Nodup → D ∉ bs → Ex H H2 → Tab H2 D bs (rows.flatMap fun r => zs.map (F r)) → Q (.ref D) H2) :
    tLc2 (iList K (tVar n1)) (gName j) tYes (iList K (tVar n2)) (gName j1) tYes te vs vs1 σ H Q := by
  refine ⟨_, h1, p, rfl, ⟨_, SqL.of ht.1⟩, fun D hD => ?_⟩
  let Inv (rs : List (List Int)) (G : Hp) : Prop := ∃ bs, Ex H G ∧ G D = some (.lst (bs.map V.ref)) ∧ RowsAt G bs rs ∧ (∀ b ∈ bs, H b = none) ∧ bs.Nodup ∧ D ∉ bs
  have len : ∀ {rs : List (List Int)} {G : Hp} {bs : List Addr}, RowsAt G bs rs → bs.length = rs.length := fun h => Paired.length h
  refine ⟨fun i m G => m = rows.length - i ∧ i ≤ rows.length ∧ Inv ((rows.take i).flatMap fun r => zs.map (F r)) G, ⟨rows.length, by simp, Nat.zero_le _, [], Ex.new hD, upd_same, .nil, fun b hb => (nomatch hb), List.nodup_nil, fun z => nomatch z⟩, ?_⟩
  rintro i m G ⟨rfl, hi, bs, b1, b2, b3, b4, b5, b6⟩
  have al : as.length = rows.length := Paired.length ht.2
  by_cases hlt : i < rows.length
  rotate_left
  · have e : i = rows.length := by omega
    subst e
    rw [List.take_length] at b3
    exact .inl ⟨⟨_, SqL.of (b1 _ _ ht.1), by rw [List.length_map]; omega⟩, k D bs G hD b4 b5 b6 b1 ⟨b2, b3⟩⟩
  have ha : as[i]? = some as[i] := List.getElem?_eq_getElem (by omega)
  obtain ⟨r, hr, hh⟩ := paired_get ht.2 ha
  have hx : (as.map V.ref)[i]? = some (.ref as[i]) := by rw [List.getElem?_map, ha]; rfl
  refine .inr ⟨⟨_, _, SqL.of (b1 _ _ ht.1), hx⟩, Inv ((rows.take (i + 1)).flatMap fun r => zs.map (F r)), fun G' g' => ⟨rows.length - (i + 1), by omega, rfl, hlt, g'⟩, fun x G' y => ?_⟩
  obtain ⟨rfl, y⟩ := y
  have ex := y _ (SqL.of (b1 _ _ ht.1))
  rw [hx] at ex
  cases ex
  refine ⟨hw _, ?_⟩
  dsimp only [tYes]
  rw [if_pos rfl]
  refine ⟨_, h2 _, q, rfl, ⟨_, SqL.of (b1 _ _ hq)⟩, ?_⟩
  refine ⟨fun jj kk G => kk = zs.length - jj ∧ jj ≤ zs.length ∧ Inv (((rows.take i).flatMap fun r => zs.map (F r)) ++ (zs.take jj).map (F r)) G, ⟨zs.length, by simp, Nat.zero_le _, bs, b1, b2, by rw [List.take_zero, List.map_nil, List.append_nil]; exact b3, b4, b5, b6⟩, ?_⟩
  rintro jj kk G2 ⟨rfl, hj, cs, c1, c2, c3, c4, c5, c6⟩
  by_cases hlt2 : jj < zs.length
  rotate_left
  · have e : jj = zs.length := by omega
    subst e
    rw [List.take_length] at c3
    refine .inl ⟨⟨_, SqL.of (c1 _ _ hq), by rw [List.length_map]; omega⟩, cs, c1, c2, ?_, c4, c5, c6⟩
    rw [take_snoc hr, List.flatMap_append, List.flatMap_cons, List.flatMap_nil, List.append_nil]
    exact c3
  have hz : zs[jj]? = some zs[jj] := List.getElem?_eq_getElem hlt2
  have hx2 : (zs.map V.int)[jj]? = some (.int zs[jj]) := by rw [List.getElem?_map, hz]; rfl
  refine .inr ⟨⟨_, _, SqL.of (c1 _ _ hq), hx2⟩, Inv (((rows.take i).flatMap fun r => zs.map (F r)) ++ (zs.take (jj + 1)).map (F r)), fun G' g' => ⟨zs.length - (jj + 1), by omega, rfl, hlt2, g'⟩, fun x G' y => ?_⟩
  obtain ⟨rfl, y⟩ := y
  have ex := y _ (SqL.of (c1 _ _ hq))
  rw [hx2] at ex
  cases ex
  refine ⟨hw1 _ _, ?_⟩
  rw [if_pos rfl]
  refine he as[i] r zs[jj] _ (List.mem_of_getElem? hr) (List.getElem_mem hlt2) (c1 _ _ hh) c1 _ (Ex.refl _) _ fun u G3 nu e3 hu => ?_
  have nuD : u ≠ D := fun z => by
    rw [z, c2] at nu
    cases nu
  have lc : cs.length ≤ 50000 := by
    rw [len c3, List.length_append, List.length_map, List.length_take, List.length_flatMap]
    have : ((rows.take i).map fun r => (zs.map (F r)).length).sum = i * zs.length := by
      have : ((rows.take i).map fun r => (zs.map (F r)).length) = List.replicate i zs.length := by
        rw [List.eq_replicate_iff]
        refine ⟨by rw [List.length_map, List.length_take]; omega, fun b hb => ?_⟩
        obtain ⟨r, _, rfl⟩ := List.mem_map.mp hb
        rw [List.length_map]
      rw [this, List.sum_replicate_nat]
    rw [this]
    have h3 : (i + 1) * zs.length ≤ rows.length * zs.length := Nat.mul_le_mul_right _ hlt
    rw [Nat.add_mul, Nat.one_mul] at h3
    omega
  refine ⟨_, e3 _ _ c2, by rw [List.length_map]; exact sz_lt (by omega), cs ++ [u], Ex.mut (c1.trans e3) hD, ?_, ?_, ?_, ?_, ?_⟩
  · rw [upd_same, List.map_append]
    rfl
  · rw [take_snoc hz, List.map_append, ← List.append_assoc]
    refine paired_snoc (rows_but c3 fun b hb o g => ?_) ?_
    · rw [upd_ne (fun z => c6 (by rw [← z]; exact hb))]
      exact e3 _ _ g
    · rw [upd_ne nuD]
      exact hu
  · intro b hb
    rcases List.mem_append.mp hb with h | h
    · exact c4 b h
    · rw [List.mem_singleton.mp h]
      exact fresh_back c1 nu
  · refine List.nodup_append.mpr ⟨c5, by simp, fun b hb c hc z => ?_⟩
    have : c = u := by simpa using hc
    have hb' : u ∈ cs := by rw [← this, ← z]; exact hb
    obtain ⟨x, _, hx'⟩ := paired_mem c3 hb'
    rw [nu] at hx'
    cases hx'
  · intro hb
    rcases List.mem_append.mp hb with h | h
    · exact c6 h
    · exact nuD (List.mem_singleton.mp h).symm
def sp_all_lists (K : PySem.W.Frag) : Sp := fun vs H Q _ => ∃ (p : Addr) (cs : List Addr) (choices : List (List Int)) (b : Nat), vs = [.ref p] ∧ Tab H p cs choices ∧ (∀ c ∈ choices, c.length ≤ b) ∧ 1 ≤ b ∧ b ^ choices.length ≤ 5000 ∧ b ≤ 10 ∧ choices.length ≤ 20 ∧
  ∀ q bs H', H q = none → (∀ a ∈ bs, H a = none) → bs.Nodup → q ∉ bs → Ex H H' → Tab H' q bs (Ls.allL choices) → Q (.ref q) H'

theorem ok_all_lists (T : Txt K mg) : FnOk P w K mg base CX0 1 T.f_all_lists T.fd_all_lists ["choices"] (sp_all_lists K) := by
  refine Fun.ok T.F_all_lists sc_all_lists (fun vs H Q E h => ?_) (fun cdv A outer s H vs Q E hr h => ?_)
  · obtain ⟨_, _, _, _, rfl, _⟩ := h; rfl
  · refine ⟨_, (pss_cut (ps_set (i := 1) sc_all_lists.nd rfl (by first | exact Or.inl rfl | exact Or.inr rfl) (pe_lst (pa_cons (pe_lst pa_nil) pa_nil)))
      (pss_cons (ps_for PassesOwn.never rfl (pi_list (pv 0)) (pg_name (i := 2) sc_all_lists.nd rfl (by first | exact Or.inl rfl | exact Or.inr rfl))
        (pss_one (ps_setLc2 (i := 1) (own := [("ahead", 3), ("one", 4)]) (vs1 := [4]) (wi := iList K _) (g := gName 3) (tt := tYes) (wi1 := iList K _) (g1 := gName 4) (tt1 := tYes) rfl sc_all_lists.nd rfl rfl (sw_true rfl rfl rfl (by decide +kernel)) (pi_list (pv 1)) (blkOk_by (N := ["choices", "told", "some", "ahead", "one"]) (sc := (defScope s_all_lists)) (by decide +kernel)) (by decide) (fun _ _ _ _ _ => pg_name (i := 3) sc_all_lists.nd rfl (Or.inl rfl)) (fun _ _ _ _ _ => pts_nil) (fun _ _ _ _ _ => (pi_list (pv 2))) (fun _ _ _ _ _ => pg_name (i := 4) sc_all_lists.nd rfl (Or.inl rfl)) (fun _ _ _ _ _ => pts_nil) (fun _ _ _ _ _ => (pe_op op_cat (pv 3) (pe_lst (pa_cons (pv 4) pa_nil)))))))
      (pss_one (ps_ret (pv 1))))), ?_⟩
    obtain ⟨p, cs, choices, b, rfl, hT, hc, b1, hb, b10, c20, k⟩ := h
    have cl : cs.length = choices.length := Paired.length hT.2
    refine ⟨fun σ' H' => ∃ (q : Addr) (bs : List Addr), σ' = [some (.ref p), some (.ref q), none, none, none] ∧ Ex H H' ∧ H q = none ∧ (∀ a ∈ bs, H a = none) ∧ bs.Nodup ∧ q ∉ bs ∧ Tab H' q bs [[]], ?_, ?_⟩
    · refine ⟨Nat.zero_le _, fun l nl => ⟨(by show 1 ≤ sizeLine; decide), fun t nt => ⟨t, [l], rfl, (Ex.new nl).trans (Ex.new nt), fresh_back (Ex.new nl) nt, fun a ha => by rw [List.mem_singleton.mp ha]; exact nl, by simp, fun z => ?_, upd_same, .cons (Ex.new nt _ _ upd_same) .nil⟩⟩⟩
      rw [List.mem_singleton.mp z, upd_same] at nt
      cases nt
    rintro σ' H1 ⟨q, bs, rfl, e1, nq, nbs, nd, qb, hq⟩
    refine q_forL (xs := cs.map V.ref) (ev_var (i := 0) rfl) (SqL.of (e1 _ _ hT.1)) (fun i σ' H' => ∃ (q : Addr) (bs : List Addr) (y2 : Option V), σ' = [some (.ref p), some (.ref q), y2, none, none] ∧ Ex H H' ∧ H q = none ∧ (∀ a ∈ bs, H a = none) ∧ bs.Nodup ∧ q ∉ bs ∧ Tab H' q bs (Ls.allL (choices.take i))) (fun H2 e2 => ⟨q, bs, _, rfl, e1.trans e2, nq, nbs, nd, qb, hq.ex e2⟩) (fun i σ' H' _ ⟨_, _, _, _, h, _⟩ => SqL.of (h _ _ hT.1)) (fun i x σ' H2 hx hP => ?_) (fun σ' H2 hP => ?_)
    · obtain ⟨q, bs, y2, rfl, e2, nq, nbs, nd, qb, hq⟩ := hP
      rw [List.getElem?_map] at hx
      obtain ⟨c, hc', rfl⟩ := Option.map_eq_some_iff.mp hx
      obtain ⟨zs, hz, hh⟩ := paired_get hT.2 hc'
      have hi := (List.getElem?_eq_some_iff.mp hz).1
      have l1 : (Ls.allL (choices.take i)).length ≤ 5000 := by
        have := Ls.allL_len (b := b) (cs := choices.take i) fun c h => hc c (List.mem_of_mem_take h)
        refine Nat.le_trans this (Nat.le_trans (Nat.pow_le_pow_right b1 ?_) hb)
        rw [List.length_take]
        omega
      show tAsg _ (gName 1) _ [some (.ref p), some (.ref q), some (.ref c), none, none] H2
      refine lc2_grow (K := K) (n1 := 1) (n2 := 2) (σ := [some (.ref p), some (.ref q), some (.ref c), none, none]) (vs := [3, 4]) (vs1 := [4]) (j := 3) (j1 := 4) (F := fun r z => r ++ [z]) rfl hq (fun u => rfl) (e2 _ _ hh) ?_ (fun u => rfl) (fun u v => rfl) (fun c r z H3 hr hz hc e3 => ?_) (fun D ds H3 nD nds ndd Dd e3 h3 => ⟨D, ds, _, rfl, e2.trans e3, fresh_back e2 nD, fun a ha => fresh_back e2 (nds a ha), ndd, Dd, ?_⟩)
      · have l2 := hc zs (List.mem_of_getElem? hz)
        exact Nat.le_trans (Nat.mul_le_mul l1 (Nat.le_trans l2 b10)) (by decide)
      · rw [List.map_append]
        refine el_catVL (ev_var rfl) hc (el_lst (vs := [.int z]) (ea_cons (ev_var rfl) ea_nil) (Nat.le_of_ble_eq_true rfl)) ?_
        have l3 := Paired.length (Ls.allL_each _ _ rfl r hr)
        rw [List.length_map, l3, List.length_take]
        show _ + 1 ≤ 100000
        omega
      · rw [take_snoc hz, Ls.allL_snoc]
        exact h3
    · obtain ⟨q, bs, y2, rfl, e2, nq, nbs, nd, qb, hq⟩ := hP
      rw [List.length_map, cl, List.take_length] at hq
      exact ⟨_, rfl, k q bs H2 nq nbs nd qb e2 hq⟩
-- DEF row_totals

theorem ev_sumL {K : PySem.W.Frag} {ta : TE} {σ : L2.St} {H : Hp} {ns : List Int} (h : EvL ta σ H (ns.map V.int)) : Ev (tCB (rSum K) (tCons ta tNil)) σ H (.int ns.sum) := fun H1 e Q q => h H1 e _ fun p H2 _ e2 hp => ⟨p, ns, rfl, SqL.of hp, q H2 e2⟩
theorem ev_allL {K : PySem.W.Frag} {ta : TE} {σ : L2.St} {H : Hp} {bs : List Bool} (h : EvL ta σ H (bs.map V.bl)) : Ev (tCB (rAll K) (tCons ta tNil)) σ H (.bl (bs.all id)) := fun H1 e Q q => h H1 e _ fun p H2 _ e2 hp => ⟨p, bs, rfl, SqL.of hp, q H2 e2⟩

def sp_row_totals (K : PySem.W.Frag) : Sp := fun vs H Q _ => ∃ (p q : Addr) (as : List Addr) (rows : List (List Int)) (zs : List Int), vs = [.ref p, .ref q] ∧ Tab H p as rows ∧ rows.length ≤ 8 ∧ (∀ r ∈ rows, r.length = zs.length ∧ ∀ y ∈ r, Bd 110 y) ∧ zs.length ≤ 8 ∧ H q = some (.lst (zs.map V.int)) ∧ (∀ z ∈ zs, Bd 110 z) ∧
  ∀ d H', H d = none → Ex H H' → H' d = some (.lst ((Ls.totals rows zs).map V.int)) → Q (.ref d) H'

theorem ok_row_totals (T : Txt K mg) : FnOk P w K mg base CX0 1 T.f_row_totals T.fd_row_totals ["table", "numbers"] (sp_row_totals K) := by
  refine Fun.ok T.F_row_totals sc_row_totals (fun vs H Q E h => ?_) (fun cdv A outer s H vs Q E hr h => ?_)
  · obtain ⟨_, _, _, _, _, rfl, _⟩ := h; rfl
  · refine ⟨_, (pss_one (ps_ret (pe_lc (own := [("row", 2)]) (wi := iList K _) (g := gName 2) (tt := tYes) rfl sc_row_totals.nd (pi_list (pv 0)) (blkOk_by (N := ["table", "numbers", "row", "entry", "number"]) (sc := (defScope s_row_totals)) (by decide +kernel)) (fun _ _ _ _ _ => pg_name (i := 2) sc_row_totals.nd rfl (Or.inl rfl)) (fun _ _ _ _ _ => pts_nil) (fun _ _ _ _ _ => (pe_callB (id := "sum") (r := rSum K) (cr_sum rfl) (by rfl) T.n_sum (by decide +kernel) (pa_cons (pe_lc (own := [("entry", 3), ("number", 4)]) (wi := iZip K _) (g := gTup K 2 (gCons (gName 3) (gCons (gName 4) gNil))) (tt := tYes) rfl sc_row_totals.nd (pi_zip (by rfl) T.n_zip (pa_cons (pv 2) (pa_cons (pv 1) pa_nil))) (blkOk_by (N := ["table", "numbers", "row", "entry", "number"]) (sc := (relS ({ kind := .function, names := [(".0", .local), ("row", .local), ("sum", .globalImplicit), ("zip", .globalImplicit), ("numbers", .free)], isGenerator := false, isCoroutine := false } : Scope) (defScope s_row_totals))) (by decide +kernel)) (fun _ _ _ _ _ => (pg_tup rfl (pgs_cons (pg_name (i := 3) sc_row_totals.nd rfl (Or.inl rfl)) (pgs_cons (pg_name (i := 4) sc_row_totals.nd rfl (Or.inl rfl)) pgs_nil)))) (fun _ _ _ _ _ => pts_nil) (fun _ _ _ _ _ => (pe_op op_mulW (pv 3) (pv 4)))) pa_nil)))))), ?_⟩
    obtain ⟨p, q, as, rows, zs, rfl, hT, m8, hr, z8, hq, hz, k⟩ := h
    refine s_retL (el_col (K := K) (n := 0) (f := fun r => Ls.dot r zs) rfl hT.1 hT.2 (by omega) (fun u => rfl) fun b r H1 hr' hb e1 => ?_) fun d H1 nd e1 hd => k d H1 nd e1 hd
    refine ev_sumL (el_zip (K := K) (f := (· * ·)) (ea_cons (ev_var rfl) (ea_cons (ev_var rfl) ea_nil)) (SqL.of (e1 _ _ hb)) (SqL.of (e1 _ _ hq)) (hr r hr').1 (by have := (hr r hr').1; omega) (fun u v => rfl) fun x y H2 hx hy e2 => ?_)
    exact ev_op (ev_var rfl) (ev_var rfl) (rv_I (((hr r hr').2 x hx).mulOk (hz y hy)))
-- DEF are_small
theorem el_mapB {K : PySem.W.Frag} {n : Nat} {te : TE} {vs : List Nat} {j : Nat} {σ : L2.St} {H : Hp} {a : Addr} {qs : List Int} (f : Int → Bool) (hσ : σ[n]? = some (some (.ref a))) (hx : H a = some (.lst (qs.map V.int))) (hz : qs.length ≤ 1000)
    (hw : ∀ u, wipe ((wipe σ vs).set j (some u)) vs = wipe σ vs)
    (he : ∀ y H1, y ∈ qs → Ex H H1 → Ev te ((wipe σ vs).set j (some (.int y))) H1 (.bl (f y))) : EvL (tLc (iList K (tVar n)) (gName j) tYes te vs) σ H ((qs.map f).map V.bl) := fun H1 e1 Q q => by
  have hx1 := e1 _ _ hx
  refine ⟨_, hσ, a, rfl, ⟨_, SqL.of hx1⟩, fun D hD => ?_⟩
  refine lc_list (K := K) (a := a) (xs := qs.map V.int) (fun i H' => Ex H1 H' ∧ H' D = some (.lst (((qs.map f).take i).map V.bl))) ⟨Ex.new hD, upd_same⟩ (fun i H' _ p => SqL.of (p.1 _ _ hx1)) (fun i x H' gx p => ?_) (fun H' p => ?_)
  · obtain ⟨p1, p2⟩ := p
    rw [List.getElem?_map] at gx
    obtain ⟨b, hb, rfl⟩ := Option.map_eq_some_iff.mp gx
    refine ⟨hw _, ?_⟩
    show te _ _ _
    refine he b H (List.mem_of_getElem? hb) (Ex.refl H) _ (e1.trans p1) _ fun H4 e4 => ?_
    refine ⟨_, e4 _ _ p2, ?_, Ex.mut (p1.trans e4) hD, ?_⟩
    · rw [List.length_map, List.length_take, List.length_map]
      exact small1000 (by omega)
    · have hzz : (qs.map f)[i]? = some (f b) := by rw [List.getElem?_map, hb]; rfl
      rw [upd_same, take_snoc hzz, List.map_append]
      rfl
  · obtain ⟨p1, p2⟩ := p
    rw [List.take_of_length_le (by rw [List.length_map, List.length_map]; omega)] at p2
    exact q D H' hD p1 p2

theorem small_in (t : Int) : inV (.int t) [.int (-1), .int 0, .int 1] = Ls.small1 t := by
  unfold inV Ls.small1
  rw [Bool.eq_iff_iff, decide_eq_true_eq]
  show (((-1 : Int) == t) || ((0 == t) || ((1 == t) || false))) = true ↔ _
  simp only [Bool.or_false, Bool.or_eq_true, beq_iff_eq]
  omega
def sp_are_small (K : PySem.W.Frag) : Sp := fun vs H Q _ => ∃ (a : Addr) (ns : List Int), vs = [.ref a] ∧ H a = some (.lst (ns.map V.int)) ∧ ns.length ≤ 100 ∧ ∀ H', Ex H H' → Q (.bl (Ls.smallB ns)) H'

theorem ok_are_small (T : Txt K mg) : FnOk P w K mg base CX0 1 T.f_are_small T.fd_are_small ["totals"] (sp_are_small K) := by
  refine Fun.ok T.F_are_small sc_are_small (fun vs H Q E h => ?_) (fun cdv A outer s H vs Q E hr h => ?_)
  · obtain ⟨_, _, rfl, _⟩ := h; rfl
  · refine ⟨_, (pss_one (ps_ret (pe_callB (id := "all") (r := rAll K) (cr_all rfl) (by rfl) T.n_all (by decide +kernel) (pa_cons (pe_lc (own := [("total", 1)]) (wi := iList K _) (g := gName 1) (tt := tYes) rfl sc_are_small.nd (pi_list (pv 0)) (blkOk_by (N := ["totals", "total"]) (sc := (defScope s_are_small)) (by decide +kernel)) (fun _ _ _ _ _ => pg_name (i := 1) sc_are_small.nd rfl (Or.inl rfl)) (fun _ _ _ _ _ => pts_nil) (fun _ _ _ _ _ => (pe_cmpR (r := rIn K false) op_in_seq (pv 1) (pe_tup (pa_cons (pe_un un_neg pe_int) (pa_cons pe_int (pa_cons pe_int pa_nil)))) (by rfl)))) pa_nil)))), ?_⟩
    obtain ⟨a, ns, rfl, ha, h8, k⟩ := h
    refine s_ret (ev_is (ev_allL (el_mapB (K := K) (n := 0) Ls.small1 rfl ha (by omega) (fun u => rfl) fun y H1 hy e1 => ?_)) ?_) fun H1 e1 => k H1 e1
    · exact ev_is (ev_inU (ev_var rfl) (eu_tup (ea_cons (ev_un (x := .int 1) ev_c ru_neg) (ea_cons ev_c (ea_cons ev_c ea_nil))) (Nat.le_of_ble_eq_true rfl)) rfl rfl) (by rw [small_in])
    · unfold Ls.smallB
      rw [List.all_map]
      rfl
-- DEF halves

theorem rgV_rg (lo hi : Int) : rgV lo hi = (Ls.rg lo hi).map V.int := by
  unfold rgV Ls.rg
  rw [List.map_map]
  rfl
theorem div2 {i : Int} : CDivW i 2 := ⟨by decide, by decide⟩
def sp_halves (K : PySem.W.Frag) : Sp := fun vs H Q _ => ∃ (x : Int), vs = [.int x] ∧ ∀ q H', H q = none → Ex H H' → H' q = some (.lst ((Ls.hv x).map V.int)) → Q (.ref q) H'

theorem ok_halves (T : Txt K mg) : FnOk P w K mg base CX0 1 T.f_halves T.fd_halves ["x"] (sp_halves K) := by
  refine Fun.ok T.F_halves sc_halves (fun vs H Q E h => ?_) (fun cdv A outer s H vs Q E hr h => ?_)
  · obtain ⟨_, rfl, _⟩ := h; rfl
  · refine ⟨_, (pss_one (ps_ret (RgW.pe_listRgW rfl (by rfl) T.n_list (prg_2 (by rfl) T.n_range (pe_op op_fdivW (pv 0) pe_int) (pe_op op_add (pe_op op_sub (pv 0) (pe_op op_fdivW (pv 0) pe_int)) pe_int))))), ?_⟩
    obtain ⟨x, rfl, k⟩ := h
    refine (ev_op (σ := [some (.int x)]) (ev_var rfl) ev_c (rv_I div2)) H (Ex.refl H) _ fun H1 e1 => ?_
    refine (ev_op (σ := [some (.int x)]) (ev_op (ev_var rfl) (ev_op (ev_var rfl) ev_c (rv_I div2)) rv_I0) ev_c rv_I0) H1 (Ex.refl _) _ fun H2 e2 => ?_
    refine ⟨_, _, rfl, rfl, ?_, fun q nq => ?_⟩
    · have := Ls.hv_len x
      unfold Ls.hv at this
      rw [Ls.rg_len] at this
      exact Nat.le_trans this (by decide)
    · refine k q _ (fresh_back (e1.trans e2) nq) ((e1.trans e2).trans (Ex.new nq)) ?_
      rw [upd_same, rgV_rg]
      rfl
-- DEF _law_spent

def Two (H H' : Hp) (p1 p2 : Addr) : Prop := ∀ a o, a ≠ p1 → a ≠ p2 → H a = some o → H' a = some o
def sp__law_spent (K : PySem.W.Frag) : Sp := fun vs H Q _ => ∃ (t p1 p2 : Addr) (xs zs : List V), vs = [.ref t] ∧ H t = some (.tup [.ref p1, .ref p2]) ∧ H p1 = some (.lst xs) ∧ H p2 = some (.lst zs) ∧ xs.length ≤ 100 ∧ zs.length ≤ 100 ∧ ∀ H', Two H H' p1 p2 → Q .non H'

theorem ok__law_spent (T : Txt K mg) : FnOk P w K mg base CX0 1 T.f__law_spent T.fd__law_spent ["_law_got"] (sp__law_spent K) := by
  refine Fun.ok T.F__law_spent sc__law_spent (fun vs H Q E h => ?_) (fun cdv A outer s H vs Q E hr h => ?_)
  · obtain ⟨_, _, _, _, _, rfl, _⟩ := h; rfl
  · refine ⟨_, (pss_one (ps_for PassesOwn.never rfl (pi_tup (pv 0)) (pg_name (i := 1) sc__law_spent.nd rfl (by first | exact Or.inl rfl | exact Or.inr rfl))
        (pss_one (ps_if (pt_val (pe_callB (id := "isinstance") (r := rIsi K) call_isi (by rfl) T.n_isinstance (by decide +kernel) (pa_cons (pv 1) (pa_cons (pe_bltn (v := .ty "list") (by rfl) T.n_list (by decide +kernel) rfl) pa_nil))))
            (pss_cons (ps_expr (pe_bm PySem.F.plainAttrs_list PySem.F.slot_list_append PySem.F.type_list_append mt_append (pv 1) (pa_cons pe_non pa_nil)))
              (pss_one (ps_expr (pe_bm0 PySem.F.plainAttrs_list PySem.F.slot_list_reverse PySem.F.type_list_reverse mt_reverse (pv 1)))))
            pss_nil)))), ?_⟩
    obtain ⟨t, p1, p2, xs, zs, rfl, ht, h1, h2, l1, l2, k⟩ := h
    refine s_forT (xs := [.ref p1, .ref p2]) (ev_var rfl) (SqT.of ht) (fun j σ' H' => ∃ y1 : Option V, σ' = [some (.ref t), y1] ∧ Two H H' p1 p2 ∧ H' t = some (.tup [.ref p1, .ref p2]) ∧ (∃ us, H' p1 = some (.lst us) ∧ us.length ≤ 100 + j) ∧ ∃ us, H' p2 = some (.lst us) ∧ us.length ≤ 100 + j) (fun H1 e1 => ⟨_, rfl, fun a o _ _ h => e1 _ _ h, e1 _ _ ht, ⟨xs, e1 _ _ h1, l1⟩, zs, e1 _ _ h2, l2⟩) (fun j σ' H' _ ⟨_, _, _, h, _⟩ => SqT.of h) (fun j x σ' H1 hx hP => ?_) (fun σ' H1 ⟨_, _, h, _⟩ => k H1 h)
    obtain ⟨y1, rfl, b1, b2, ⟨us0, b3, b4⟩, ws, b5, b6⟩ := hP
    have hj : j < 2 := (List.getElem?_eq_some_iff.mp hx).1
    have one : ∀ (a : Addr) (us : List V), x = .ref a → (a = p1 ∨ a = p2) → H1 a = some (.lst us) → us.length ≤ 100 + j → (gName 1 : TG) x [some (.ref t), y1] H1 fun σ2 H2 => (tIfS (tB (tCB (rIsi K) (tCons (tVar 1) (tCons (tC (.ty "list")) tNil)))) (tSeq (tDrop (tBM K "list" rAppend (tVar 1) (tCons (tC .non) tNil))) (tDrop (tBM0 K "list" rReverse (tVar 1)))) tNext) { nx := fun σ' H' => ∃ y1 : Option V, σ' = [some (.ref t), y1] ∧ Two H H' p1 p2 ∧ H' t = some (.tup [.ref p1, .ref p2]) ∧ (∃ us, H' p1 = some (.lst us) ∧ us.length ≤ 100 + (j + 1)) ∧ ∃ us, H' p2 = some (.lst us) ∧ us.length ≤ 100 + (j + 1), rt := Q } σ2 H2 := fun a us ex ea ha la => by
      subst ex
      refine s_if (σ := [some (.ref t), some (.ref a)]) (et_B (ev_isi (t := "list") (b := true) (ev_var rfl) ev_c (fun H2 e => .base (.lst (e _ _ ha))) (by decide +kernel))) (fun _ H2 e2 => ?_) (fun z => nomatch z)
      refine q_app (l := a) (e2 _ _ ha) (ev_var (i := 1) rfl) ev_c (by omega) fun H3 e3 => ?_
      have e23 := e2.trans e3
      refine ⟨_, rfl, .inl ⟨rfl, _, SqL.of upd_same⟩, a, _, rfl, rfl, upd_same, _, rfl, ?_, ?_, ?_, ?_⟩
      · intro c o n1 n2 h
        have nc : c ≠ a := ea.elim (fun z => by rw [z]; exact n1) (fun z => by rw [z]; exact n2)
        rw [upd_ne nc, upd_ne nc]
        exact e23 _ _ (b1 c o n1 n2 h)
      · have nt : t ≠ a := fun z => by
          rw [z, ha] at b2
          cases b2
        rw [upd_ne nt, upd_ne nt]
        exact e23 _ _ b2
      · by_cases z : p1 = a
        · exact ⟨_, by rw [z, upd_same], by rw [List.length_reverse, List.length_append]; show us.length + 1 ≤ _; omega⟩
        · exact ⟨us0, by rw [upd_ne z, upd_ne z]; exact e23 _ _ b3, by omega⟩
      · by_cases z : p2 = a
        · exact ⟨_, by rw [z, upd_same], by rw [List.length_reverse, List.length_append]; show us.length + 1 ≤ _; omega⟩
        · exact ⟨ws, by rw [upd_ne z, upd_ne z]; exact e23 _ _ b5, by omega⟩
    match j, hj, hx with
    | 0, _, hx =>
      cases hx
      exact one p1 us0 rfl (.inl rfl) b3 b4
    | 1, _, hx =>
      cases hx
      exact one p2 ws rfl (.inr rfl) b5 b6
-- DEF _law_lists

/-- [F(z) for z in range(lo, hi)] of any size: new lists -/
theorem lc_rowsRW {ta : TA} {te : TE} {vs : List Nat} {j : Nat} {σ : L2.St} {H : Hp} {Q : VK} {lo hi : Int} (F : Int → List Int) (h : EvA ta σ H [.int lo, .int hi]) (hn : (hi - lo).toNat ≤ 1000) (hw : ∀ u, wipe ((wipe σ vs).set j (some u)) vs = wipe σ vs)
    (he : ∀ z H1, z ∈ Ls.rg lo hi → Ex H H1 → EvL te ((wipe σ vs).set j (some (.int z))) H1 ((F z).map V.int))
    (k : ∀ p as H2, H p = none → (∀ a ∈ as, H a = none) → as.Nodup → p ∉ as → Ex H H2 → Tab H2 p as ((Ls.rg lo hi).map F) → Q (.ref p) H2) : tLc (RgW.iRngW ta) (gName j) tYes te vs σ H Q := by
  refine h H (Ex.refl H) _ fun H1 e1 => ⟨lo, hi, rfl, fun D hD => ?_⟩
  have hDH := fresh_back e1 hD
  have at_ : ∀ {i : Nat}, i < (hi - lo).toNat → (Ls.rg lo hi)[i]? = some (lo + (i : Int)) := fun h => by
    unfold Ls.rg
    rw [List.getElem?_map, List.getElem?_range h]
    rfl
  refine lc_range (lo := lo) (n := (hi - lo).toNat) (fun i H' => ∃ as, Ex H H' ∧ H' D = some (.lst (as.map V.ref)) ∧ RowsAt H' as (((Ls.rg lo hi).take i).map F) ∧ (∀ a ∈ as, H a = none) ∧ as.Nodup ∧ D ∉ as) ⟨[], e1.trans (Ex.new hD), upd_same, .nil, fun a ha => (nomatch ha), List.nodup_nil, fun z => nomatch z⟩ (fun i H' hi' p => ?_) (fun H' p => ?_)
  · obtain ⟨as, p1, p2, p3, p4, p5, p6⟩ := p
    have hy := at_ hi'
    have el : as.length = i := by rw [Paired.length p3, List.length_map, List.length_take, Ls.rg_len]; omega
    refine ⟨hw _, ?_⟩
    dsimp only [tYes]
    rw [if_pos rfl]
    refine he _ H' (List.mem_of_getElem? hy) p1 H' (Ex.refl _) _ fun r H4 nr e4 hr => ?_
    have nrD : r ≠ D := fun z => by
      rw [z, p2] at nr
      cases nr
    refine ⟨_, e4 _ _ p2, ?_, as ++ [r], Ex.mut (p1.trans e4) hDH, ?_, ?_, ?_, ?_, ?_⟩
    · rw [List.length_map, el]
      exact small1000 (by omega)
    · rw [upd_same, List.map_append]
      rfl
    · rw [take_snoc hy, List.map_append]
      refine paired_snoc (rows_but p3 fun b hb o g => ?_) ?_
      · rw [upd_ne (fun z => p6 (by rw [← z]; exact hb))]
        exact e4 _ _ g
      · rw [upd_ne nrD]
        exact hr
    · intro b hb
      rcases List.mem_append.mp hb with h | h
      · exact p4 b h
      · rw [List.mem_singleton.mp h]
        exact fresh_back p1 nr
    · refine List.nodup_append.mpr ⟨p5, by simp, fun b hb c hc z => ?_⟩
      have : c = r := by simpa using hc
      have hb' : r ∈ as := by rw [← this, ← z]; exact hb
      obtain ⟨x, _, hx'⟩ := paired_mem p3 hb'
      rw [nr] at hx'
      cases hx'
    · intro hb
      rcases List.mem_append.mp hb with h | h
      · exact p6 h
      · exact nrD (List.mem_singleton.mp h).symm
  · obtain ⟨as, p1, p2, p3, p4, p5, p6⟩ := p
    rw [List.take_of_length_le (by rw [Ls.rg_len]; omega)] at p3
    exact k D as H' hDH p4 p5 p6 p1 ⟨p2, p3⟩
def choicesOf (los his : List Int) : List (List Int) := List.zipWith (fun lo hi => Ls.rg lo (hi + 1)) los his
def sp__law_lists (K : PySem.W.Frag) : Sp := fun vs H Q _ => ∃ (p q : Addr) (los his : List Int), vs = [.ref p, .ref q] ∧ H p = some (.lst (los.map V.int)) ∧ H q = some (.lst (his.map V.int)) ∧ los.length = his.length ∧ los.length ≤ 8 ∧ (∀ c ∈ choicesOf los his, c.length ≤ 2) ∧
  ∀ d bs H', H d = none → Ex H H' → Tab H' d bs (Ls.allL (choicesOf los his)) → Q (.ref d) H'

theorem ok__law_lists (T : Txt K mg) : FnOk P w K mg base CX0 1 T.f__law_lists T.fd__law_lists ["_law_lows", "_law_highs"] (sp__law_lists K) := by
  refine Fun.ok T.F__law_lists sc__law_lists (fun vs H Q E h => ?_) (fun cdv A outer s H vs Q E hr h => ?_)
  · obtain ⟨_, _, _, _, rfl, _⟩ := h; rfl
  · refine ⟨_, (pss_cut (ps_set (i := 2) sc__law_lists.nd rfl (by first | exact Or.inl rfl | exact Or.inr rfl) (pe_lst (pa_cons (pe_lst pa_nil) pa_nil)))
      (pss_cons (ps_for PassesOwn.never rfl (pi_zip (by rfl) T.n_zip (pa_cons (pv 0) (pa_cons (pv 1) pa_nil))) (pg_tup rfl (pgs_cons (pg_name (i := 3) sc__law_lists.nd rfl (by first | exact Or.inl rfl | exact Or.inr rfl)) (pgs_cons (pg_name (i := 4) sc__law_lists.nd rfl (by first | exact Or.inl rfl | exact Or.inr rfl)) pgs_nil)))
        (pss_cut (ps_set (i := 5) sc__law_lists.nd rfl (by first | exact Or.inl rfl | exact Or.inr rfl) (pe_lst pa_nil))
          (pss_cons (ps_for PassesOwn.never rfl (pi_list (pv 2)) (pg_name (i := 6) sc__law_lists.nd rfl (by first | exact Or.inl rfl | exact Or.inr rfl))
            (pss_one (ps_set (i := 5) sc__law_lists.nd rfl (by first | exact Or.inl rfl | exact Or.inr rfl) (pe_op op_cat (pv 5) (pe_lc (own := [("_law_number", 7)]) (g := gName 7) (tt := tYes) rfl sc__law_lists.nd (RgW.pi_rangeW (by rfl) T.n_range (pa_cons (pv 3) (pa_cons (pe_op op_add (pv 4) pe_int) pa_nil))) (blkOk_by (N := ["_law_lows", "_law_highs", "_law_found", "_law_low", "_law_high", "_law_longer", "_law_one_here", "_law_number"]) (sc := (defScope s__law_lists)) (by decide +kernel)) (fun _ _ _ _ _ => pg_name (i := 7) sc__law_lists.nd rfl (Or.inl rfl)) (fun _ _ _ _ _ => pts_nil) (fun _ _ _ _ _ => (pe_op op_cat (pv 6) (pe_lst (pa_cons (pv 7) pa_nil)))))))))
          (pss_one (ps_set (i := 2) sc__law_lists.nd rfl (by first | exact Or.inl rfl | exact Or.inr rfl) (pv 5))))))
      (pss_one (ps_ret (pv 2))))), ?_⟩
    obtain ⟨p, q, los, his, rfl, hp, hq, hl, h8, hc, k⟩ := h
    have cl : (choicesOf los his).length = los.length := by
      unfold choicesOf
      rw [List.length_zipWith]
      omega
    refine ⟨fun σ' H' => ∃ (pf : Addr) (bs : List Addr), σ' = [some (.ref p), some (.ref q), some (.ref pf), none, none, none, none, none] ∧ Ex H H' ∧ H pf = none ∧ Tab H' pf bs [[]], ?_, ?_⟩
    · exact ⟨Nat.zero_le _, fun l nl => ⟨(by show 1 ≤ sizeLine; decide), fun t nt => ⟨t, [l], rfl, (Ex.new nl).trans (Ex.new nt), fresh_back (Ex.new nl) nt, upd_same, .cons (Ex.new nt _ _ upd_same) .nil⟩⟩⟩
    rintro σ' H1 ⟨pf, bs, rfl, e1, nf, hf⟩
    refine ⟨_, rfl, _, rfl, p, q, _, _, rfl, SqL.of (e1 _ _ hp), SqL.of (e1 _ _ hq), ?_⟩
    refine RZ.for_zipL (K := K) (xs := los.map V.int) (ys := his.map V.int) (by rw [List.length_map, List.length_map, hl]) (fun i σ' H' => ∃ (pf : Addr) (bs : List Addr) (y3 y4 y5 y6 : Option V), σ' = [some (.ref p), some (.ref q), some (.ref pf), y3, y4, y5, y6, none] ∧ Ex H H' ∧ H pf = none ∧ Tab H' pf bs (Ls.allL ((choicesOf los his).take i))) ⟨pf, bs, _, _, _, _, rfl, e1, nf, hf⟩ (fun i σ' H' ⟨_, _, _, _, _, _, _, h, _⟩ => ⟨SqL.of (h _ _ hp), SqL.of (h _ _ hq)⟩) (fun i x y T σ' H2 hx hy hP nT => ?_) (fun σ' H2 hP => ?_)
    rotate_left
    · obtain ⟨pf, bs, y3, y4, y5, y6, rfl, e2, nf, hf⟩ := hP
      rw [List.length_map, ← cl, List.take_length] at hf
      exact ⟨_, rfl, k pf bs H2 nf e2 hf⟩
    obtain ⟨pf, bs, y3, y4, y5, y6, rfl, e2, nf, hf⟩ := hP
    rw [List.getElem?_map] at hx hy
    obtain ⟨lo, hlo, rfl⟩ := Option.map_eq_some_iff.mp hx
    obtain ⟨hi, hhi, rfl⟩ := Option.map_eq_some_iff.mp hy
    have hch : (choicesOf los his)[i]? = some (Ls.rg lo (hi + 1)) := by
      unfold choicesOf
      rw [List.getElem?_zipWith, hlo, hhi]
    have c2 := hc _ (List.mem_of_getElem? hch)
    have i8 := (List.getElem?_eq_some_iff.mp hch).1
    have l1 : (Ls.allL ((choicesOf los his).take i)).length ≤ 256 := by
      refine Nat.le_trans (Ls.allL_len (b := 2) fun c h => hc c (List.mem_of_mem_take h)) (Nat.le_trans (Nat.pow_le_pow_right (by decide) (show _ ≤ 8 from ?_)) (by decide))
      rw [List.length_take]
      omega
    have xt := Ex.new (o := .tup [V.int lo, .int hi]) nT
    refine ⟨T, _, rfl, SqT.of upd_same, rfl, _, _, rfl, _, _, rfl, rfl, ?_⟩
    have e2t := e2.trans xt
    replace hf := hf.ex xt
    refine ⟨fun σ' H' => ∃ pl, σ' = [some (.ref p), some (.ref q), some (.ref pf), some (.int lo), some (.int hi), some (.ref pl), y6, none] ∧ Ex (upd H2 T (.tup [.int lo, .int hi])) H' ∧ H pl = none ∧ H' pl = some (.lst []), ?_, ?_⟩
    · exact s_asgL (el_lst (vs := []) ea_nil (Nat.le_of_ble_eq_true rfl)) fun pl H3 nl e3 h3 => ⟨pl, rfl, e3, fresh_back e2t nl, h3⟩
    rintro σ' H3 ⟨pl, rfl, e3, nl, hpl⟩
    replace e2t := e2t.trans e3
    replace hf := hf.ex e3
    have bl : bs.length = (Ls.allL ((choicesOf los his).take i)).length := Paired.length hf.2
    refine q_forL (xs := bs.map V.ref) (ev_var (i := 2) rfl) (SqL.of hf.1) (fun a σ' H' => ∃ (pl : Addr) (cs : List Addr) (y6 : Option V), σ' = [some (.ref p), some (.ref q), some (.ref pf), some (.int lo), some (.int hi), some (.ref pl), y6, none] ∧ Ex H H' ∧ Ex H3 H' ∧ H pl = none ∧ Tab H' pl cs (((Ls.allL ((choicesOf los his).take i)).take a).flatMap fun r => (Ls.rg lo (hi + 1)).map fun z => r ++ [z])) (fun H4 e4 => ⟨pl, [], _, rfl, e2t.trans e4, e4, nl, e4 _ _ hpl, .nil⟩) (fun a σ' H' _ ⟨_, _, _, _, _, h, _⟩ => SqL.of (h _ _ hf.1)) (fun a x σ' H4 hx hP => ?_) (fun σ' H4 hP => ?_)
    · obtain ⟨pl, cs, y6, rfl, e4, e34, nl, hcs⟩ := hP
      rw [List.getElem?_map] at hx
      obtain ⟨b, hb, rfl⟩ := Option.map_eq_some_iff.mp hx
      obtain ⟨r, hr, hh⟩ := paired_get hf.2 hb
      have la := (List.getElem?_eq_some_iff.mp hr).1
      have lr : r.length ≤ 8 := by
        rw [Paired.length (Ls.allL_each _ _ rfl r (List.mem_of_getElem? hr)), List.length_take]
        omega
      have lcs : cs.length ≤ 600 := by
        rw [Paired.length hcs.2]
        have : ∀ (L : List (List Int)), L.length ≤ 256 → (L.flatMap fun r => (Ls.rg lo (hi + 1)).map fun z => r ++ [z]).length ≤ L.length * 2 := by
          intro L _
          have := Ls.grow_len L (Ls.rg lo (hi + 1))
          unfold Ls.grow at this
          rw [this]
          exact Nat.mul_le_mul_left _ c2
        have h2 := this ((Ls.allL ((choicesOf los his).take i)).take a) (by rw [List.length_take]; omega)
        rw [List.length_take] at h2
        omega
      show tAsg _ (gName 5) _ [some (.ref p), some (.ref q), some (.ref pf), some (.int lo), some (.int hi), some (.ref pl), some (.ref b), none] H4
      refine ⟨_, rfl, ?_⟩
      refine lc_rowsRW (σ := [some (.ref p), some (.ref q), some (.ref pf), some (.int lo), some (.int hi), some (.ref pl), some (.ref b), none]) (F := fun z => r ++ [z]) (ea_cons (ev_var (i := 3) rfl) (ea_cons (ev_op (ev_var (i := 4) rfl) ev_c rv_I0) ea_nil)) (by rw [← Ls.rg_len]; omega) (fun u => rfl) (fun z H5 hz e5 => ?_) (fun d ds H5 nd nds _ _ e5 hd => ⟨pl, d, _, _, rfl, rfl, e5 _ _ hcs.1, hd.1, ?_, fun u nu => ?_⟩)
      · rw [List.map_append]
        exact el_catVL (ev_var rfl) ((e34.trans e5) _ _ hh) (el_lst (vs := [.int z]) (ea_cons (ev_var rfl) ea_nil) (Nat.le_of_ble_eq_true rfl)) (by rw [List.length_map]; show _ + 1 ≤ 100000; omega)
      · have := Paired.length hd.2
        rw [List.length_map] at this
        rw [List.length_map, List.length_map]
        exact sz_of (by omega)
      · have xu := Ex.new (o := .lst (cs.map V.ref ++ ds.map V.ref)) nu
        refine ⟨u, cs ++ ds, _, rfl, (e4.trans e5).trans xu, (e34.trans e5).trans xu, fresh_back (e4.trans e5) nu, ?_, ?_⟩
        · rw [upd_same, List.map_append]
        · rw [take_snoc hr, List.flatMap_append, List.flatMap_cons, List.flatMap_nil, List.append_nil]
          exact paired_app (hcs.2.ex (e5.trans xu)) (hd.2.ex xu)
    · obtain ⟨pl, cs, y6, rfl, e4, e34, nl, hcs⟩ := hP
      rw [List.length_map, bl, List.take_length] at hcs
      refine s_asg (ev_var (i := 5) rfl) fun H5 e5 => ⟨pl, cs, _, _, _, _, rfl, e4.trans e5, nl, ?_⟩
      rw [take_snoc hch, Ls.allL_snoc]
      exact hcs.ex e5
-- DEF _law_whole_sums

def sp__law_whole_sums (K : PySem.W.Frag) : Sp := fun vs H Q _ => ∃ (p q : Addr) (as : List Addr) (rows : List (List Int)) (zs : List Int), vs = [.ref p, .ref q] ∧ Tab H p as rows ∧ rows.length ≤ 8 ∧ (∀ r ∈ rows, r.length = zs.length ∧ ∀ y ∈ r, Bd 110 y) ∧ zs.length ≤ 8 ∧ H q = some (.lst (zs.map V.int)) ∧ (∀ z ∈ zs, Bd 110 z) ∧
  ∀ d H', H d = none → Ex H H' → H' d = some (.lst ((Ls.totals rows zs).map V.int)) → Q (.ref d) H'

theorem ok__law_whole_sums (T : Txt K mg) : FnOk P w K mg base CX0 1 T.f__law_whole_sums T.fd__law_whole_sums ["_law_table_here", "_law_xs"] (sp__law_whole_sums K) := by
  refine Fun.ok T.F__law_whole_sums sc__law_whole_sums (fun vs H Q E h => ?_) (fun cdv A outer s H vs Q E hr h => ?_)
  · obtain ⟨_, _, _, _, _, rfl, _⟩ := h; rfl
  · refine ⟨_, (pss_one (ps_ret (pe_lc (own := [("_law_row", 2)]) (wi := iList K _) (g := gName 2) (tt := tYes) rfl sc__law_whole_sums.nd (pi_list (pv 0)) (blkOk_by (N := ["_law_table_here", "_law_xs", "_law_row", "_law_a", "_law_b"]) (sc := (defScope s__law_whole_sums)) (by decide +kernel)) (fun _ _ _ _ _ => pg_name (i := 2) sc__law_whole_sums.nd rfl (Or.inl rfl)) (fun _ _ _ _ _ => pts_nil) (fun _ _ _ _ _ => (pe_callB (id := "sum") (r := rSum K) (cr_sum rfl) (by rfl) T.n_sum (by decide +kernel) (pa_cons (pe_lc (own := [("_law_a", 3), ("_law_b", 4)]) (wi := iZip K _) (g := gTup K 2 (gCons (gName 3) (gCons (gName 4) gNil))) (tt := tYes) rfl sc__law_whole_sums.nd (pi_zip (by rfl) T.n_zip (pa_cons (pv 2) (pa_cons (pv 1) pa_nil))) (blkOk_by (N := ["_law_table_here", "_law_xs", "_law_row", "_law_a", "_law_b"]) (sc := (relS ({ kind := .function, names := [(".0", .local), ("_law_row", .local), ("sum", .globalImplicit), ("zip", .globalImplicit), ("_law_xs", .free)], isGenerator := false, isCoroutine := false } : Scope) (defScope s__law_whole_sums))) (by decide +kernel)) (fun _ _ _ _ _ => (pg_tup rfl (pgs_cons (pg_name (i := 3) sc__law_whole_sums.nd rfl (Or.inl rfl)) (pgs_cons (pg_name (i := 4) sc__law_whole_sums.nd rfl (Or.inl rfl)) pgs_nil)))) (fun _ _ _ _ _ => pts_nil) (fun _ _ _ _ _ => (pe_op op_mulW (pv 3) (pv 4)))) pa_nil)))))), ?_⟩
    obtain ⟨p, q, as, rows, zs, rfl, hT, m8, hr, z8, hq, hz, k⟩ := h
    refine s_retL (el_col (K := K) (n := 0) (f := fun r => Ls.dot r zs) rfl hT.1 hT.2 (by omega) (fun u => rfl) fun b r H1 hr' hb e1 => ?_) fun d H1 nd e1 hd => k d H1 nd e1 hd
    refine ev_sumL (el_zip (K := K) (f := (· * ·)) (ea_cons (ev_var rfl) (ea_cons (ev_var rfl) ea_nil)) (SqL.of (e1 _ _ hb)) (SqL.of (e1 _ _ hq)) (hr r hr').1 (by have := (hr r hr').1; omega) (fun u v => rfl) fun x y H2 hx hy e2 => ?_)
    exact ev_op (ev_var rfl) (ev_var rfl) (rv_I (((hr r hr').2 x hx).mulOk (hz y hy)))
-- DEF is_numbers

def sp_is_numbers (K : PySem.W.Frag) : Sp := fun vs H Q _ => ∃ (a : Addr) (ns : List Int) (n : Int), vs = [.ref a, .int n] ∧ H a = some (.lst (ns.map V.int)) ∧ (ns.length : Int) = n ∧ ns.length ≤ 100 ∧ ∀ H', Ex H H' → Q (.bl true) H'

theorem ok_is_numbers (T : Txt K mg) : FnOk P w K mg base CX0 2 T.f_is_numbers T.fd_is_numbers ["thing", "many"] (sp_is_numbers K) := by
  refine Fun.ok T.F_is_numbers sc_is_numbers (fun vs H Q E h => ?_) (fun cdv A outer s H vs Q E hr h => ?_)
  · obtain ⟨_, _, _, rfl, _⟩ := h; rfl
  · refine ⟨_, (pss_one (ps_ret (pe_and (pe_call (ok_is_long T) hr (by rfl) T.g_is_long T.k_is_long T.b_is_long .nil pass0 (pa_cons (pv 0) (pa_cons (pv 1) pa_nil))) (pe_one (pe_callB (id := "all") (r := rAll K) (cr_all rfl) (by rfl) T.n_all (by decide +kernel) (pa_cons (pe_lc (own := [("number", 2)]) (wi := iList K _) (g := gName 2) (tt := tYes) rfl sc_is_numbers.nd (pi_list (pv 0)) (blkOk_by (N := ["thing", "many", "number"]) (sc := (defScope s_is_numbers)) (by decide +kernel)) (fun _ _ _ _ _ => pg_name (i := 2) sc_is_numbers.nd rfl (Or.inl rfl)) (fun _ _ _ _ _ => pts_nil) (fun _ _ _ _ _ => (pe_call (ok_is_whole T) hr (by rfl) T.g_is_whole T.k_is_whole T.b_is_whole .nil pass0 (pa_cons (pv 2) pa_nil)))) pa_nil)))))), ?_⟩
    obtain ⟨a, ns, n, rfl, ha, hl, h8, k⟩ := h
    refine s_ret (ev_andV (a := true) (b := true) (ev_fn (sp := sp_is_long K) (ea_cons (ev_var rfl) (ea_cons (ev_var rfl) ea_nil)) fun H3 e3 Q3 q3 => ⟨a, _, n, rfl, e3 _ _ ha, by rw [List.length_map]; exact hl, q3⟩) (fun _ => ev_all (el_yes (a := a) rfl ha (by rw [List.length_map]; omega) (fun x H' hx e => ?_) (fun x => rfl)))) fun H' e => k H' e
    obtain ⟨y, _, rfl⟩ := List.mem_map.mp hx
    exact ev_fn (ea_cons (ev_var rfl) ea_nil) fun H3 e3 Q3 q3 => ⟨_, "int", rfl, .base (.int _), .inl rfl, q3 H3 (Ex.refl _)⟩
-- DEF _law_out

theorem el_mapNL {K : PySem.W.Frag} {tl te : TE} {vs : List Nat} {j : Nat} {σ : L2.St} {H : Hp} {qs : List Int} (f : Int → Int) (h : EvL tl σ H (qs.map V.int)) (hz : qs.length ≤ 1000) (hw : ∀ x, wipe ((wipe σ vs).set j (some x)) vs = wipe σ vs)
    (he : ∀ y H1, y ∈ qs → Ex H H1 → Ev te ((wipe σ vs).set j (some (.int y))) H1 (.int (f y))) : EvL (tLc (iList K tl) (gName j) tYes te vs) σ H ((qs.map f).map V.int) := by
  have g := el_lcNL (K := K) (t := tYes) (te := te) (j := j) (vs := vs) (σ := σ) (H := H) (fun _ => true) (fun i => .int (f (qs[i]?.getD 0))) h (by rw [List.length_map]; omega) hw (fun i x H1 e hx Hx ex Qx qx => qx Hx (Ex.refl _)) (fun i x H1 e hx _ => by
    rw [List.getElem?_map] at hx
    obtain ⟨y, hy, rfl⟩ := Option.map_eq_some_iff.mp hx
    rw [hy]
    exact he y H1 (List.mem_of_getElem? hy) e)
  have eg : given (qs.map V.int).length (fun _ => true) (fun i => V.int (f (qs[i]?.getD 0))) = (qs.map f).map V.int := by
    unfold given
    rw [List.length_map, List.filter_eq_self.mpr (fun _ _ => rfl), List.map_map]
    refine List.ext_getElem (by rw [List.length_map, List.length_map, List.length_range]) fun i h1 h2 => ?_
    rw [List.length_map, List.length_range] at h1
    rw [List.getElem_map, List.getElem_map, List.getElem_range, List.getElem?_eq_getElem h1]
    rfl
  rw [eg] at g
  exact g
theorem s_retMax {K : PySem.W.Frag} {te : TE} {D : Ends} {σ : L2.St} {H : Hp} {ns : List Int} (h : EvL te σ H (ns.map V.int)) (hn : 0 < ns.length) (k : ∀ m H1, Ex H H1 → m ∈ ns → (∀ y ∈ ns, y ≤ m) → D.rt (.int m) H1) : tRet (tCB (rMax K) (tCons te tNil)) D σ H := h H (Ex.refl H) _ fun d H1 nd e1 hd => ⟨d, ns, rfl, SqL.of hd, hn, fun m hm hle => k m H1 e1 hm hle⟩
def sp__law_out (K : PySem.W.Frag) : Sp := fun vs H Q _ => ∃ (p q : Addr) (as : List Addr) (rows : List (List Int)) (zs : List Int), vs = [.ref p, .ref q] ∧ Tab H p as rows ∧ 1 ≤ rows.length ∧ rows.length ≤ 8 ∧ (∀ r ∈ rows, r.length = zs.length ∧ ∀ y ∈ r, Bd 110 y) ∧ zs.length ≤ 8 ∧ H q = some (.lst (zs.map V.int)) ∧ (∀ z ∈ zs, Bd 110 z) ∧
  ∀ m H', Ex H H' → decide (m ≤ 1) = Ls.smallB (Ls.totals rows zs) → Q (.int m) H'

theorem ok__law_out (T : Txt K mg) : FnOk P w K mg base CX0 2 T.f__law_out T.fd__law_out ["_law_table_here", "_law_signs"] (sp__law_out K) := by
  refine Fun.ok T.F__law_out sc__law_out (fun vs H Q E h => ?_) (fun cdv A outer s H vs Q E hr h => ?_)
  · obtain ⟨_, _, _, _, _, rfl, _⟩ := h; rfl
  · refine ⟨_, (pss_one (ps_ret (pe_callB (id := "max") (r := rMax K) (cr_max rfl) (by rfl) T.n_max (by decide +kernel) (pa_cons (pe_lc (own := [("_law_one_here", 2)]) (wi := iList K _) (g := gName 2) (tt := tYes) rfl sc__law_out.nd (pi_list (pe_call (ok__law_whole_sums T) hr (by rfl) T.g__law_whole_sums T.k__law_whole_sums T.b__law_whole_sums .nil pass0 (pa_cons (pv 0) (pa_cons (pv 1) pa_nil)))) (blkOk_by (N := ["_law_table_here", "_law_signs", "_law_one_here"]) (sc := (defScope s__law_out)) (by decide +kernel)) (fun _ _ _ _ _ => pg_name (i := 2) sc__law_out.nd rfl (Or.inl rfl)) (fun _ _ _ _ _ => pts_nil) (fun _ _ _ _ _ => (pe_callB (id := "abs") call_abs (by rfl) T.n_abs (by decide +kernel) (pa_cons (pv 2) pa_nil)))) pa_nil)))), ?_⟩
    obtain ⟨p, q, as, rows, zs, rfl, hT, m1, m8, hr, z8, hq, hz, k⟩ := h
    have lt : (Ls.totals rows zs).length = rows.length := by unfold Ls.totals; rw [List.length_map]
    refine s_retMax (ns := (Ls.totals rows zs).map Ls.absI) (el_mapNL (K := K) (qs := Ls.totals rows zs) Ls.absI (el_call (ea_cons (ev_var rfl) (ea_cons (ev_var rfl) ea_nil)) fun H1 e1 Q1 q1 E1 => ⟨p, q, as, rows, zs, rfl, hT.ex e1, m8, hr, z8, e1 _ _ hq, hz, q1⟩) (by omega) (fun u => rfl) (fun y H1 hy e1 H2 e2 Q2 q2 => ⟨_, rfl, _, rfl, q2 H2 (Ex.refl _)⟩)) (by rw [List.length_map]; omega) fun m H1 e1 hm hle => k m H1 e1 (Ls.small_max (fun z => ?_) hm hle)
    rw [z] at lt
    simp at lt
    omega
-- DEF check_numbers

def sp_check_numbers (K : PySem.W.Frag) : Sp := fun vs H Q _ => ∃ (a : Addr) (ns : List Int) (n : Int) (z : Str), vs = [.ref a, .int n, .str z] ∧ H a = some (.lst (ns.map V.int)) ∧ (ns.length : Int) = n ∧ ns.length ≤ 100 ∧ ∀ H', Ex H H' → Q .non H'

theorem ok_check_numbers (T : Txt K mg) : FnOk P w K mg base CX0 3 T.f_check_numbers T.fd_check_numbers ["thing", "many", "word"] (sp_check_numbers K) := by
  refine Fun.ok T.F_check_numbers sc_check_numbers (fun vs H Q E h => ?_) (fun cdv A outer s H vs Q E hr h => ?_)
  · obtain ⟨_, _, _, _, rfl, _⟩ := h; rfl
  · refine ⟨_, (pss_one (ps_if (pt_not (pt_val (pe_call (ok_is_numbers T) hr (by rfl) T.g_is_numbers T.k_is_numbers T.b_is_numbers .nil pass0 (pa_cons (pv 0) (pa_cons (pv 1) pa_nil)))))
        (pss_one ps_never)
        pss_nil)), ?_⟩
    obtain ⟨a, ns, n, z, rfl, ha, hl, h8, k⟩ := h
    exact s_when (b := false) (et_is (et_not (et_B (b := true) (ev_fn (sp := sp_is_numbers K) (ea_cons (ev_var rfl) (ea_cons (ev_var rfl) ea_nil)) fun H3 e3 Q3 q3 => ⟨a, ns, n, rfl, e3 _ _ ha, hl, h8, q3⟩))) rfl) (fun z => nomatch z) fun _ H1 e1 => k H1 e1
-- DEF _law_halves

theorem pr_zip {R : Int → Int → Prop} {P : Int → Prop} {f : Int → Int → Int} (h : ∀ a b, R a b → P (f a b)) : ∀ {xs ys : List Int}, Paired R xs ys → ∀ z ∈ List.zipWith f xs ys, P z
  | _, _, .nil, z, hz => nomatch hz
  | _, _, .cons r t, z, hz => by
    rw [List.zipWith_cons_cons] at hz
    rcases List.mem_cons.mp hz with rfl | hz
    · exact h _ _ r
    · exact pr_zip h t z hz
theorem each_half : ∀ {xs zs : List Int}, Paired (fun (y : Int) (c : List Int) => y ∈ c) zs (xs.map Ls.hv) → Paired (fun (z x : Int) => x / 2 ≤ z ∧ z ≤ x - x / 2) zs xs
  | [], _, .nil => .nil
  | x :: xs, _, .cons h t => .cons (Ls.hv_mem h) (each_half t)
theorem half_ok {xs zs : List Int} (h : zs ∈ Ls.allL (xs.map Ls.hv)) (hb : ∀ x ∈ xs, Bd 100 x) : zs.length = xs.length ∧ (Ls.otherOf xs zs).length = xs.length ∧ (Ls.gapsOf xs zs).length = xs.length ∧ ∀ g ∈ Ls.gapsOf xs zs, Bd 110 g := by
  have p := each_half (Ls.allL_each _ _ rfl zs h)
  have l1 := Paired.length p
  have l2 : (Ls.otherOf xs zs).length = xs.length := by unfold Ls.otherOf; rw [List.length_zipWith]; omega
  refine ⟨l1, l2, by unfold Ls.gapsOf; rw [List.length_zipWith]; omega, fun g hg => ?_⟩
  have key : ∀ {xs zs : List Int}, Paired (fun (z x : Int) => x / 2 ≤ z ∧ z ≤ x - x / 2) zs xs → ∀ g ∈ Ls.gapsOf xs zs, -1 ≤ g ∧ g ≤ 1 := by
    intro xs zs p
    induction p with
    | nil => intro g hg; exact nomatch hg
    | cons r t ih =>
      rename_i z x zs xs
      intro g hg
      unfold Ls.gapsOf Ls.otherOf at hg
      rw [List.zipWith_cons_cons, List.zipWith_cons_cons] at hg
      rcases List.mem_cons.mp hg with rfl | hg
      · omega
      · exact ih g hg
  have := key p g hg
  unfold Bd
  exact Nat.lt_of_le_of_lt (show g.natAbs ≤ 1 by omega) (by decide +kernel)
/-- two halves told, new ones -/
def HalfAt (H0 H : Hp) (v : V) (xs : List Int) (o : Option (List Int)) : Prop := match o with
  | none => v = .non
  | some z => ∃ t p1 p2, v = .ref t ∧ H t = some (.tup [.ref p1, .ref p2]) ∧ H p1 = some (.lst (z.map V.int)) ∧ H p2 = some (.lst ((Ls.otherOf xs z).map V.int)) ∧ H0 p1 = none ∧ H0 p2 = none
theorem for_call {K : PySem.W.Frag} {sp : Sp} {E : XK} {te : TE} {g : TG} {tb : TS} {D : Ends} {σ : L2.St} {H : Hp} (h : te σ H fun v H1 => sp [v] H1 (fun v2 H2 => tFor (iList K (tC v2)) g tb D σ H2) E) : tFor (iList K (tCall sp [] E (tCons te tNil))) g tb D σ H := h
theorem mem_rows {α β : Type} {R : α → β → Prop} {xs : List α} {ys : List β} (h : Paired R xs ys) {y : β} (hy : y ∈ ys) : ∃ x ∈ xs, R x y := by
  induction h with
  | nil => exact nomatch hy
  | cons r t ih =>
    rcases List.mem_cons.mp hy with rfl | hy
    · exact ⟨_, .head _, r⟩
    · obtain ⟨x, hx, rx⟩ := ih hy
      exact ⟨x, .tail _ hx, rx⟩

theorem for_call2 {K : PySem.W.Frag} {sp : Sp} {E : XK} {ta te : TE} {g : TG} {tb : TS} {D : Ends} {σ : L2.St} {H : Hp} (h : ta σ H fun v H1 => te σ H1 fun u H2 => sp [v, u] H2 (fun v2 H3 => tFor (iList K (tC v2)) g tb D σ H3) E) : tFor (iList K (tCall sp [] E (tCons ta (tCons te tNil)))) g tb D σ H := h
theorem choices_hv : ∀ xs : List Int, choicesOf (xs.map fun x => x / 2) (xs.map fun x => x / 2 + x % 2) = xs.map Ls.hv
  | [] => rfl
  | x :: xs => by
    have := choices_hv xs
    unfold choicesOf at this ⊢
    rw [List.map_cons, List.map_cons, List.zipWith_cons_cons, this, List.map_cons, Ls.hv_law]
def sp__law_halves (K : PySem.W.Frag) : Sp := fun vs H Q _ => ∃ (p q : Addr) (as : List Addr) (rows : List (List Int)) (m w : Nat) (xs : List Int), vs = [.ref p, .ref q] ∧ TabOk H p as rows m w ∧ (∀ r ∈ rows, ∀ y ∈ r, Bd 110 y) ∧ H q = some (.lst (xs.map V.int)) ∧ xs.length = w ∧ (∀ x ∈ xs, Bd 100 x) ∧
  ∀ v H', Ex H H' → HalfAt (fun _ => none) H' v xs (Ls.halfOf rows xs) → Q v H'

theorem ok__law_halves (T : Txt K mg) : FnOk P w K mg base CX0 3 T.f__law_halves T.fd__law_halves ["_law_table_here", "_law_xs"] (sp__law_halves K) := by
  refine Fun.ok T.F__law_halves sc__law_halves (fun vs H Q E h => ?_) (fun cdv A outer s H vs Q E hr h => ?_)
  · obtain ⟨_, _, _, _, _, _, _, rfl, _⟩ := h; rfl
  · refine ⟨_, (pss_cons (ps_for PassesOwn.never rfl (pi_list (pe_call (ok__law_lists T) (hr.mono (by decide)) (by rfl) T.g__law_lists T.k__law_lists T.b__law_lists .nil pass0 (pa_cons (pe_lc (own := [("_law_x", 4)]) (wi := iList K _) (g := gName 4) (tt := tYes) rfl sc__law_halves.nd (pi_list (pv 1)) (blkOk_by (N := ["_law_table_here", "_law_xs", "_law_one_here", "_law_other", "_law_x", "_law_z", "_law_y"]) (sc := (defScope s__law_halves)) (by decide +kernel)) (fun _ _ _ _ _ => pg_name (i := 4) sc__law_halves.nd rfl (Or.inl rfl)) (fun _ _ _ _ _ => pts_nil) (fun _ _ _ _ _ => (pe_op op_fdivW (pv 4) pe_int))) (pa_cons (pe_lc (own := [("_law_x", 4)]) (wi := iList K _) (g := gName 4) (tt := tYes) rfl sc__law_halves.nd (pi_list (pv 1)) (blkOk_by (N := ["_law_table_here", "_law_xs", "_law_one_here", "_law_other", "_law_x", "_law_z", "_law_y"]) (sc := (defScope s__law_halves)) (by decide +kernel)) (fun _ _ _ _ _ => pg_name (i := 4) sc__law_halves.nd rfl (Or.inl rfl)) (fun _ _ _ _ _ => pts_nil) (fun _ _ _ _ _ => (pe_op op_add (pe_op op_fdivW (pv 4) pe_int) (pe_op op_mod (pv 4) pe_int)))) pa_nil)))) (pg_name (i := 2) sc__law_halves.nd rfl (by first | exact Or.inl rfl | exact Or.inr rfl))
        (pss_cut (ps_setLc (i := 3) (own := [("_law_x", 4), ("_law_z", 5)]) (wi := iZip K _) (g := gTup K 2 (gCons (gName 4) (gCons (gName 5) gNil))) (tt := tYes) rfl sc__law_halves.nd rfl rfl (sw_true rfl rfl rfl (by decide +kernel)) (pi_zip (by rfl) T.n_zip (pa_cons (pv 1) (pa_cons (pv 2) pa_nil))) (blkOk_by (N := ["_law_table_here", "_law_xs", "_law_one_here", "_law_other", "_law_x", "_law_z", "_law_y"]) (sc := (defScope s__law_halves)) (by decide +kernel)) (fun _ _ _ _ _ => (pg_tup rfl (pgs_cons (pg_name (i := 4) sc__law_halves.nd rfl (Or.inl rfl)) (pgs_cons (pg_name (i := 5) sc__law_halves.nd rfl (Or.inl rfl)) pgs_nil)))) (fun _ _ _ _ _ => pts_nil) (fun _ _ _ _ _ => (pe_op op_sub (pv 4) (pv 5))))
          (pss_one (ps_if (pt_cmpR op_le (pe_call (ok__law_out T) hr (by rfl) T.g__law_out T.k__law_out T.b__law_out .nil pass0 (pa_cons (pv 0) (pa_cons (pe_lc (own := [("_law_z", 5), ("_law_y", 6)]) (wi := iZip K _) (g := gTup K 2 (gCons (gName 5) (gCons (gName 6) gNil))) (tt := tYes) rfl sc__law_halves.nd (pi_zip (by rfl) T.n_zip (pa_cons (pv 2) (pa_cons (pv 3) pa_nil))) (blkOk_by (N := ["_law_table_here", "_law_xs", "_law_one_here", "_law_other", "_law_x", "_law_z", "_law_y"]) (sc := (defScope s__law_halves)) (by decide +kernel)) (fun _ _ _ _ _ => (pg_tup rfl (pgs_cons (pg_name (i := 5) sc__law_halves.nd rfl (Or.inl rfl)) (pgs_cons (pg_name (i := 6) sc__law_halves.nd rfl (Or.inl rfl)) pgs_nil)))) (fun _ _ _ _ _ => pts_nil) (fun _ _ _ _ _ => (pe_op op_sub (pv 5) (pv 6)))) pa_nil))) pe_int (nomark _))
            (pss_one (ps_ret (pe_tup (pa_cons (pv 2) (pa_cons (pv 3) pa_nil)))))
            pss_nil))))
      (pss_one (ps_ret pe_non))), ?_⟩
    obtain ⟨p, q, as, rows, m, w, xs, rfl, hT, hb, hq, hx, hbx, k⟩ := h
    have hd := hT.b
    refine for_call2 (σ := [some (.ref p), some (.ref q), none, none, none, none, none]) ?_
    refine (el_mapI (K := K) (n := 1) (σ := [some (.ref p), some (.ref q), none, none, none, none, none]) (vs := [4]) (j := 4) (fun x => x / 2) rfl hq (by omega) (fun u => rfl) fun x H1 _ _ => ev_op (ev_var rfl) ev_c (rv_I div2)) H (Ex.refl H) _ fun c1 H1 n1 e1 h1 => ?_
    refine (el_mapI (K := K) (n := 1) (σ := [some (.ref p), some (.ref q), none, none, none, none, none]) (vs := [4]) (j := 4) (fun x => x / 2 + x % 2) rfl (e1 _ _ hq) (by omega) (fun u => rfl) fun x H2 _ _ => ev_op (ev_op (ev_var (v := .int x) rfl) ev_c (rv_I (g := fun i j => .int (i / j)) div2)) (ev_op (ev_var (v := .int x) rfl) ev_c (rv_I (C := fun _ j => 0 < j) (g := fun i j => .int (i % j)) (by decide))) (rv_I0 (g := fun i j => .int (i + j)))) H1 (Ex.refl _) _ fun c2 H2 n2 e2 h2 => ?_
    refine ⟨c1, c2, _, _, rfl, e2 _ _ h1, h2, by rw [List.length_map, List.length_map], by rw [List.length_map]; omega, fun c hc => ?_, fun u us H4 nu e4 hu => ?_⟩
    · rw [choices_hv] at hc
      obtain ⟨x, _, rfl⟩ := List.mem_map.mp hc
      exact Ls.hv_len x
    rw [choices_hv] at hu
    have e14 := (e1.trans e2).trans e4
    have ul : us.length = (Ls.allL (xs.map Ls.hv)).length := Paired.length hu.2
    refine ⟨u, rfl, ⟨_, SqL.of hu.1⟩, for_list (K := K) (a := u) (xs := us.map V.ref) (fun i σ' H' => ∃ y2 y3 : Option V, σ' = [some (.ref p), some (.ref q), y2, y3, none, none, none] ∧ Ex H4 H' ∧ ∀ z ∈ (Ls.allL (xs.map Ls.hv)).take i, Ls.halfOk rows xs z = false) ⟨_, _, rfl, Ex.refl _, fun z hz => nomatch hz⟩ (fun i σ' H' _ ⟨_, _, _, h, _⟩ => SqL.of (h _ _ hu.1)) (fun i x σ' H5 hx' hP => ?_) (fun σ' H5 hP => ?_)⟩
    rotate_left
    · obtain ⟨y2, y3, rfl, e5, hno⟩ := hP
      rw [List.length_map, ul, List.take_length] at hno
      refine k .non H5 (e14.trans e5) ?_
      unfold Ls.halfOf
      rw [Ls.find_no hno]
      rfl
    obtain ⟨y2, y3, rfl, e5, hno⟩ := hP
    rw [List.getElem?_map] at hx'
    obtain ⟨a, ha, rfl⟩ := Option.map_eq_some_iff.mp hx'
    obtain ⟨z, hz, hza⟩ := paired_get hu.2 ha
    have hzm := List.mem_of_getElem? hz
    obtain ⟨l1, l2, l3, bg⟩ := half_ok hzm hbx
    have hza5 := e5 _ _ hza
    have hq5 := (e14.trans e5) _ _ hq
    refine ⟨fun σ' H' => ∃ po, σ' = [some (.ref p), some (.ref q), some (.ref a), some (.ref po), none, none, none] ∧ Ex H5 H' ∧ H' po = some (.lst ((Ls.otherOf xs z).map V.int)), ?_, ?_⟩
    · exact el_zip (σ := [some (.ref p), some (.ref q), some (.ref a), y3, none, none, none]) (K := K) (f := fun x z => x - z) (ea_cons (ev_var (i := 1) rfl) (ea_cons (ev_var (i := 2) rfl) ea_nil)) (SqL.of hq5) (SqL.of hza5) l1.symm (by omega) (fun u v => rfl) (fun x y H6 _ _ _ => ev_op (ev_var rfl) (ev_var rfl) rv_I0) H5 (Ex.refl _) _ fun po H6 np e6 hp => ⟨po, rfl, e6, hp⟩
    rintro σ' H6 ⟨po, rfl, e6, hpo⟩
    have hT6 := hT.ex (e14.trans (e5.trans e6))
    refine s_when (b := Ls.halfOk rows xs z) (et_test ?_) (fun hok H8 e8 => ?_) (fun hok H8 e8 => ⟨_, _, rfl, e5.trans (e6.trans e8), Ls.take_more hno hz hok⟩)
    · intro G g Q1 k1
      refine ⟨_, rfl, ?_⟩
      refine (el_zip (σ := [some (.ref p), some (.ref q), some (.ref a), some (.ref po), none, none, none]) (K := K) (f := fun x z => x - z) (ea_cons (ev_var (i := 2) rfl) (ea_cons (ev_var (i := 3) rfl) ea_nil)) (SqL.of ((e6.trans g) _ _ hza5)) (SqL.of (g _ _ hpo)) (by omega) (by omega) (fun u v => rfl) (fun x y H7 _ _ _ => ev_op (ev_var rfl) (ev_var rfl) rv_I0)) G (Ex.refl _) _ fun pg G1 np g1 hp => ?_
      refine ⟨p, pg, as, rows, Ls.gapsOf xs z, rfl, (hT6.ex (g.trans g1)).tab, by rw [hT.m_]; omega, by rw [hT.m_]; omega, fun r hr => ⟨by rw [hT.w_ r hr]; omega, hb r hr⟩, by omega, hp, bg, fun mm G2 g2 hm => ?_⟩
      refine ⟨mm, 1, rfl, rfl, ?_⟩
      show Q1 (.bl (decide (mm ≤ 1))) G2
      rw [hm]
      exact k1 G2 (g1.trans g2)
    · refine s_retU (eu_tup (ea_cons (ev_var (i := 2) rfl) (ea_cons (ev_var (i := 3) rfl) ea_nil)) (Nat.le_of_ble_eq_true rfl)) fun t H9 nt e9 ht => ?_
      have e69 := e8.trans e9
      refine k (.ref t) H9 (e14.trans (e5.trans (e6.trans e69))) ?_
      have fz : Ls.halfOf rows xs = some z := Ls.find_at hno hz hok
      rw [fz]
      exact ⟨t, a, po, rfl, ht, (e6.trans e69) _ _ hza5, e69 _ _ hpo, rfl, rfl⟩
-- DEF halved

def sp_halved (K : PySem.W.Frag) : Sp := fun vs H Q _ => ∃ (p q : Addr) (as : List Addr) (rows : List (List Int)) (m w : Nat) (xs : List Int), vs = [.ref p, .ref q] ∧ TabOk H p as rows m w ∧ (∀ r ∈ rows, ∀ y ∈ r, Bd 110 y) ∧ H q = some (.lst (xs.map V.int)) ∧ xs.length = w ∧ (∀ x ∈ xs, Bd 100 x) ∧
  ∀ v H', Ex H H' → HalfAt H H' v xs (Ls.halfOf rows xs) → Q v H'

theorem ok_halved (T : Txt K mg) : FnOk P w K mg base CX0 5 T.f_halved T.fd_halved ["table", "xs"] (sp_halved K) := by
  refine Fun.ok T.F_halved sc_halved (fun vs H Q E h => ?_) (fun cdv A outer s H vs Q E hr h => ?_)
  · obtain ⟨_, _, _, _, _, _, _, rfl, _⟩ := h; rfl
  · refine ⟨_, (pss_cons (ps_expr (pe_call (ok_check_table T) hr (by rfl) T.g_check_table T.k_check_table T.b_check_table .nil pass0 (pa_cons (pv 0) pa_nil)))
      (pss_cons (ps_expr (pe_call (ok_check_numbers T) (hr.mono (by decide)) (by rfl) T.g_check_numbers T.k_check_numbers T.b_check_numbers .nil pass0 (pa_cons (pv 1) (pa_cons (pe_callB (id := "len") (r := rLenS K) call_len_seq (by rfl) T.n_len PySem.boot_len (pa_cons (pe_ix (r := rIxL K) ix_list (pv 0) pe_int (fun _ _ => rfl)) pa_nil)) (pa_cons pe_str pa_nil)))))
      (pss_cons (ps_for PassesOwn.never rfl (pi_list (pe_call (ok_all_lists T) (hr.mono (by decide)) (by rfl) T.g_all_lists T.k_all_lists T.b_all_lists .nil pass0 (pa_cons (pe_lc (own := [("x", 5)]) (wi := iList K _) (g := gName 5) (tt := tYes) rfl sc_halved.nd (pi_list (pv 1)) (blkOk_by (N := ["table", "xs", "one", "other", "gaps", "x", "half", "rest"]) (sc := (defScope s_halved)) (by decide +kernel)) (fun _ _ _ _ _ => pg_name (i := 5) sc_halved.nd rfl (Or.inl rfl)) (fun _ _ _ _ _ => pts_nil) (fun _ _ _ _ _ => (pe_call (ok_halves T) (hr.mono (by decide)) (by rfl) T.g_halves T.k_halves T.b_halves .nil pass0 (pa_cons (pv 5) pa_nil)))) pa_nil))) (pg_name (i := 2) sc_halved.nd rfl (by first | exact Or.inl rfl | exact Or.inr rfl))
        (pss_cut (ps_setLc (i := 3) (own := [("x", 5), ("half", 6)]) (wi := iZip K _) (g := gTup K 2 (gCons (gName 5) (gCons (gName 6) gNil))) (tt := tYes) rfl sc_halved.nd rfl rfl (sw_true rfl rfl rfl (by decide +kernel)) (pi_zip (by rfl) T.n_zip (pa_cons (pv 1) (pa_cons (pv 2) pa_nil))) (blkOk_by (N := ["table", "xs", "one", "other", "gaps", "x", "half", "rest"]) (sc := (defScope s_halved)) (by decide +kernel)) (fun _ _ _ _ _ => (pg_tup rfl (pgs_cons (pg_name (i := 5) sc_halved.nd rfl (Or.inl rfl)) (pgs_cons (pg_name (i := 6) sc_halved.nd rfl (Or.inl rfl)) pgs_nil)))) (fun _ _ _ _ _ => pts_nil) (fun _ _ _ _ _ => (pe_op op_sub (pv 5) (pv 6))))
          (pss_cut (ps_setLc (i := 4) (own := [("half", 6), ("rest", 7)]) (wi := iZip K _) (g := gTup K 2 (gCons (gName 6) (gCons (gName 7) gNil))) (tt := tYes) rfl sc_halved.nd rfl rfl (sw_true rfl rfl rfl (by decide +kernel)) (pi_zip (by rfl) T.n_zip (pa_cons (pv 2) (pa_cons (pv 3) pa_nil))) (blkOk_by (N := ["table", "xs", "one", "other", "gaps", "x", "half", "rest"]) (sc := (defScope s_halved)) (by decide +kernel)) (fun _ _ _ _ _ => (pg_tup rfl (pgs_cons (pg_name (i := 6) sc_halved.nd rfl (Or.inl rfl)) (pgs_cons (pg_name (i := 7) sc_halved.nd rfl (Or.inl rfl)) pgs_nil)))) (fun _ _ _ _ _ => pts_nil) (fun _ _ _ _ _ => (pe_op op_sub (pv 6) (pv 7))))
          (pss_one (ps_if (pt_val (pe_call (ok_are_small T) (hr.mono (by decide)) (by rfl) T.g_are_small T.k_are_small T.b_are_small .nil pass0 (pa_cons (pe_call (ok_row_totals T) (hr.mono (by decide)) (by rfl) T.g_row_totals T.k_row_totals T.b_row_totals .nil pass0 (pa_cons (pv 0) (pa_cons (pv 4) pa_nil))) pa_nil)))
            (pss_one (ps_ret (pe_tup (pa_cons (pv 2) (pa_cons (pv 3) pa_nil)))))
            pss_nil)))))
      (pss_one (ps_ret pe_non))))), ?_⟩
    obtain ⟨p, q, as, rows, m, w, xs, rfl, hT, hb, hq, hx, hbx, k⟩ := h
    have hd := hT.b
    refine ⟨_, rfl, p, as, rows, m, w, rfl, hT, fun H1 e1 => ?_⟩
    obtain ⟨a0, r0, _, _, hh0, hl0, at0⟩ := (hT.ex e1).row0
    refine q_drop (σ := [some (.ref p), some (.ref q), none, none, none, none, none, none]) (v := .non) (ev_fn (sp := sp_check_numbers K) (E := E0) (ea_cons (ev_var (i := 1) rfl) (ea_cons (ev_is (ev_len (ev_op (ev_var (i := 0) rfl) ev_c (rv_ixL (SqL.of (hT.ex e1).tab.1) at0)) (SqL.of hh0)) (by rw [List.length_map, hl0])) (ea_cons ev_c ea_nil))) fun H2 e2 Q2 q2 => ⟨q, xs, (w : Int), _, rfl, (e1.trans e2) _ _ hq, by omega, by omega, q2⟩) fun H2 e2 => ?_
    have e12 := e1.trans e2
    -- the halves
    refine for_call (σ := [some (.ref p), some (.ref q), none, none, none, none, none, none]) ?_
    refine lc_rowsL (K := K) (nn := 1) (ys := xs) (F := Ls.hv) (σ := [some (.ref p), some (.ref q), none, none, none, none, none, none]) (vs := [5]) (j := 5) rfl (e12 _ _ hq) (by omega) (fun u => rfl) (fun x H3 hx e3 => ?_) (fun c cs H3 nc ncs _ _ e3 hc => ?_)
    · exact el_call (ea_cons (ev_var rfl) ea_nil) fun H4 e4 Q4 q4 E4 => ⟨x, rfl, fun u H5 nu e5 hu => q4 u H5 nu e5 hu⟩
    refine ⟨c, cs, xs.map Ls.hv, 2, rfl, hc, fun z hz => ?_, by decide, ?_, by decide, by rw [List.length_map]; omega, fun u us H4 nu nus _ _ e4 hu => ?_⟩
    · obtain ⟨x, _, rfl⟩ := List.mem_map.mp hz
      exact Ls.hv_len x
    · rw [List.length_map]
      exact Nat.le_trans (Nat.pow_le_pow_right (by decide) (show xs.length ≤ 8 by omega)) (by decide)
    have e14 := e12.trans (e3.trans e4)
    have ul : us.length = (Ls.allL (xs.map Ls.hv)).length := Paired.length hu.2
    refine ⟨u, rfl, ⟨_, SqL.of hu.1⟩, for_list (K := K) (a := u) (xs := us.map V.ref) (fun i σ' H' => ∃ y2 y3 y4 : Option V, σ' = [some (.ref p), some (.ref q), y2, y3, y4, none, none, none] ∧ Ex H4 H' ∧ ∀ z ∈ (Ls.allL (xs.map Ls.hv)).take i, Ls.halfOk rows xs z = false) ⟨_, _, _, rfl, Ex.refl _, fun z hz => nomatch hz⟩ (fun i σ' H' _ ⟨_, _, _, _, h, _⟩ => SqL.of (h _ _ hu.1)) (fun i x σ' H5 hx' hP => ?_) (fun σ' H5 hP => ?_)⟩
    rotate_left
    · obtain ⟨y2, y3, y4, rfl, e5, hno⟩ := hP
      rw [List.length_map, ul, List.take_length] at hno
      refine k .non H5 (e14.trans e5) ?_
      unfold Ls.halfOf
      rw [Ls.find_no hno]
      rfl
    obtain ⟨y2, y3, y4, rfl, e5, hno⟩ := hP
    rw [List.getElem?_map] at hx'
    obtain ⟨a, ha, rfl⟩ := Option.map_eq_some_iff.mp hx'
    obtain ⟨z, hz, hza⟩ := paired_get hu.2 ha
    have hzm := List.mem_of_getElem? hz
    obtain ⟨l1, l2, l3, bg⟩ := half_ok hzm hbx
    have hza5 := e5 _ _ hza
    have hq5 := (e14.trans e5) _ _ hq
    refine ⟨fun σ' H' => ∃ po, σ' = [some (.ref p), some (.ref q), some (.ref a), some (.ref po), y4, none, none, none] ∧ Ex H5 H' ∧ H5 po = none ∧ H' po = some (.lst ((Ls.otherOf xs z).map V.int)), ?_, ?_⟩
    · exact el_zip (σ := [some (.ref p), some (.ref q), some (.ref a), y3, y4, none, none, none]) (K := K) (f := fun x z => x - z) (ea_cons (ev_var (i := 1) rfl) (ea_cons (ev_var (i := 2) rfl) ea_nil)) (SqL.of hq5) (SqL.of hza5) l1.symm (by omega) (fun u v => rfl) (fun x y H6 _ _ _ => ev_op (ev_var rfl) (ev_var rfl) rv_I0) H5 (Ex.refl _) _ fun po H6 np e6 hp => ⟨po, rfl, e6, np, hp⟩
    rintro σ' H6 ⟨po, rfl, e6, npo, hpo⟩
    refine ⟨fun σ' H' => ∃ pg, σ' = [some (.ref p), some (.ref q), some (.ref a), some (.ref po), some (.ref pg), none, none, none] ∧ Ex H6 H' ∧ H' pg = some (.lst ((Ls.gapsOf xs z).map V.int)), ?_, ?_⟩
    · exact el_zip (σ := [some (.ref p), some (.ref q), some (.ref a), some (.ref po), y4, none, none, none]) (K := K) (f := fun x z => x - z) (ea_cons (ev_var (i := 2) rfl) (ea_cons (ev_var (i := 3) rfl) ea_nil)) (SqL.of (e6 _ _ hza5)) (SqL.of hpo) (by omega) (by omega) (fun u v => rfl) (fun x y H7 _ _ _ => ev_op (ev_var rfl) (ev_var rfl) rv_I0) H6 (Ex.refl _) _ fun pg H7 np e7 hp => ⟨pg, rfl, e7, hp⟩
    rintro σ' H7 ⟨pg, rfl, e7, hpg⟩
    have e57 := e6.trans e7
    have hT7 := hT.ex (e14.trans (e5.trans e57))
    refine s_when (b := Ls.halfOk rows xs z) (et_B ?_) (fun hok H8 e8 => ?_) (fun hok H8 e8 => ⟨_, _, _, rfl, e5.trans (e57.trans e8), Ls.take_more hno hz hok⟩)
    · intro G g Q1 k1
      refine ⟨_, rfl, _, rfl, p, pg, as, rows, Ls.gapsOf xs z, rfl, (hT7.ex g).tab, by rw [hT.m_]; omega, fun r hr => ⟨by rw [hT.w_ r hr]; omega, hb r hr⟩, by omega, g _ _ hpg, bg, fun d G2 nd g2 hd => ?_⟩
      refine ⟨d, _, rfl, hd, by unfold Ls.totals; rw [List.length_map, hT.m_]; omega, fun G3 g3 => ?_⟩
      exact k1 G3 (g2.trans g3)
    · refine s_retU (eu_tup (ea_cons (ev_var (i := 2) rfl) (ea_cons (ev_var (i := 3) rfl) ea_nil)) (Nat.le_of_ble_eq_true rfl)) fun t H9 nt e9 ht => ?_
      have e59 := e57.trans (e8.trans e9)
      refine k (.ref t) H9 (e14.trans (e5.trans e59)) ?_
      have e12a := e12.trans e3
      have fz : Ls.halfOf rows xs = some z := Ls.find_at hno hz hok
      rw [fz]
      exact ⟨t, a, po, rfl, ht, e59 _ _ hza5, (e7.trans (e8.trans e9)) _ _ hpo, fresh_back e12a (nus a (List.mem_of_getElem? ha)), fresh_back (e14.trans e5) npo⟩
-- DEF law
theorem tf_le {M : Nat} : ∀ (ts : List Str) (k : Nat) (acc : Str), (∀ t ∈ ts, t.length ≤ M) → (PySem.textFrom k acc ts).length ≤ acc.length + ts.length * (M + 2)
  | [], _, acc, _ => by show acc.length ≤ _; omega
  | t :: ts, k, acc, h => by
    have ih := tf_le ts (k + 1) (acc ++ (if k > 0 then ", " else "" : String) ++ t) (fun u hu => h u (.tail _ hu))
    have h1 := h t (.head _)
    have e : (acc ++ (if k > 0 then ", " else "" : String) ++ t).length ≤ acc.length + 2 + t.length := by
      rw [PySem.strLen_append, PySem.strLen_append]
      by_cases c : k > 0
      · rw [if_pos c]
        have : (Str.ofString ", ").length = 2 := by decide +kernel
        omega
      · rw [if_neg c]
        have : (Str.ofString "").length = 0 := by decide +kernel
        omega
    show (PySem.textFrom (k + 1) (acc ++ (if k > 0 then ", " else "" : String) ++ t) ts).length ≤ _
    rw [List.length_cons, Nat.add_mul]
    omega
theorem lt_le {M n : Nat} {ts : List Str} (h : ∀ t ∈ ts, t.length ≤ M) (hn : ts.length ≤ n) : (PySem.listText ts).length ≤ 2 + n * (M + 2) := by
  have h1 := tf_le ts 0 "[" h
  have e : (PySem.listText ts).length = (PySem.textFrom 0 "[" ts).length + 1 := by
    show (PySem.textFrom 0 "[" ts ++ "]").length = _
    rw [PySem.strLen_append]
    rfl
  have e2 : (Str.ofString "[").length = 1 := by decide +kernel
  have := Nat.mul_le_mul_right (M + 2) hn
  omega
theorem all_shown {M : Nat} : ∀ {ds : List PyData}, (∀ d ∈ ds, d.shown.length ≤ M) → (∀ t ∈ PyData.shownAll ds, t.length ≤ M) ∧ (PyData.shownAll ds).length = ds.length
  | [], _ => ⟨fun t ht => (nomatch ht), rfl⟩
  | d :: ds, h => by
    obtain ⟨i1, i2⟩ := all_shown (ds := ds) fun x hx => h x (.tail _ hx)
    refine ⟨fun t ht => ?_, congrArg (· + 1) i2⟩
    rcases List.mem_cons.mp ht with rfl | ht
    · exact h d (.head _)
    · exact i1 t ht
theorem list_shown {M n : Nat} {ds : List PyData} (h : ∀ d ∈ ds, d.shown.length ≤ M) (hn : ds.length ≤ n) : (PyData.list ds).shown.length ≤ 2 + n * (M + 2) := by
  obtain ⟨i1, i2⟩ := all_shown h
  exact lt_le i1 (by rw [i2]; exact hn)
theorem all_showable : ∀ {ds : List PyData}, (∀ d ∈ ds, d.showable = true) → PyData.showableAll ds = true
  | [], _ => rfl
  | d :: ds, h => by
    show (d.showable && PyData.showableAll ds) = true
    rw [h d (.head _), all_showable fun x hx => h x (.tail _ hx)]
    rfl
theorem int_text {i : Int} (h : i.natAbs.log2 < 1920) : (Str.ofString (toString i)).length ≤ 1000 := by
  have h2 : i.natAbs < 10 ^ 600 := by
    by_cases z : i.natAbs = 0
    · rw [z]; decide +kernel
    · exact Nat.lt_of_lt_of_le ((Nat.log2_lt z).mp h) (by decide +kernel)
  have e := PySem.int_text_length_le10 (k := 600) (by decide) h2
  rw [PySem.ofString_length]
  omega
theorem bd_log {n : Nat} {i : Int} (h : Bd n i) (hn : n ≤ 1900) : i.natAbs.log2 < 1920 := by
  by_cases z : i.natAbs = 0
  · rw [z]
    decide
  · exact (Nat.log2_lt z).mpr (Nat.lt_of_lt_of_le h (Nat.pow_le_pow_right (by decide) (by omega)))
def tabD (rows : List (List Int)) : PyData := .list (rows.map fun r => .list (r.map .int))
theorem tabD_ok {n : Nat} {rows : List (List Int)} (hb : ∀ r ∈ rows, ∀ y ∈ r, Bd n y) (hn : n ≤ 1900) (hm : rows.length ≤ 8) (hw : ∀ r ∈ rows, r.length ≤ 8) : (tabD rows).showable = true ∧ (tabD rows).shown.length ≤ 70000 := by
  have row : ∀ d ∈ rows.map (fun r => PyData.list (r.map .int)), d.showable = true ∧ d.shown.length ≤ 8018 := fun d hd => by
    obtain ⟨r, hr, rfl⟩ := List.mem_map.mp hd
    refine ⟨all_showable fun x hx => ?_, list_shown (M := 1000) (n := 8) (fun x hx => ?_) (by rw [List.length_map]; exact hw r hr)⟩
    · obtain ⟨y, hy, rfl⟩ := List.mem_map.mp hx
      exact decide_eq_true (bd_log (hb r hr y hy) hn)
    · obtain ⟨y, hy, rfl⟩ := List.mem_map.mp hx
      exact int_text (bd_log (hb r hr y hy) hn)
  refine ⟨all_showable fun d hd => (row d hd).1, ?_⟩
  have := list_shown (M := 8018) (n := 8) (fun d hd => (row d hd).2) (by rw [List.length_map]; exact hm)
  exact Nat.le_trans this (by decide)
theorem tab_dp {K : PySem.W.Frag} {H : Hp} {p : Addr} {as : List Addr} {rows : List (List Int)} (h : Tab H p as rows) : Dp K H (.ref p) (tabD rows) := .lst (SqL.of h.1) (dp_rows h.2)
theorem tabD_lay (rows : List (List Int)) : (tabD rows).canLay0 = true := canLay_rows rows
theorem tabD_depth (rows : List (List Int)) : (tabD rows).depth ≤ 2 := by
  have := depth_rows rows
  show PyData.depthAll _ + 1 ≤ 2
  omega
def Small (n : Nat) (rows : List (List Int)) : Prop := (∀ r ∈ rows, ∀ y ∈ r, Bd n y) ∧ rows.length ≤ 8 ∧ ∀ r ∈ rows, r.length ≤ 8

theorem ev_wide {K : PySem.W.Frag} {tt : TE} {σ : L2.St} {H : Hp} {p : Addr} {as : List Addr} {rows : List (List Int)} {m w : Nat} (ht : Ev tt σ H (.ref p)) (hT : TabOk H p as rows m w) : Ev (tCB (rLenS K) (tCons (tOp (rIxL K) tt (tC (.int 0))) tNil)) σ H (.int (w : Int)) := by
  obtain ⟨a0, r0, _, _, hh0, hl0, at0⟩ := hT.row0
  exact ev_is (ev_len (ev_op ht ev_c (rv_ixL (SqL.of hT.tab.1) at0)) (SqL.of hh0)) (by rw [List.length_map, hl0])
structure Dim (rows : List (List Int)) (m w : Nat) : Prop where
  m_ : rows.length = m
  w_ : ∀ r ∈ rows, r.length = w
  b : 1 ≤ m ∧ m ≤ 8 ∧ 1 ≤ w ∧ w ≤ 8
theorem Dim.ok {H : Hp} {p : Addr} {as : List Addr} {rows : List (List Int)} {m w : Nat} (d : Dim rows m w) (t : Tab H p as rows) : TabOk H p as rows m w := ⟨t, d.m_, d.w_, d.b⟩
theorem tup_shown (a b : PyData) : (PyData.tuple [a, b]).shown.length ≤ a.shown.length + b.shown.length + 7 := by
  have h := PySem.tupleText_len_le [a.shown, b.shown]
  have e : (([a.shown, b.shown] : List Str).map (·.length)).sum = a.shown.length + b.shown.length := by simp
  rw [e] at h
  exact Nat.le_trans h (by show _ + 2 * 2 + 3 ≤ _; omega)
theorem intsD_ok {xs : List Int} (hb : ∀ x ∈ xs, Bd 100 x) (h8 : xs.length ≤ 8) : (PyData.list (xs.map .int)).showable = true ∧ (PyData.list (xs.map .int)).shown.length ≤ 70000 := by
  refine ⟨all_showable fun d hd => ?_, Nat.le_trans (list_shown (M := 1000) (n := 8) (fun d hd => ?_) (by rw [List.length_map]; exact h8)) (by decide)⟩
  · obtain ⟨y, hy, rfl⟩ := List.mem_map.mp hd
    exact decide_eq_true (bd_log (hb y hy) (by decide))
  · obtain ⟨y, hy, rfl⟩ := List.mem_map.mp hd
    exact int_text (bd_log (hb y hy) (by decide))
theorem ev_reprT {K : PySem.W.Frag} {ta tb : TE} {σ : L2.St} {H : Hp} {p q : Addr} {as : List Addr} {A : List (List Int)} {xs : List Int} (ha : Ev ta σ H (.ref p)) (hb : Ev tb σ H (.ref q)) (hA : Tab H p as A) (hq : H q = some (.lst (xs.map V.int))) (sA : Small 110 A) (bx : ∀ x ∈ xs, Bd 100 x) (l8 : xs.length ≤ 8) :
    Ev (tCB (Own2.rShown2 K) (tCons (tTup (tCons ta (tCons tb tNil))) tNil)) σ H (.str (PyData.tuple [tabD A, .list (xs.map .int)]).shown) := fun H1 e Q k =>
  ha H1 e _ fun H2 e2 => hb H2 (e.trans e2) _ fun H3 e3 => ⟨(by show 2 ≤ sizeLine; decide), fun L nL => by
    have xL := Ex.new (o := .tup [V.ref p, .ref q]) nL
    have e03 := ((e.trans e2).trans e3).trans xL
    have a1 := tabD_ok sA.1 (by decide) sA.2.1 sA.2.2
    have b1 := intsD_ok bx l8
    refine .inl ⟨L, _, rfl, .tup (SqT.of upd_same) (.cons (tab_dp (hA.ex e03)) (.cons (.lst (SqL.of (e03 _ _ hq)) (dpAll_ints _)) .nil)), all_showable (fun d hd => ?_), PyData.hasDict_of_canLay _ ?_, ?_, ?_, k _ ((e2.trans e3).trans xL)⟩
    · rcases List.mem_cons.mp hd with rfl | hd
      · exact a1.1
      · rw [List.mem_singleton.mp hd]
        exact b1.1
    · show ((tabD A).canLay0 && (PyData.canLayAll0 (xs.map PyData.int) && true)) = true
      rw [tabD_lay, canLay_ints]
      rfl
    · have d1 := tabD_depth A
      have d2 := depth_ints xs
      show max (tabD A).depth (max (PyData.depthAll (xs.map PyData.int) + 1) 0) + 1 ≤ 50
      omega
    · exact Nat.le_trans (tup_shown _ _) (Nat.le_trans (Nat.add_le_add_right (Nat.add_le_add a1.2 b1.2) 7) (by decide))⟩
def halfD (xs : List Int) : Option (List Int) → PyData
  | none => .none
  | some z => .tuple [.list (z.map .int), .list ((Ls.otherOf xs z).map .int)]
theorem dp_half {K : PySem.W.Frag} {H0 H : Hp} {v : V} {xs : List Int} {o : Option (List Int)} (h : HalfAt H0 H v xs o) : Dp K H v (halfD xs o) := by
  cases o with
  | none =>
    have h : v = .non := h
    rw [h]
    exact .non
  | some z =>
    obtain ⟨t, p1, p2, rfl, h1, h2, h3, _⟩ := h
    exact .tup (SqT.of h1) (.cons (.lst (SqL.of h2) (dpAll_ints _)) (.cons (.lst (SqL.of h3) (dpAll_ints _)) .nil))
theorem HalfAt.ex {H0 H H' : Hp} {v : V} {xs : List Int} {o : Option (List Int)} (h : HalfAt H0 H v xs o) (e : Ex H H') : HalfAt H0 H' v xs o := by
  cases o with
  | none => exact h
  | some z =>
    obtain ⟨t, p1, p2, rfl, h1, h2, h3, h4⟩ := h
    exact ⟨t, p1, p2, rfl, e _ _ h1, e _ _ h2, e _ _ h3, h4⟩
theorem lay_half (xs : List Int) (o : Option (List Int)) : (halfD xs o).canLay0 = true := by
  cases o with
  | none => rfl
  | some z =>
    show (PyData.canLayAll0 (z.map PyData.int) && (PyData.canLayAll0 ((Ls.otherOf xs z).map PyData.int) && true)) = true
    rw [canLay_ints, canLay_ints]
    rfl
theorem depth_half (xs : List Int) (o : Option (List Int)) : (halfD xs o).depth ≤ 2 := by
  cases o with
  | none => exact Nat.zero_le _
  | some z =>
    have h1 := depth_ints z
    have h2 := depth_ints (Ls.otherOf xs z)
    show max (PyData.depthAll (z.map PyData.int) + 1) (max (PyData.depthAll ((Ls.otherOf xs z).map PyData.int) + 1) 0) + 1 ≤ 2
    omega
theorem rv_neH {K : PySem.W.Frag} {H0 H1 H : Hp} {v u : V} {xs : List Int} {o : Option (List Int)} (h1 : HalfAt H0 H v xs o) (h2 : HalfAt H1 H u xs o) : RV (rNeD K) v u H (.bl false) := fun G e Q k => by
  have sh : SeqAt.shaped (halfD xs o) = true := by
    unfold SeqAt.shaped
    rw [lay_half, decide_eq_true (Nat.le_trans (depth_half xs o) (by decide))]
    rfl
  refine ⟨_, _, dp_half (h1.ex e), dp_half (h2.ex e), sh, sh, ?_⟩
  rw [SeqAt.eqv_refl _ (SeqAt.canLay_of_shaped sh)]
  exact k G (Ex.refl _)
/-- what the halves found are bounded by -/
theorem half_bd {rows : List (List Int)} {xs z : List Int} (h : Ls.halfOf rows xs = some z) (hb : ∀ x ∈ xs, x.natAbs ≤ 10 ^ 25) : (∀ y ∈ z, Bd 100 y) ∧ (∀ y ∈ Ls.otherOf xs z, Bd 100 y) ∧ z.length = xs.length ∧ (Ls.otherOf xs z).length = xs.length := by
  have hz : z ∈ Ls.allL (xs.map Ls.hv) := List.mem_of_find?_eq_some h
  have p := each_half (Ls.allL_each _ _ rfl z hz)
  have l1 := Paired.length p
  have key : ∀ {xs z : List Int}, Paired (fun (z x : Int) => x / 2 ≤ z ∧ z ≤ x - x / 2) z xs → (∀ x ∈ xs, x.natAbs ≤ 10 ^ 25) → (∀ y ∈ z, y.natAbs ≤ 10 ^ 25 + 1) ∧ ∀ y ∈ Ls.otherOf xs z, y.natAbs ≤ 10 ^ 25 + 1 := by
    intro xs z p
    induction p with
    | nil => intro _; exact ⟨fun y hy => (nomatch hy), fun y hy => (nomatch hy)⟩
    | cons r t ih =>
      rename_i z x zs xs
      intro hb
      obtain ⟨i1, i2⟩ := ih fun x hx => hb x (.tail _ hx)
      have bx := hb x (.head _)
      have e25 : (10 : Nat) ^ 25 = 10000000000000000000000000 := by decide
      rw [e25] at bx
      refine ⟨fun y hy => ?_, fun y hy => ?_⟩
      · rcases List.mem_cons.mp hy with rfl | hy
        · rw [e25]; omega
        · exact i1 y hy
      · unfold Ls.otherOf at hy
        rw [List.zipWith_cons_cons] at hy
        rcases List.mem_cons.mp hy with rfl | hy
        · rw [e25]; omega
        · exact i2 y hy
  obtain ⟨k1, k2⟩ := key p hb
  have bd : ∀ {y : Int}, y.natAbs ≤ 10 ^ 25 + 1 → Bd 100 y := fun h => by
    unfold Bd
    exact Nat.lt_of_le_of_lt h (by decide +kernel)
  exact ⟨fun y hy => bd (k1 y hy), fun y hy => bd (k2 y hy), l1, by unfold Ls.otherOf; rw [List.length_zipWith]; omega⟩
theorem ev_reprH {K : PySem.W.Frag} {ta : TE} {σ : L2.St} {H0 H : Hp} {v : V} {xs : List Int} {rows : List (List Int)} (ha : Ev ta σ H v) (h : HalfAt H0 H v xs (Ls.halfOf rows xs)) (hb : ∀ x ∈ xs, x.natAbs ≤ 10 ^ 25) (l8 : xs.length ≤ 8) : Ev (tCB (Own2.rShown2 K) (tCons ta tNil)) σ H (.str (halfD xs (Ls.halfOf rows xs)).shown) := fun H1 e Q k =>
  ha H1 e _ fun H2 e2 => by
    have h := h.ex (e.trans e2)
    have dp := dp_half (K := K) h
    have ly := lay_half xs (Ls.halfOf rows xs)
    have dh := depth_half xs (Ls.halfOf rows xs)
    have bb := fun z (hz : Ls.halfOf rows xs = some z) => half_bd hz hb
    cases ho : Ls.halfOf rows xs with
    | none =>
      rw [ho] at h
      have h : v = .non := h
      subst h
      rw [ho] at k
      exact .inr ⟨rfl, k H2 e2⟩
    | some z =>
      obtain ⟨b1, b2, b3, b4⟩ := bb z ho
      rw [ho] at h dp ly dh k
      obtain ⟨t, p1, p2, rfl, _⟩ := h
      have a1 := intsD_ok b1 (by omega)
      have a2 := intsD_ok b2 (by omega)
      refine .inl ⟨t, _, rfl, dp, all_showable (fun d hd => ?_), PyData.hasDict_of_canLay _ ly, by omega, Nat.le_trans (tup_shown _ _) (Nat.le_trans (Nat.add_le_add_right (Nat.add_le_add a1.2 a2.2) 7) (by decide)), k _ e2⟩
      rcases List.mem_cons.mp hd with rfl | hd
      · exact a1.1
      · rw [List.mem_singleton.mp hd]
        exact a2.1
theorem most_at {i : Nat} (h : i < 5) : ∃ mo : Nat, atI [V.int 8, .int 6, .int 6, .int 5, .int 7] (i : Int) = some (.int (mo : Int)) ∧ 1 ≤ mo ∧ mo ≤ 8 := by
  have hi : i = 0 ∨ i = 1 ∨ i = 2 ∨ i = 3 ∨ i = 4 := by omega
  rcases hi with rfl | rfl | rfl | rfl | rfl
  · exact ⟨8, rfl, by decide, by decide⟩
  · exact ⟨6, rfl, by decide, by decide⟩
  · exact ⟨6, rfl, by decide, by decide⟩
  · exact ⟨5, rfl, by decide, by decide⟩
  · exact ⟨7, rfl, by decide, by decide⟩
theorem cut_four (xs : List V) : (cutV xs (some 1) (some 5)).length ≤ 4 := by
  unfold cutV
  have e1 : HT.sIx xs.length 0 (some (1 : Int)) = min 1 xs.length := HT.sIx_nat _ _ 1
  have e2 : HT.sIx xs.length xs.length (some (5 : Int)) = min 5 xs.length := HT.sIx_nat _ _ 5
  rw [e1, e2, List.length_take]
  omega
def sp_law (K : PySem.W.Frag) : Sp := fun vs H Q _ => ∃ (a : Addr) (ns : List Int), vs = [.ref a] ∧ SqL K H a (ns.map V.int) ∧ ns.length ≤ 63 ∧ ∀ H', Q (.bl true) H'

theorem run_law (T : Txt K mg) {s : Shared} {H : Hp} {a : Addr} {Q : VK} {E : XK} (e0 : Env0 P w K mg base callerA [] s H) (h : sp_law K [.ref a] H Q E) : codeAny (model P w) callerA (.call (.ref T.f_law) ⟨[.ref a], []⟩) (CR CX0 [] P w H s Q E) s := by
  obtain ⟨oc_, od_, kV_, doc_, pm_, an_, cdv, ct_, osl_, e_, lk_, hc_⟩ := T.F_law.ex
  have hb_ := T.b_law
  rw [e_] at lk_ hb_
  have inK_ : K.In s.heap := e0.mod.kin.keeps fun b o look => (e0.bs b o look).1
  refine LamX.run_ofS (CX := CX0) (k := 5) (N := ["_law_script", "_law_k", "_law_cell", "_law_source", "_law_table_here", "_law_great", "_law_xs", "_law_due", "_law_handed", "_law_turn", "_law_found"]) (ps := ["_law_script"]) (us := [.ref a]) (vs := [.ref a]) lk_ hc_ sc_law ⟨rfl, by decide, by decide⟩ e0 (hb_ s [.ref a] inK_ rfl) (.cons rfl .nil) rfl fun hr => ?_
  refine ⟨_, PSs.nox (pss_cons (ps_for PassesOwn.never rfl (pi_enum (by rfl) T.n_enumerate (pa_cons (pe_op op_cat (pe_lst (pa_cons (pe_call (ok__law_cell_at T) (hr.mono (by decide)) (by rfl) T.g__law_cell_at T.k__law_cell_at T.b__law_cell_at .nil pass0 (pa_cons (pv 0) (pa_cons pe_int pa_nil))) pa_nil)) (pe_slice (r := rSlL K) sl_list (pv 0) (po_some pe_int) (po_some pe_int))) pa_nil)) (pg_tup rfl (pgs_cons (pg_name (i := 1) sc_law.nd rfl (by first | exact Or.inl rfl | exact Or.inr rfl)) (pgs_cons (pg_name (i := 2) sc_law.nd rfl (by first | exact Or.inl rfl | exact Or.inr rfl)) pgs_nil)))
        (pss_cons (ps_set (i := 3) sc_law.nd rfl (by first | exact Or.inl rfl | exact Or.inr rfl) (pe_call (ok__law_source_of T) (hr.mono (by decide)) (by rfl) T.g__law_source_of T.k__law_source_of T.b__law_source_of .nil pass0 (pa_cons (pv 2) pa_nil)))
          (pss_cut (ps_set (i := 4) sc_law.nd rfl (by first | exact Or.inl rfl | exact Or.inr rfl) (pe_call (ok__law_table T) hr (by rfl) T.g__law_table T.k__law_table T.b__law_table .nil pass0 (pa_cons (pv 3) (pa_cons (pe_ix (r := rIxL K) ix_list (pe_lst (pa_cons pe_int (pa_cons pe_int (pa_cons pe_int (pa_cons pe_int (pa_cons pe_int pa_nil)))))) (pv 1) (fun _ _ => rfl)) pa_nil))))
          (pss_cut (ps_set (i := 5) sc_law.nd rfl (by first | exact Or.inl rfl | exact Or.inr rfl) (pe_call (ok__law_one T) (hr.mono (by decide)) (by rfl) T.g__law_one T.k__law_one T.b__law_one .nil pass0 (pa_cons (pv 3) (pa_cons (pe_lst (pa_cons pe_int (pa_cons pe_int (pa_cons (pe_op op_pow pe_int pe_int) pa_nil)))) pa_nil))))
          (pss_cut (ps_setLc (i := 6) (own := [("_law_k", 1)]) (g := gName 1) (tt := tYes) rfl sc_law.nd rfl rfl (sw_true rfl rfl rfl (by decide +kernel)) (pi_range1 (by rfl) T.n_range (pa_cons (pe_callB (id := "len") (r := rLenS K) call_len_seq (by rfl) T.n_len PySem.boot_len (pa_cons (pe_ix (r := rIxL K) ix_list (pv 4) pe_int (fun _ _ => rfl)) pa_nil)) pa_nil)) (blkOk_by (N := ["_law_script", "_law_k", "_law_cell", "_law_source", "_law_table_here", "_law_great", "_law_xs", "_law_due", "_law_handed", "_law_turn", "_law_found"]) (sc := (defScope s_law)) (by decide +kernel)) (fun _ _ _ _ _ => pg_name (i := 1) sc_law.nd rfl (Or.inl rfl)) (fun _ _ _ _ _ => pts_nil) (fun _ _ _ _ _ => (pe_op op_sub (pe_call (ok__law_next T) (hr.mono (by decide)) (by rfl) T.g__law_next T.k__law_next T.b__law_next .nil pass0 (pa_cons (pv 3) (pa_cons (pe_op op_add (pe_op op_mulW pe_int (pv 5)) pe_int) pa_nil))) (pv 5))))
          (pss_cut (ps_set (i := 7) sc_law.nd rfl (by first | exact Or.inl rfl | exact Or.inr rfl) (pe_call (ok__law_halves T) (hr.mono (by decide)) (by rfl) T.g__law_halves T.k__law_halves T.b__law_halves .nil pass0 (pa_cons (pv 4) (pa_cons (pv 6) pa_nil))))
          (pss_cut (ps_set (i := 8) sc_law.nd rfl (by first | exact Or.inl rfl | exact Or.inr rfl) (pe_callB (id := "repr") (r := Own2.rShown2 K) (Own2.repr_shown2 rfl hr.units) (by rfl) T.n_repr (by decide +kernel) (pa_cons (pe_tup (pa_cons (pv 4) (pa_cons (pv 6) pa_nil))) pa_nil)))
          (pss_one (ps_for PassesOwn.never rfl (pi_range1 (by rfl) T.n_range (pa_cons pe_int pa_nil)) (pg_name (i := 9) sc_law.nd rfl (by first | exact Or.inl rfl | exact Or.inr rfl))
            (pss_cut (ps_set (i := 10) sc_law.nd rfl (by first | exact Or.inl rfl | exact Or.inr rfl) (pe_call (ok_halved T) hr (by rfl) T.g_halved T.k_halved T.b_halved .nil pass0 (pa_cons (pv 4) (pa_cons (pv 6) pa_nil))))
              (pss_cons (ps_if (PW.pt (pw_or (pt_cmpR (r := rNeD K) (op_neD hr.units) (pv 10) (pv 7) (nomark _)) (pw_or (pt_cmpR op_ne (pe_callB (id := "repr") (r := Own2.rShown2 K) (Own2.repr_shown2 rfl hr.units) (by rfl) T.n_repr (by decide +kernel) (pa_cons (pv 10) pa_nil)) (pe_callB (id := "repr") (r := Own2.rShown2 K) (Own2.repr_shown2 rfl hr.units) (by rfl) T.n_repr (by decide +kernel) (pa_cons (pv 7) pa_nil)) (nomark _)) (pw_or1 (pt_cmpR op_ne (pe_callB (id := "repr") (r := Own2.rShown2 K) (Own2.repr_shown2 rfl hr.units) (by rfl) T.n_repr (by decide +kernel) (pa_cons (pe_tup (pa_cons (pv 4) (pa_cons (pv 6) pa_nil))) pa_nil)) (pv 8) (nomark _))))))
                (pss_one (ps_ret pe_bl))
                pss_nil)
              (pss_one (ps_if (pt_cmpR op_notN (pv 10) pe_non (nomark _))
                (pss_one (ps_expr (pe_call (ok__law_spent T) (hr.mono (by decide)) (by rfl) T.g__law_spent T.k__law_spent T.b__law_spent .nil pass0 (pa_cons (pv 10) pa_nil))))
                pss_nil)))))))))))))
      (pss_one (ps_ret pe_bl))), ?_⟩
  obtain ⟨a0, ns, ev0, hS, hlen, q⟩ := h
  have ea : a0 = a := by cases ev0; rfl
  subst ea
  clear ev0
  refine ⟨_, rfl, a0, ns, 0, rfl, hS, by decide, fun c0 => ⟨(by show 1 ≤ sizeLine; decide), fun p0 np0 => ⟨_, rfl, ?_⟩⟩⟩
  have x0 := Ex.new (o := .lst [V.int c0]) np0
  refine ⟨1, rfl, 5, rfl, a0, _, rfl, ex_l x0 hS, fun p1 np1 => ?_⟩
  obtain ⟨ys, hys⟩ := cutV_ints ns (some 1) (some 5)
  have hyl : ys.length ≤ 4 := by
    have h1 := cut_four (ns.map V.int)
    rwa [hys, List.length_map] at h1
  rw [hys]
  have x1 := Ex.new (o := .lst (ys.map V.int)) np1
  refine ⟨p0, p1, _, _, rfl, rfl, x1 _ _ upd_same, upd_same, ?_, fun p2 np2 => ?_⟩
  · have : ([V.int c0].length + (ys.map V.int).length) ≤ 1000 := by
      rw [List.length_map]
      show 1 + ys.length ≤ 1000
      omega
    exact Nat.le_trans this (by decide)
  refine ⟨p2, _, rfl, SqL.of upd_same, ?_⟩
  refine for_enum (K := K) (a := p2) (xs := [V.int c0] ++ ys.map V.int) (fun i σ H' => ∃ y1 y2 y3 y4 y5 y6 y7 y8 y9 y10 : Option V, σ = [some (.ref a0), y1, y2, y3, y4, y5, y6, y7, y8, y9, y10] ∧ H' p2 = some (.lst ([V.int c0] ++ ys.map V.int)))
    ⟨_, _, _, _, _, _, _, _, _, _, rfl, upd_same⟩ (fun i σ H' ⟨_, _, _, _, _, _, _, _, _, _, _, h⟩ => SqL.of h) (fun i x tt σ H0 hi hP ntt => ?_) (fun σ H' _ => ?_)
  rotate_left
  · dsimp only
    refine s_ret (v := .bl true) ?_ ?_
    · exact ev_c
    · exact fun H2 _ => q H2
  obtain ⟨y1, y2, y3, y4, y5, y6, y7, y8, y9, y10, rfl, hp2⟩ := hP
  have i5 : i < 5 := by
    have := (List.getElem?_eq_some_iff.mp hi).1
    rw [List.length_append, List.length_map] at this
    have h1 : [V.int c0].length = 1 := rfl
    omega
  obtain ⟨c, rfl⟩ : ∃ c : Int, x = .int c := by
    rcases List.mem_append.mp (List.mem_of_getElem? hi) with h | h
    · exact ⟨c0, by simpa using h⟩
    · obtain ⟨c, _, rfl⟩ := List.mem_map.mp h
      exact ⟨c, rfl⟩
  have xtt := Ex.new (o := .tup [V.int (i : Nat), .int c]) ntt
  have hp2 := xtt _ _ hp2
  refine ⟨tt, _, rfl, SqT.of upd_same, rfl, _, _, rfl, _, _, rfl, rfl, ?_⟩
  generalize upd H0 tt (.tup [V.int (i : Nat), .int c]) = H0' at hp2 ⊢
  generalize p2 = pL at hp2 ⊢
  clear hi hyl hys hS hlen x0 x1 xtt
  -- source, table
  refine ⟨_, rfl, c, rfl, fun s H1 n1 e1 s1 => ?_⟩
  obtain ⟨mo, hmo, mo1, mo8⟩ := most_at i5
  refine ⟨fun σ' H' => ∃ (p : Addr) (as : List Addr) (rows : List (List Int)) (m w : Nat), σ' = [some (.ref a0), some (.int (i : Nat)), some (.int c), some (.ref s), some (.ref p), y5, y6, y7, y8, y9, y10] ∧ TN s H' p as rows ∧ Dim rows m w ∧ (∀ r ∈ rows, ∀ y ∈ r, Bd 110 y) ∧ ExB s H1 H' ∧ SrcAt H' s 1000, ?_, ?_⟩
  · refine ⟨_, rfl, (by show 5 ≤ sizeLine; decide), fun L nL => ?_⟩
    have xL := Ex.new (o := .lst [V.int 8, .int 6, .int 6, .int 5, .int 7]) nL
    refine ⟨_, rfl, L, _, (i : Int), .int (mo : Int), rfl, rfl, SqL.of upd_same, hmo, ?_⟩
    refine ⟨s, 0, mo, rfl, s1.ex xL, by decide, mo1, mo8, fun as rows p H2 m w m1 m2 w1 w2 N hl e2 s2 => ⟨p, as, rows, m, w, rfl, TN.of (s1.ex xL) N.p0 N.a0 N.tab, ⟨hl, fun r hr => (N.ok r hr).1, by omega⟩, fun r hr y hy => Nat.lt_of_le_of_lt ((N.ok r hr).2 y hy) (by decide +kernel), (ExB.of xL).trans e2, s2⟩⟩
  rintro σ' H2 ⟨p, as, rows, m, w, rfl, T1, d, bd, e2, s2⟩
  have dm := d.b
  -- great
  refine ⟨fun σ' H' => ∃ g : Int, σ' = [some (.ref a0), some (.int (i : Nat)), some (.int c), some (.ref s), some (.ref p), some (.int g), y6, y7, y8, y9, y10] ∧ 0 < g ∧ g ≤ 10 ^ 25 ∧ TN s H' p as rows ∧ ExB s H1 H' ∧ SrcAt H' s 1001, ?_, ?_⟩
  · refine ⟨_, rfl, _, _, rfl, rfl, ⟨by decide, by decide, by decide⟩, (by show 3 ≤ sizeLine; decide), fun L nL => ?_⟩
    have xL := Ex.new (o := .lst [V.int 3, .int 9, .int (10 ^ (25 : Int).toNat)]) nL
    refine ⟨s, L, _, _, rfl, s2.ex xL, by decide, s2.ne nL, SqL.of upd_same, by show 0 < 3; decide, by show 3 ≤ 1000; decide, fun v hv H' e' s' => ?_⟩
    have ee := e2.trans ((ExB.of xL).trans e')
    have TT := (T1.ex xL).exB e'
    rcases List.mem_cons.mp hv with rfl | hv
    · exact ⟨3, rfl, by decide, by decide, TT, ee, s'⟩
    · rcases List.mem_cons.mp hv with rfl | hv
      · exact ⟨9, rfl, by decide, by decide, TT, ee, s'⟩
      · rw [List.mem_singleton.mp hv]
        exact ⟨10 ^ 25, rfl, by decide, by decide, TT, ee, s'⟩
  clear T1 e2 s2
  rintro σ' H2 ⟨g, rfl, g0, g25, T1, e2, s2⟩
  have e25 : (10 : Int) ^ 25 = 10000000000000000000000000 := by decide
  have bg : ∀ x : Int, x.natAbs ≤ 3 * 10000000000000000000000000 → Bd 110 x := fun x h => by
    unfold Bd
    exact Nat.lt_of_le_of_lt h (by decide +kernel)
  rw [e25] at g25
  -- xs
  refine ⟨fun σ' H' => ∃ (px : Addr) (xs : List Int), σ' = [some (.ref a0), some (.int (i : Nat)), some (.int c), some (.ref s), some (.ref p), some (.int g), some (.ref px), y7, y8, y9, y10] ∧ xs.length = w ∧ (∀ x ∈ xs, x.natAbs ≤ 10 ^ 25) ∧ H' px = some (.lst (xs.map V.int)) ∧ Tab H' p as rows ∧ ExB s H1 H', ?_, ?_⟩
  · refine lc_draw (s := s) (n := 1001) (m := w) (fun x => x.natAbs ≤ 10 ^ 25) (ea_cons (ev_wide (ev_var rfl) (d.ok T1.tab)) ea_nil) (by omega) s2 (fun u => rfl) (fun j H3 e3 hj s3 Q3 k3 => ?_) (fun D xs H3 nD e3 s3 hD hl hP => ⟨D, xs, rfl, hl, hP, hD, (T1.exB e3).tab, e2.trans e3⟩)
    refine ⟨_, rfl, _, rfl, _, _, rfl, rfl, (bg 2 (by decide)).mulOk (bg g (by omega)), _, _, rfl, rfl, s, _, _, rfl, s3, by omega, by omega, ?_, fun f H4 f0 f1 e4 s4 => ⟨_, rfl, _, _, rfl, rfl, k3 (f - g) H4 ?_ e4 s4⟩⟩
    · exact (bg (2 * g + 1) (by omega)).mono (by decide)
    · have : (10 : Nat) ^ 25 = 10000000000000000000000000 := by decide
      rw [this]
      omega
  rintro σ' H3 ⟨px, xs, rfl, lx, bx, hx, T, e3⟩
  have hL := (e3.ex n1 e1) _ _ hp2
  have bx100 : ∀ x ∈ xs, Bd 100 x := fun x h => by
    unfold Bd
    exact Nat.lt_of_le_of_lt (bx x h) (by decide +kernel)
  have sA : Small 110 rows := ⟨bd, by have := d.m_; omega, fun r hr => by rw [d.w_ r hr]; omega⟩
  clear T1 e2 s2 e3 s1 e1 n1 hp2
  -- due
  refine ⟨fun σ' H' => ∃ v : V, σ' = [some (.ref a0), some (.int (i : Nat)), some (.int c), some (.ref s), some (.ref p), some (.int g), some (.ref px), some v, y8, y9, y10] ∧ Ex H3 H' ∧ HalfAt (fun _ => none) H' v xs (Ls.halfOf rows xs), ?_, ?_⟩
  · exact ⟨_, rfl, _, rfl, p, px, as, rows, m, w, xs, rfl, d.ok T, bd, hx, lx, bx100, fun v H4 e4 hv => ⟨v, rfl, e4, hv⟩⟩
  rintro σ' H4 ⟨v, rfl, e4, hv⟩
  replace T := T.ex e4
  replace hx := e4 _ _ hx
  replace hL := e4 _ _ hL
  clear e4
  -- handed
  refine ⟨fun σ' H' => σ' = [some (.ref a0), some (.int (i : Nat)), some (.int c), some (.ref s), some (.ref p), some (.int g), some (.ref px), some v, some (.str (PyData.tuple [tabD rows, .list (xs.map .int)]).shown), y9, y10] ∧ Ex H4 H', ?_, ?_⟩
  · exact s_asg (ev_reprT (ev_var (i := 4) rfl) (ev_var (i := 6) rfl) T hx sA bx100 (by omega)) fun H5 e5 => ⟨rfl, e5⟩
  rintro σ' H5 ⟨rfl, e5⟩
  replace T := T.ex e5
  replace hx := e5 _ _ hx
  replace hL := e5 _ _ hL
  replace hv := hv.ex e5
  clear e5
  -- twice
  refine s_forR1 (n := 2) (ea_cons ev_c ea_nil) (by decide) (fun a σ' H' => ∃ y9 y10 : Option V, σ' = [some (.ref a0), some (.int (i : Nat)), some (.int c), some (.ref s), some (.ref p), some (.int g), some (.ref px), some v, some (.str (PyData.tuple [tabD rows, .list (xs.map .int)]).shown), y9, y10] ∧ Ex H5 H') (fun H6 e6 => ⟨_, _, rfl, e6⟩) (fun a σ' H6 ha hP => ?_) (fun σ' H6 hP => ?_)
  rotate_left
  · obtain ⟨y9, y10, rfl, e6⟩ := hP
    exact ⟨_, _, _, _, _, _, _, _, _, _, rfl, e6 _ _ hL⟩
  obtain ⟨y9, y10, rfl, e6⟩ := hP
  have T6 := T.ex e6
  refine ⟨fun σ' H' => ∃ u : V, σ' = [some (.ref a0), some (.int (i : Nat)), some (.int c), some (.ref s), some (.ref p), some (.int g), some (.ref px), some v, some (.str (PyData.tuple [tabD rows, .list (xs.map .int)]).shown), some (.int (a : Int)), some u] ∧ Ex H6 H' ∧ HalfAt H6 H' u xs (Ls.halfOf rows xs), ?_, ?_⟩
  · exact ⟨_, rfl, _, rfl, p, px, as, rows, m, w, xs, rfl, d.ok T6, bd, e6 _ _ hx, lx, bx100, fun v H7 e7 hv => ⟨v, rfl, e7, hv⟩⟩
  rintro σ' H7 ⟨u, rfl, e7, hu⟩
  have e57 := e6.trans e7
  have T7 := T6.ex e7
  refine q_when (b := false) (et_is (et_or (a := false) (b := false) (et_test (ev_op (ev_var (i := 10) rfl) (ev_var (i := 7) rfl) (rv_neH hu (hv.ex e57)))) (fun _ => et_is (et_or (a := false) (b := false) (et_is (et_test (ev_op (ev_reprH (ev_var (i := 10) rfl) hu bx (by omega)) (ev_reprH (ev_var (i := 7) rfl) (hv.ex e57) bx (by omega)) (rv_ne rfl))) (by rw [decide_eq_true rfl]; rfl)) (fun _ => et_is (et_test (ev_op (ev_reprT (ev_var (i := 4) rfl) (ev_var (i := 6) rfl) T7 (e57 _ _ hx) sA bx100 (by omega)) (ev_var (i := 8) rfl) (rv_ne rfl))) (by rw [decide_eq_true rfl]; rfl))) rfl)) rfl) (fun z => nomatch z) (fun _ H8 e8 => ?_)
  have hu8 := hu.ex e8
  refine s_when (b := !decide (u = .non)) (et_test (ev_op (ev_var (i := 10) rfl) ev_c (fun G g Q1 k1 => ⟨rfl, k1 G (Ex.refl _)⟩))) (fun z H9 e9 => ?_) (fun z H9 e9 => ⟨_, _, rfl, e57.trans (e8.trans e9)⟩)
  have hu9 := hu8.ex e9
  have e79 := e57.trans (e8.trans e9)
  have bb := fun z (hz : Ls.halfOf rows xs = some z) => half_bd hz bx
  cases ho : Ls.halfOf rows xs with
  | none =>
    rw [ho] at hu9
    have hu9 : u = .non := hu9
    rw [hu9, decide_eq_true rfl] at z
    cases z
  | some zz =>
    obtain ⟨_, _, b3, b4⟩ := bb zz ho
    rw [ho] at hu9
    obtain ⟨t, p1, p2, rfl, h1, h2, h3, n1, n2⟩ := hu9
    refine ⟨_, rfl, t, p1, p2, _, _, rfl, h1, h2, h3, by rw [List.length_map]; omega, by rw [List.length_map]; omega, fun H10 two => ⟨_, _, rfl, fun b o hb => two b o (fun q => ?_) (fun q => ?_) (e79 _ _ hb)⟩⟩
    · have := e6 _ _ hb
      rw [q, n1] at this
      cases this
    · have := e6 _ _ hb
      rw [q, n2] at this
      cases this
end
/-! ### what the top has written; the end -/
theorem all_mk {P : Program} {w : World} {K : PySem.W.Frag} {h : Heap} {mg : Str → Option Value} {fa : Addr} (X : K.In h) (G : h.Ns mainGlobals mg) (hfa : mg "law" = some (.ref fa))
    {f1 : Addr} {od1 an1 : Option Addr} {sl1 : Array (Option Value)} {oc1 kV1 dc1 pm1 cd1 ct1 : Value}
    (a1 : PySem.W.nsIn K mainGlobals "is_whole" = some (some (.ref f1))) (l1 : K.lookup f1 = some ⟨oc1, od1, .func (PySem.W.fnOf "is_whole" "is_whole" (defArgs s_is_whole) (defBody s_is_whole) (defScope s_is_whole) (.none) kV1 dc1 pm1 an1 cd1 ct1), sl1⟩) (c1 : PySem.W.codeIn K cd1 "is_whole" = true) (k1 : PySem.W.keepIn K (.ref f1) = true)
    {f2 : Addr} {od2 an2 : Option Addr} {sl2 : Array (Option Value)} {oc2 kV2 dc2 pm2 cd2 ct2 : Value}
    (a2 : PySem.W.nsIn K mainGlobals "is_long" = some (some (.ref f2))) (l2 : K.lookup f2 = some ⟨oc2, od2, .func (PySem.W.fnOf "is_long" "is_long" (defArgs s_is_long) (defBody s_is_long) (defScope s_is_long) (.none) kV2 dc2 pm2 an2 cd2 ct2), sl2⟩) (c2 : PySem.W.codeIn K cd2 "is_long" = true) (k2 : PySem.W.keepIn K (.ref f2) = true)
    {f3 : Addr} {od3 an3 : Option Addr} {sl3 : Array (Option Value)} {oc3 kV3 dc3 pm3 cd3 ct3 : Value}
    (a3 : PySem.W.nsIn K mainGlobals "is_numbers" = some (some (.ref f3))) (l3 : K.lookup f3 = some ⟨oc3, od3, .func (PySem.W.fnOf "is_numbers" "is_numbers" (defArgs s_is_numbers) (defBody s_is_numbers) (defScope s_is_numbers) (.none) kV3 dc3 pm3 an3 cd3 ct3), sl3⟩) (c3 : PySem.W.codeIn K cd3 "is_numbers" = true) (k3 : PySem.W.keepIn K (.ref f3) = true)
    {f4 : Addr} {od4 an4 : Option Addr} {sl4 : Array (Option Value)} {oc4 kV4 dc4 pm4 cd4 ct4 : Value}
    (a4 : PySem.W.nsIn K mainGlobals "check_numbers" = some (some (.ref f4))) (l4 : K.lookup f4 = some ⟨oc4, od4, .func (PySem.W.fnOf "check_numbers" "check_numbers" (defArgs s_check_numbers) (defBody s_check_numbers) (defScope s_check_numbers) (.none) kV4 dc4 pm4 an4 cd4 ct4), sl4⟩) (c4 : PySem.W.codeIn K cd4 "check_numbers" = true) (k4 : PySem.W.keepIn K (.ref f4) = true)
    {f5 : Addr} {od5 an5 : Option Addr} {sl5 : Array (Option Value)} {oc5 kV5 dc5 pm5 cd5 ct5 : Value}
    (a5 : PySem.W.nsIn K mainGlobals "all_lists" = some (some (.ref f5))) (l5 : K.lookup f5 = some ⟨oc5, od5, .func (PySem.W.fnOf "all_lists" "all_lists" (defArgs s_all_lists) (defBody s_all_lists) (defScope s_all_lists) (.none) kV5 dc5 pm5 an5 cd5 ct5), sl5⟩) (c5 : PySem.W.codeIn K cd5 "all_lists" = true) (k5 : PySem.W.keepIn K (.ref f5) = true)
    {f6 : Addr} {od6 an6 : Option Addr} {sl6 : Array (Option Value)} {oc6 kV6 dc6 pm6 cd6 ct6 : Value}
    (a6 : PySem.W.nsIn K mainGlobals "is_table" = some (some (.ref f6))) (l6 : K.lookup f6 = some ⟨oc6, od6, .func (PySem.W.fnOf "is_table" "is_table" (defArgs s_is_table) (defBody s_is_table) (defScope s_is_table) (.none) kV6 dc6 pm6 an6 cd6 ct6), sl6⟩) (c6 : PySem.W.codeIn K cd6 "is_table" = true) (k6 : PySem.W.keepIn K (.ref f6) = true)
    {f7 : Addr} {od7 an7 : Option Addr} {sl7 : Array (Option Value)} {oc7 kV7 dc7 pm7 cd7 ct7 : Value}
    (a7 : PySem.W.nsIn K mainGlobals "is_row" = some (some (.ref f7))) (l7 : K.lookup f7 = some ⟨oc7, od7, .func (PySem.W.fnOf "is_row" "is_row" (defArgs s_is_row) (defBody s_is_row) (defScope s_is_row) (.none) kV7 dc7 pm7 an7 cd7 ct7), sl7⟩) (c7 : PySem.W.codeIn K cd7 "is_row" = true) (k7 : PySem.W.keepIn K (.ref f7) = true)
    {f8 : Addr} {od8 an8 : Option Addr} {sl8 : Array (Option Value)} {oc8 kV8 dc8 pm8 cd8 ct8 : Value}
    (a8 : PySem.W.nsIn K mainGlobals "check_table" = some (some (.ref f8))) (l8 : K.lookup f8 = some ⟨oc8, od8, .func (PySem.W.fnOf "check_table" "check_table" (defArgs s_check_table) (defBody s_check_table) (defScope s_check_table) (.none) kV8 dc8 pm8 an8 cd8 ct8), sl8⟩) (c8 : PySem.W.codeIn K cd8 "check_table" = true) (k8 : PySem.W.keepIn K (.ref f8) = true)
    {f9 : Addr} {od9 an9 : Option Addr} {sl9 : Array (Option Value)} {oc9 kV9 dc9 pm9 cd9 ct9 : Value}
    (a9 : PySem.W.nsIn K mainGlobals "row_totals" = some (some (.ref f9))) (l9 : K.lookup f9 = some ⟨oc9, od9, .func (PySem.W.fnOf "row_totals" "row_totals" (defArgs s_row_totals) (defBody s_row_totals) (defScope s_row_totals) (.none) kV9 dc9 pm9 an9 cd9 ct9), sl9⟩) (c9 : PySem.W.codeIn K cd9 "row_totals" = true) (k9 : PySem.W.keepIn K (.ref f9) = true)
    {f10 : Addr} {od10 an10 : Option Addr} {sl10 : Array (Option Value)} {oc10 kV10 dc10 pm10 cd10 ct10 : Value}
    (a10 : PySem.W.nsIn K mainGlobals "are_small" = some (some (.ref f10))) (l10 : K.lookup f10 = some ⟨oc10, od10, .func (PySem.W.fnOf "are_small" "are_small" (defArgs s_are_small) (defBody s_are_small) (defScope s_are_small) (.none) kV10 dc10 pm10 an10 cd10 ct10), sl10⟩) (c10 : PySem.W.codeIn K cd10 "are_small" = true) (k10 : PySem.W.keepIn K (.ref f10) = true)
    {f11 : Addr} {od11 an11 : Option Addr} {sl11 : Array (Option Value)} {oc11 kV11 dc11 pm11 cd11 ct11 : Value}
    (a11 : PySem.W.nsIn K mainGlobals "halved" = some (some (.ref f11))) (l11 : K.lookup f11 = some ⟨oc11, od11, .func (PySem.W.fnOf "halved" "halved" (defArgs s_halved) (defBody s_halved) (defScope s_halved) (.none) kV11 dc11 pm11 an11 cd11 ct11), sl11⟩) (c11 : PySem.W.codeIn K cd11 "halved" = true) (k11 : PySem.W.keepIn K (.ref f11) = true)
    {f12 : Addr} {od12 an12 : Option Addr} {sl12 : Array (Option Value)} {oc12 kV12 dc12 pm12 cd12 ct12 : Value}
    (a12 : PySem.W.nsIn K mainGlobals "halves" = some (some (.ref f12))) (l12 : K.lookup f12 = some ⟨oc12, od12, .func (PySem.W.fnOf "halves" "halves" (defArgs s_halves) (defBody s_halves) (defScope s_halves) (.none) kV12 dc12 pm12 an12 cd12 ct12), sl12⟩) (c12 : PySem.W.codeIn K cd12 "halves" = true) (k12 : PySem.W.keepIn K (.ref f12) = true)
    {f13 : Addr} {od13 an13 : Option Addr} {sl13 : Array (Option Value)} {oc13 kV13 dc13 pm13 cd13 ct13 : Value}
    (a13 : PySem.W.nsIn K mainGlobals "_law_source_of" = some (some (.ref f13))) (l13 : K.lookup f13 = some ⟨oc13, od13, .func (PySem.W.fnOf "_law_source_of" "_law_source_of" (defArgs s__law_source_of) (defBody s__law_source_of) (defScope s__law_source_of) (.none) kV13 dc13 pm13 an13 cd13 ct13), sl13⟩) (c13 : PySem.W.codeIn K cd13 "_law_source_of" = true) (k13 : PySem.W.keepIn K (.ref f13) = true)
    {f14 : Addr} {od14 an14 : Option Addr} {sl14 : Array (Option Value)} {oc14 kV14 dc14 pm14 cd14 ct14 : Value}
    (a14 : PySem.W.nsIn K mainGlobals "_law_next" = some (some (.ref f14))) (l14 : K.lookup f14 = some ⟨oc14, od14, .func (PySem.W.fnOf "_law_next" "_law_next" (defArgs s__law_next) (defBody s__law_next) (defScope s__law_next) (.none) kV14 dc14 pm14 an14 cd14 ct14), sl14⟩) (c14 : PySem.W.codeIn K cd14 "_law_next" = true) (k14 : PySem.W.keepIn K (.ref f14) = true)
    {f15 : Addr} {od15 an15 : Option Addr} {sl15 : Array (Option Value)} {oc15 kV15 dc15 pm15 cd15 ct15 : Value}
    (a15 : PySem.W.nsIn K mainGlobals "_law_one" = some (some (.ref f15))) (l15 : K.lookup f15 = some ⟨oc15, od15, .func (PySem.W.fnOf "_law_one" "_law_one" (defArgs s__law_one) (defBody s__law_one) (defScope s__law_one) (.none) kV15 dc15 pm15 an15 cd15 ct15), sl15⟩) (c15 : PySem.W.codeIn K cd15 "_law_one" = true) (k15 : PySem.W.keepIn K (.ref f15) = true)
    {f16 : Addr} {od16 an16 : Option Addr} {sl16 : Array (Option Value)} {oc16 kV16 dc16 pm16 cd16 ct16 : Value}
    (a16 : PySem.W.nsIn K mainGlobals "_law_cell_at" = some (some (.ref f16))) (l16 : K.lookup f16 = some ⟨oc16, od16, .func (PySem.W.fnOf "_law_cell_at" "_law_cell_at" (defArgs s__law_cell_at) (defBody s__law_cell_at) (defScope s__law_cell_at) (.none) kV16 dc16 pm16 an16 cd16 ct16), sl16⟩) (c16 : PySem.W.codeIn K cd16 "_law_cell_at" = true) (k16 : PySem.W.keepIn K (.ref f16) = true)
    {f17 : Addr} {od17 an17 : Option Addr} {sl17 : Array (Option Value)} {oc17 kV17 dc17 pm17 cd17 ct17 : Value}
    (a17 : PySem.W.nsIn K mainGlobals "_law_mixed" = some (some (.ref f17))) (l17 : K.lookup f17 = some ⟨oc17, od17, .func (PySem.W.fnOf "_law_mixed" "_law_mixed" (defArgs s__law_mixed) (defBody s__law_mixed) (defScope s__law_mixed) (.none) kV17 dc17 pm17 an17 cd17 ct17), sl17⟩) (c17 : PySem.W.codeIn K cd17 "_law_mixed" = true) (k17 : PySem.W.keepIn K (.ref f17) = true)
    {f18 : Addr} {od18 an18 : Option Addr} {sl18 : Array (Option Value)} {oc18 kV18 dc18 pm18 cd18 ct18 : Value}
    (a18 : PySem.W.nsIn K mainGlobals "_law_ends" = some (some (.ref f18))) (l18 : K.lookup f18 = some ⟨oc18, od18, .func (PySem.W.fnOf "_law_ends" "_law_ends" (defArgs s__law_ends) (defBody s__law_ends) (defScope s__law_ends) (.none) kV18 dc18 pm18 an18 cd18 ct18), sl18⟩) (c18 : PySem.W.codeIn K cd18 "_law_ends" = true) (k18 : PySem.W.keepIn K (.ref f18) = true)
    {f19 : Addr} {od19 an19 : Option Addr} {sl19 : Array (Option Value)} {oc19 kV19 dc19 pm19 cd19 ct19 : Value}
    (a19 : PySem.W.nsIn K mainGlobals "_law_net" = some (some (.ref f19))) (l19 : K.lookup f19 = some ⟨oc19, od19, .func (PySem.W.fnOf "_law_net" "_law_net" (defArgs s__law_net) (defBody s__law_net) (defScope s__law_net) (.none) kV19 dc19 pm19 an19 cd19 ct19), sl19⟩) (c19 : PySem.W.codeIn K cd19 "_law_net" = true) (k19 : PySem.W.keepIn K (.ref f19) = true)
    {f20 : Addr} {od20 an20 : Option Addr} {sl20 : Array (Option Value)} {oc20 kV20 dc20 pm20 cd20 ct20 : Value}
    (a20 : PySem.W.nsIn K mainGlobals "_law_net_drawn" = some (some (.ref f20))) (l20 : K.lookup f20 = some ⟨oc20, od20, .func (PySem.W.fnOf "_law_net_drawn" "_law_net_drawn" (defArgs s__law_net_drawn) (defBody s__law_net_drawn) (defScope s__law_net_drawn) (.none) kV20 dc20 pm20 an20 cd20 ct20), sl20⟩) (c20 : PySem.W.codeIn K cd20 "_law_net_drawn" = true) (k20 : PySem.W.keepIn K (.ref f20) = true)
    {f21 : Addr} {od21 an21 : Option Addr} {sl21 : Array (Option Value)} {oc21 kV21 dc21 pm21 cd21 ct21 : Value}
    (a21 : PySem.W.nsIn K mainGlobals "_law_stretches" = some (some (.ref f21))) (l21 : K.lookup f21 = some ⟨oc21, od21, .func (PySem.W.fnOf "_law_stretches" "_law_stretches" (defArgs s__law_stretches) (defBody s__law_stretches) (defScope s__law_stretches) (.none) kV21 dc21 pm21 an21 cd21 ct21), sl21⟩) (c21 : PySem.W.codeIn K cd21 "_law_stretches" = true) (k21 : PySem.W.keepIn K (.ref f21) = true)
    {f22 : Addr} {od22 an22 : Option Addr} {sl22 : Array (Option Value)} {oc22 kV22 dc22 pm22 cd22 ct22 : Value}
    (a22 : PySem.W.nsIn K mainGlobals "_law_swung" = some (some (.ref f22))) (l22 : K.lookup f22 = some ⟨oc22, od22, .func (PySem.W.fnOf "_law_swung" "_law_swung" (defArgs s__law_swung) (defBody s__law_swung) (defScope s__law_swung) (.none) kV22 dc22 pm22 an22 cd22 ct22), sl22⟩) (c22 : PySem.W.codeIn K cd22 "_law_swung" = true) (k22 : PySem.W.keepIn K (.ref f22) = true)
    {f23 : Addr} {od23 an23 : Option Addr} {sl23 : Array (Option Value)} {oc23 kV23 dc23 pm23 cd23 ct23 : Value}
    (a23 : PySem.W.nsIn K mainGlobals "_law_table" = some (some (.ref f23))) (l23 : K.lookup f23 = some ⟨oc23, od23, .func (PySem.W.fnOf "_law_table" "_law_table" (defArgs s__law_table) (defBody s__law_table) (defScope s__law_table) (.none) kV23 dc23 pm23 an23 cd23 ct23), sl23⟩) (c23 : PySem.W.codeIn K cd23 "_law_table" = true) (k23 : PySem.W.keepIn K (.ref f23) = true)
    {f24 : Addr} {od24 an24 : Option Addr} {sl24 : Array (Option Value)} {oc24 kV24 dc24 pm24 cd24 ct24 : Value}
    (a24 : PySem.W.nsIn K mainGlobals "_law_spent" = some (some (.ref f24))) (l24 : K.lookup f24 = some ⟨oc24, od24, .func (PySem.W.fnOf "_law_spent" "_law_spent" (defArgs s__law_spent) (defBody s__law_spent) (defScope s__law_spent) (.none) kV24 dc24 pm24 an24 cd24 ct24), sl24⟩) (c24 : PySem.W.codeIn K cd24 "_law_spent" = true) (k24 : PySem.W.keepIn K (.ref f24) = true)
    {f25 : Addr} {od25 an25 : Option Addr} {sl25 : Array (Option Value)} {oc25 kV25 dc25 pm25 cd25 ct25 : Value}
    (a25 : PySem.W.nsIn K mainGlobals "_law_lists" = some (some (.ref f25))) (l25 : K.lookup f25 = some ⟨oc25, od25, .func (PySem.W.fnOf "_law_lists" "_law_lists" (defArgs s__law_lists) (defBody s__law_lists) (defScope s__law_lists) (.none) kV25 dc25 pm25 an25 cd25 ct25), sl25⟩) (c25 : PySem.W.codeIn K cd25 "_law_lists" = true) (k25 : PySem.W.keepIn K (.ref f25) = true)
    {f26 : Addr} {od26 an26 : Option Addr} {sl26 : Array (Option Value)} {oc26 kV26 dc26 pm26 cd26 ct26 : Value}
    (a26 : PySem.W.nsIn K mainGlobals "_law_whole_sums" = some (some (.ref f26))) (l26 : K.lookup f26 = some ⟨oc26, od26, .func (PySem.W.fnOf "_law_whole_sums" "_law_whole_sums" (defArgs s__law_whole_sums) (defBody s__law_whole_sums) (defScope s__law_whole_sums) (.none) kV26 dc26 pm26 an26 cd26 ct26), sl26⟩) (c26 : PySem.W.codeIn K cd26 "_law_whole_sums" = true) (k26 : PySem.W.keepIn K (.ref f26) = true)
    {f27 : Addr} {od27 an27 : Option Addr} {sl27 : Array (Option Value)} {oc27 kV27 dc27 pm27 cd27 ct27 : Value}
    (a27 : PySem.W.nsIn K mainGlobals "_law_out" = some (some (.ref f27))) (l27 : K.lookup f27 = some ⟨oc27, od27, .func (PySem.W.fnOf "_law_out" "_law_out" (defArgs s__law_out) (defBody s__law_out) (defScope s__law_out) (.none) kV27 dc27 pm27 an27 cd27 ct27), sl27⟩) (c27 : PySem.W.codeIn K cd27 "_law_out" = true) (k27 : PySem.W.keepIn K (.ref f27) = true)
    {f28 : Addr} {od28 an28 : Option Addr} {sl28 : Array (Option Value)} {oc28 kV28 dc28 pm28 cd28 ct28 : Value}
    (a28 : PySem.W.nsIn K mainGlobals "_law_halves" = some (some (.ref f28))) (l28 : K.lookup f28 = some ⟨oc28, od28, .func (PySem.W.fnOf "_law_halves" "_law_halves" (defArgs s__law_halves) (defBody s__law_halves) (defScope s__law_halves) (.none) kV28 dc28 pm28 an28 cd28 ct28), sl28⟩) (c28 : PySem.W.codeIn K cd28 "_law_halves" = true) (k28 : PySem.W.keepIn K (.ref f28) = true)
    {f29 : Addr} {od29 an29 : Option Addr} {sl29 : Array (Option Value)} {oc29 kV29 dc29 pm29 cd29 ct29 : Value}
    (a29 : PySem.W.nsIn K mainGlobals "law" = some (some (.ref f29))) (l29 : K.lookup f29 = some ⟨oc29, od29, .func (PySem.W.fnOf "law" "law" (defArgs s_law) (defBody s_law) (defScope s_law) (.none) kV29 dc29 pm29 an29 cd29 ct29), sl29⟩) (c29 : PySem.W.codeIn K cd29 "law" = true) (k29 : PySem.W.keepIn K (.ref f29) = true)
    (z_abs : PySem.W.nsIn K mainGlobals "abs" = some none)
    (z_all : PySem.W.nsIn K mainGlobals "all" = some none)
    (z_bool : PySem.W.nsIn K mainGlobals "bool" = some none)
    (z_enumerate : PySem.W.nsIn K mainGlobals "enumerate" = some none)
    (z_int : PySem.W.nsIn K mainGlobals "int" = some none)
    (z_isinstance : PySem.W.nsIn K mainGlobals "isinstance" = some none)
    (z_len : PySem.W.nsIn K mainGlobals "len" = some none)
    (z_list : PySem.W.nsIn K mainGlobals "list" = some none)
    (z_max : PySem.W.nsIn K mainGlobals "max" = some none)
    (z_range : PySem.W.nsIn K mainGlobals "range" = some none)
    (z_repr : PySem.W.nsIn K mainGlobals "repr" = some none)
    (z_sum : PySem.W.nsIn K mainGlobals "sum" = some none)
    (z_zip : PySem.W.nsIn K mainGlobals "zip" = some none)
    {tk_MOST : Tok} (x_MOST : PySem.W.nsIn K mainGlobals "MOST" = some (some (.int 8 tk_MOST)))
    : ∀ (a : Addr) (s : Shared) (ns : List Int), ns.length ≤ 63 → Own.Asked P w K mg fa a ns s := by
  have e := hfa.symm.trans (PySem.W.mg_of X G a29)
  cases e
  have F1 := fun_mk (st := s_is_whole) l1 c1 k1
  have b1 := F1.binds (ps := ["thing"]) fun _ _ _ _ _ _ us hl => match us, hl with | [_], _ => rfl
  have F2 := fun_mk (st := s_is_long) l2 c2 k2
  have b2 := F2.binds (ps := ["thing", "many"]) fun _ _ _ _ _ _ us hl => match us, hl with | [_, _], _ => rfl
  have F3 := fun_mk (st := s_is_numbers) l3 c3 k3
  have b3 := F3.binds (ps := ["thing", "many"]) fun _ _ _ _ _ _ us hl => match us, hl with | [_, _], _ => rfl
  have F4 := fun_mk (st := s_check_numbers) l4 c4 k4
  have b4 := F4.binds (ps := ["thing", "many", "word"]) fun _ _ _ _ _ _ us hl => match us, hl with | [_, _, _], _ => rfl
  have F5 := fun_mk (st := s_all_lists) l5 c5 k5
  have b5 := F5.binds (ps := ["choices"]) fun _ _ _ _ _ _ us hl => match us, hl with | [_], _ => rfl
  have F6 := fun_mk (st := s_is_table) l6 c6 k6
  have b6 := F6.binds (ps := ["thing"]) fun _ _ _ _ _ _ us hl => match us, hl with | [_], _ => rfl
  have F7 := fun_mk (st := s_is_row) l7 c7 k7
  have b7 := F7.binds (ps := ["thing"]) fun _ _ _ _ _ _ us hl => match us, hl with | [_], _ => rfl
  have F8 := fun_mk (st := s_check_table) l8 c8 k8
  have b8 := F8.binds (ps := ["thing"]) fun _ _ _ _ _ _ us hl => match us, hl with | [_], _ => rfl
  have F9 := fun_mk (st := s_row_totals) l9 c9 k9
  have b9 := F9.binds (ps := ["table", "numbers"]) fun _ _ _ _ _ _ us hl => match us, hl with | [_, _], _ => rfl
  have F10 := fun_mk (st := s_are_small) l10 c10 k10
  have b10 := F10.binds (ps := ["totals"]) fun _ _ _ _ _ _ us hl => match us, hl with | [_], _ => rfl
  have F11 := fun_mk (st := s_halved) l11 c11 k11
  have b11 := F11.binds (ps := ["table", "xs"]) fun _ _ _ _ _ _ us hl => match us, hl with | [_, _], _ => rfl
  have F12 := fun_mk (st := s_halves) l12 c12 k12
  have b12 := F12.binds (ps := ["x"]) fun _ _ _ _ _ _ us hl => match us, hl with | [_], _ => rfl
  have F13 := fun_mk (st := s__law_source_of) l13 c13 k13
  have b13 := F13.binds (ps := ["_law_cell"]) fun _ _ _ _ _ _ us hl => match us, hl with | [_], _ => rfl
  have F14 := fun_mk (st := s__law_next) l14 c14 k14
  have b14 := F14.binds (ps := ["_law_source", "_law_many"]) fun _ _ _ _ _ _ us hl => match us, hl with | [_, _], _ => rfl
  have F15 := fun_mk (st := s__law_one) l15 c15 k15
  have b15 := F15.binds (ps := ["_law_source", "_law_some"]) fun _ _ _ _ _ _ us hl => match us, hl with | [_, _], _ => rfl
  have F16 := fun_mk (st := s__law_cell_at) l16 c16 k16
  have b16 := F16.binds (ps := ["_law_script", "_law_k"]) fun _ _ _ _ _ _ us hl => match us, hl with | [_, _], _ => rfl
  have F17 := fun_mk (st := s__law_mixed) l17 c17 k17
  have b17 := F17.binds (ps := ["_law_source", "_law_some"]) fun _ _ _ _ _ _ us hl => match us, hl with | [_, _], _ => rfl
  have F18 := fun_mk (st := s__law_ends) l18 c18 k18
  have b18 := F18.binds (ps := ["_law_source", "_law_many"]) fun _ _ _ _ _ _ us hl => match us, hl with | [_, _], _ => rfl
  have F19 := fun_mk (st := s__law_net) l19 c19 k19
  have b19 := F19.binds (ps := ["_law_ends_here", "_law_arcs"]) fun _ _ _ _ _ _ us hl => match us, hl with | [_, _], _ => rfl
  have F20 := fun_mk (st := s__law_net_drawn) l20 c20 k20
  have b20 := F20.binds (ps := ["_law_source", "_law_many", "_law_wide"]) fun _ _ _ _ _ _ us hl => match us, hl with | [_, _, _], _ => rfl
  have F21 := fun_mk (st := s__law_stretches) l21 c21 k21
  have b21 := F21.binds (ps := ["_law_source", "_law_many", "_law_wide"]) fun _ _ _ _ _ _ us hl => match us, hl with | [_, _, _], _ => rfl
  have F22 := fun_mk (st := s__law_swung) l22 c22 k22
  have b22 := F22.binds (ps := ["_law_source", "_law_table_here"]) fun _ _ _ _ _ _ us hl => match us, hl with | [_, _], _ => rfl
  have F23 := fun_mk (st := s__law_table) l23 c23 k23
  have b23 := F23.binds (ps := ["_law_source", "_law_most"]) fun _ _ _ _ _ _ us hl => match us, hl with | [_, _], _ => rfl
  have F24 := fun_mk (st := s__law_spent) l24 c24 k24
  have b24 := F24.binds (ps := ["_law_got"]) fun _ _ _ _ _ _ us hl => match us, hl with | [_], _ => rfl
  have F25 := fun_mk (st := s__law_lists) l25 c25 k25
  have b25 := F25.binds (ps := ["_law_lows", "_law_highs"]) fun _ _ _ _ _ _ us hl => match us, hl with | [_, _], _ => rfl
  have F26 := fun_mk (st := s__law_whole_sums) l26 c26 k26
  have b26 := F26.binds (ps := ["_law_table_here", "_law_xs"]) fun _ _ _ _ _ _ us hl => match us, hl with | [_, _], _ => rfl
  have F27 := fun_mk (st := s__law_out) l27 c27 k27
  have b27 := F27.binds (ps := ["_law_table_here", "_law_signs"]) fun _ _ _ _ _ _ us hl => match us, hl with | [_, _], _ => rfl
  have F28 := fun_mk (st := s__law_halves) l28 c28 k28
  have b28 := F28.binds (ps := ["_law_table_here", "_law_xs"]) fun _ _ _ _ _ _ us hl => match us, hl with | [_, _], _ => rfl
  have F29 := fun_mk (st := s_law) l29 c29 k29
  have b29 := F29.binds (ps := ["_law_script"]) fun _ _ _ _ _ _ us hl => match us, hl with | [_], _ => rfl
  let T : Txt K mg := {
    f_is_whole := f1, fd_is_whole := _, F_is_whole := F1, g_is_whole := PySem.W.mg_of X G a1, k_is_whole := k1, b_is_whole := b1,
    f_is_long := f2, fd_is_long := _, F_is_long := F2, g_is_long := PySem.W.mg_of X G a2, k_is_long := k2, b_is_long := b2,
    f_is_numbers := f3, fd_is_numbers := _, F_is_numbers := F3, g_is_numbers := PySem.W.mg_of X G a3, k_is_numbers := k3, b_is_numbers := b3,
    f_check_numbers := f4, fd_check_numbers := _, F_check_numbers := F4, g_check_numbers := PySem.W.mg_of X G a4, k_check_numbers := k4, b_check_numbers := b4,
    f_all_lists := f5, fd_all_lists := _, F_all_lists := F5, g_all_lists := PySem.W.mg_of X G a5, k_all_lists := k5, b_all_lists := b5,
    f_is_table := f6, fd_is_table := _, F_is_table := F6, g_is_table := PySem.W.mg_of X G a6, k_is_table := k6, b_is_table := b6,
    f_is_row := f7, fd_is_row := _, F_is_row := F7, g_is_row := PySem.W.mg_of X G a7, k_is_row := k7, b_is_row := b7,
    f_check_table := f8, fd_check_table := _, F_check_table := F8, g_check_table := PySem.W.mg_of X G a8, k_check_table := k8, b_check_table := b8,
    f_row_totals := f9, fd_row_totals := _, F_row_totals := F9, g_row_totals := PySem.W.mg_of X G a9, k_row_totals := k9, b_row_totals := b9,
    f_are_small := f10, fd_are_small := _, F_are_small := F10, g_are_small := PySem.W.mg_of X G a10, k_are_small := k10, b_are_small := b10,
    f_halved := f11, fd_halved := _, F_halved := F11, g_halved := PySem.W.mg_of X G a11, k_halved := k11, b_halved := b11,
    f_halves := f12, fd_halves := _, F_halves := F12, g_halves := PySem.W.mg_of X G a12, k_halves := k12, b_halves := b12,
    f__law_source_of := f13, fd__law_source_of := _, F__law_source_of := F13, g__law_source_of := PySem.W.mg_of X G a13, k__law_source_of := k13, b__law_source_of := b13,
    f__law_next := f14, fd__law_next := _, F__law_next := F14, g__law_next := PySem.W.mg_of X G a14, k__law_next := k14, b__law_next := b14,
    f__law_one := f15, fd__law_one := _, F__law_one := F15, g__law_one := PySem.W.mg_of X G a15, k__law_one := k15, b__law_one := b15,
    f__law_cell_at := f16, fd__law_cell_at := _, F__law_cell_at := F16, g__law_cell_at := PySem.W.mg_of X G a16, k__law_cell_at := k16, b__law_cell_at := b16,
    f__law_mixed := f17, fd__law_mixed := _, F__law_mixed := F17, g__law_mixed := PySem.W.mg_of X G a17, k__law_mixed := k17, b__law_mixed := b17,
    f__law_ends := f18, fd__law_ends := _, F__law_ends := F18, g__law_ends := PySem.W.mg_of X G a18, k__law_ends := k18, b__law_ends := b18,
    f__law_net := f19, fd__law_net := _, F__law_net := F19, g__law_net := PySem.W.mg_of X G a19, k__law_net := k19, b__law_net := b19,
    f__law_net_drawn := f20, fd__law_net_drawn := _, F__law_net_drawn := F20, g__law_net_drawn := PySem.W.mg_of X G a20, k__law_net_drawn := k20, b__law_net_drawn := b20,
    f__law_stretches := f21, fd__law_stretches := _, F__law_stretches := F21, g__law_stretches := PySem.W.mg_of X G a21, k__law_stretches := k21, b__law_stretches := b21,
    f__law_swung := f22, fd__law_swung := _, F__law_swung := F22, g__law_swung := PySem.W.mg_of X G a22, k__law_swung := k22, b__law_swung := b22,
    f__law_table := f23, fd__law_table := _, F__law_table := F23, g__law_table := PySem.W.mg_of X G a23, k__law_table := k23, b__law_table := b23,
    f__law_spent := f24, fd__law_spent := _, F__law_spent := F24, g__law_spent := PySem.W.mg_of X G a24, k__law_spent := k24, b__law_spent := b24,
    f__law_lists := f25, fd__law_lists := _, F__law_lists := F25, g__law_lists := PySem.W.mg_of X G a25, k__law_lists := k25, b__law_lists := b25,
    f__law_whole_sums := f26, fd__law_whole_sums := _, F__law_whole_sums := F26, g__law_whole_sums := PySem.W.mg_of X G a26, k__law_whole_sums := k26, b__law_whole_sums := b26,
    f__law_out := f27, fd__law_out := _, F__law_out := F27, g__law_out := PySem.W.mg_of X G a27, k__law_out := k27, b__law_out := b27,
    f__law_halves := f28, fd__law_halves := _, F__law_halves := F28, g__law_halves := PySem.W.mg_of X G a28, k__law_halves := k28, b__law_halves := b28,
    f_law := fa, fd_law := _, F_law := F29, g_law := PySem.W.mg_of X G a29, k_law := k29, b_law := b29,
    n_abs := PySem.W.mg_none_of X G z_abs,
    n_all := PySem.W.mg_none_of X G z_all,
    n_bool := PySem.W.mg_none_of X G z_bool,
    n_enumerate := PySem.W.mg_none_of X G z_enumerate,
    n_int := PySem.W.mg_none_of X G z_int,
    n_isinstance := PySem.W.mg_none_of X G z_isinstance,
    n_len := PySem.W.mg_none_of X G z_len,
    n_list := PySem.W.mg_none_of X G z_list,
    n_max := PySem.W.mg_none_of X G z_max,
    n_range := PySem.W.mg_none_of X G z_range,
    n_repr := PySem.W.mg_none_of X G z_repr,
    n_sum := PySem.W.mg_none_of X G z_sum,
    n_zip := PySem.W.mg_none_of X G z_zip,
    t_MOST := tk_MOST, g_MOST := PySem.W.mg_of X G x_MOST }
  exact fun a s ns hl root G inR gl env hS => run_law (base := root) T env ⟨a, ns, rfl, hS, hl, fun _ => rfl⟩
end SbE47
open PySem PySem.W PyProof.Rows
set_option maxRecDepth 100000 in
set_option maxHeartbeats 0 in
theorem PySem.Challenge.cw_signbook_k47_halves_of_whole_numbers_holds : PySem.Challenge.rw_signbook_k47_halves_of_whole_numbers.Holds := by
  w_on; o_law; k_head; (case hw => w_witness2)
  k_fill
  refine Own.walk_asked (l := PySem.Challenge.rw_signbook_k47_halves_of_whole_numbers) (n := 63) rfl (by decide) rfl (fun w h Y => PySem.W.kIn_of Y) ?F
  case F =>
    intro w mg fa a s ns KX G hmg hl
    refine' SbE47.all_mk KX G hmg ?a1 ?l1 ?c1 ?k1 ?a2 ?l2 ?c2 ?k2 ?a3 ?l3 ?c3 ?k3 ?a4 ?l4 ?c4 ?k4 ?a5 ?l5 ?c5 ?k5 ?a6 ?l6 ?c6 ?k6 ?a7 ?l7 ?c7 ?k7 ?a8 ?l8 ?c8 ?k8 ?a9 ?l9 ?c9 ?k9 ?a10 ?l10 ?c10 ?k10 ?a11 ?l11 ?c11 ?k11 ?a12 ?l12 ?c12 ?k12 ?a13 ?l13 ?c13 ?k13 ?a14 ?l14 ?c14 ?k14 ?a15 ?l15 ?c15 ?k15 ?a16 ?l16 ?c16 ?k16 ?a17 ?l17 ?c17 ?k17 ?a18 ?l18 ?c18 ?k18 ?a19 ?l19 ?c19 ?k19 ?a20 ?l20 ?c20 ?k20 ?a21 ?l21 ?c21 ?k21 ?a22 ?l22 ?c22 ?k22 ?a23 ?l23 ?c23 ?k23 ?a24 ?l24 ?c24 ?k24 ?a25 ?l25 ?c25 ?k25 ?a26 ?l26 ?c26 ?k26 ?a27 ?l27 ?c27 ?k27 ?a28 ?l28 ?c28 ?k28 ?a29 ?l29 ?c29 ?k29 ?z_abs ?z_all ?z_bool ?z_enumerate ?z_int ?z_isinstance ?z_len ?z_list ?z_max ?z_range ?z_repr ?z_sum ?z_zip ?x_MOST a s ns hl
    (case a1 => k_is)
    (case l1 => k_is)
    (case c1 => k_is)
    (case k1 => k_is)
    (case a2 => k_is)
    (case l2 => k_is)
    (case c2 => k_is)
    (case k2 => k_is)
    (case a3 => k_is)
    (case l3 => k_is)
    (case c3 => k_is)
    (case k3 => k_is)
    (case a4 => k_is)
    (case l4 => k_is)
    (case c4 => k_is)
    (case k4 => k_is)
    (case a5 => k_is)
    (case l5 => k_is)
    (case c5 => k_is)
    (case k5 => k_is)
    (case a6 => k_is)
    (case l6 => k_is)
    (case c6 => k_is)
    (case k6 => k_is)
    (case a7 => k_is)
    (case l7 => k_is)
    (case c7 => k_is)
    (case k7 => k_is)
    (case a8 => k_is)
    (case l8 => k_is)
    (case c8 => k_is)
    (case k8 => k_is)
    (case a9 => k_is)
    (case l9 => k_is)
    (case c9 => k_is)
    (case k9 => k_is)
    (case a10 => k_is)
    (case l10 => k_is)
    (case c10 => k_is)
    (case k10 => k_is)
    (case a11 => k_is)
    (case l11 => k_is)
    (case c11 => k_is)
    (case k11 => k_is)
    (case a12 => k_is)
    (case l12 => k_is)
    (case c12 => k_is)
    (case k12 => k_is)
    (case a13 => k_is)
    (case l13 => k_is)
    (case c13 => k_is)
    (case k13 => k_is)
    (case a14 => k_is)
    (case l14 => k_is)
    (case c14 => k_is)
    (case k14 => k_is)
    (case a15 => k_is)
    (case l15 => k_is)
    (case c15 => k_is)
    (case k15 => k_is)
    (case a16 => k_is)
    (case l16 => k_is)
    (case c16 => k_is)
    (case k16 => k_is)
    (case a17 => k_is)
    (case l17 => k_is)
    (case c17 => k_is)
    (case k17 => k_is)
    (case a18 => k_is)
    (case l18 => k_is)
    (case c18 => k_is)
    (case k18 => k_is)
    (case a19 => k_is)
    (case l19 => k_is)
    (case c19 => k_is)
    (case k19 => k_is)
    (case a20 => k_is)
    (case l20 => k_is)
    (case c20 => k_is)
    (case k20 => k_is)
    (case a21 => k_is)
    (case l21 => k_is)
    (case c21 => k_is)
    (case k21 => k_is)
    (case a22 => k_is)
    (case l22 => k_is)
    (case c22 => k_is)
    (case k22 => k_is)
    (case a23 => k_is)
    (case l23 => k_is)
    (case c23 => k_is)
    (case k23 => k_is)
    (case a24 => k_is)
    (case l24 => k_is)
    (case c24 => k_is)
    (case k24 => k_is)
    (case a25 => k_is)
    (case l25 => k_is)
    (case c25 => k_is)
    (case k25 => k_is)
    (case a26 => k_is)
    (case l26 => k_is)
    (case c26 => k_is)
    (case k26 => k_is)
    (case a27 => k_is)
    (case l27 => k_is)
    (case c27 => k_is)
    (case k27 => k_is)
    (case a28 => k_is)
    (case l28 => k_is)
    (case c28 => k_is)
    (case k28 => k_is)
    (case a29 => k_is)
    (case l29 => k_is)
    (case c29 => k_is)
    (case k29 => k_is)
    (case z_abs => k_is)
    (case z_all => k_is)
    (case z_bool => k_is)
    (case z_enumerate => k_is)
    (case z_int => k_is)
    (case z_isinstance => k_is)
    (case z_len => k_is)
    (case z_list => k_is)
    (case z_max => k_is)
    (case z_range => k_is)
    (case z_repr => k_is)
    (case z_sum => k_is)
    (case z_zip => k_is)
    (case x_MOST => k_is)
