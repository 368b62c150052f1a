import PyProof.Rows.All
import Wide.All
import OpenK.AllK
import Wide.FinOn
import PyProof.EqAt
import PyProof.EqKinds
import PyProof.TupleCall
import HandS.ForMost
import HandS.Evl
import HandS.Wide
import HandS.Gcd
import HandS.IsInst
import HandS.Defaults
import HandS.Zip
import HandS.Conv
import HandS.Style
import HandS.TryOnly
import PyProof.ReprRoads
import HandS.Lambda
import HandS.Ends
import HandS.Words
import HandS.Flow
import HandS.List
import PyProof.LongRange
import PyProof.ListRange
import PyProof.ReprLen
import PyProof.CallFns
import PySem.Challenge.RW_signbook_k39_rounded_in_every_row
set_option Elab.async false
set_option linter.all false
set_option maxRecDepth 100000
set_option maxHeartbeats 2000000
namespace Own
open PySem PySem.Spec PyProof.Rows L2
/-! str and repr of nested lists: where nothing is being shown around (the law's own def, called by the caller) -/
def rShown (K : PySem.W.Frag) : List V → Hp → VK → Prop := fun xs H Q => ∃ a d, xs = [V.ref a] ∧ Dp K H (.ref a) d ∧ d.showable = true ∧ d.hasDict = false ∧ d.depth ≤ 50 ∧ d.shown.length ≤ sizeLine ∧ Q (.str d.shown) H
section
variable {X : Cx}
theorem str_shown (free : X.A.guards = some []) (room : X.A.units + 64 < cLine) : CallR X (.type "str") (rShown X.K) := by
  intro pn s0 sl G ys ws R J rel told
  obtain ⟨b, dd, rfl, hD, showT, noD, hdep, hlen, fin⟩ := told
  obtain ⟨w1, rfl, hw1⟩ := vals1 rel
  cases hw1
  obtain ⟨cs, hreads⟩ := Dp.reads J dd _ _ hD rfl
  refine str_of_reads hreads showT (PyData.noDict_hsm noD) free (by omega) (fun _ _ z => z) (fun g2 tx tk keep => ?_) hlen
  exact ⟨.str dd.shown, G, J.kept (t' := tk) keep, ⟨tx, rfl⟩, fin⟩
theorem repr_shown (free : X.A.guards = some []) (room : X.A.units + 64 < cLine) : CallR X (.builtin "repr") (rShown X.K) := by
  intro pn s0 sl G ys ws R J rel told
  obtain ⟨b, dd, rfl, hD, showT, noD, hdep, hlen, fin⟩ := told
  obtain ⟨w1, rfl, hw1⟩ := vals1 rel
  cases hw1
  obtain ⟨cs, hreads⟩ := Dp.reads J dd _ _ hD rfl
  refine repr_of_reads' hreads showT (PyData.noDict_hsm noD) free (by omega) (fun _ _ z => z) (fun g2 tx tk keep => ?_) hlen
  exact ⟨.str dd.shown, G, J.kept (t' := tk) keep, ⟨tx, rfl⟩, fin⟩
end
/-- what the caller asks of the law's def, at the caller's own place: with that, the promise of the whole -/
def Asked (P : Program) (w : World) (K : PySem.W.Frag) (mg : Str → Option Value) (fa a : Addr) (ns : List Int) (s : Shared) : Prop :=
  ∀ (root : Heap) (G : Hp), K.In root → root.Ns mainGlobals mg → Env0 P w K mg root callerA [] s G → SqL K G a (ns.map V.int) →
    codeAny (model P w) callerA (.call (.ref fa) ⟨[.ref a], []⟩) (CR CX0 [] P w G s (fun v _ => v = .bl true) fun _ _ _ => False) s
theorem asked_all {P : Program} {w : World} {K : PySem.W.Frag} {mg bt : Str → Option Value} {fa a : Addr} {s : Shared} {us : List Value} {ns : List Int} (inK : K.In s.heap) (glob : s.heap.Ns mainGlobals mg) (blt : s.heap.Ns builtinsNs bt)
    (boot : ∀ y : Str, y ≠ "__name__" → bt y = bootBuiltins y) (nolim : s.heap.NoLimit) (gens : s.gens = #[]) (script : s.heap.get? a = some { cls := .type "list", data := .seq us.toArray }) (entries : IntsAre us ns) (len : ns.length ≤ sizeLine)
    (ask : Asked P w K mg fa a ns s) : codeAny (model P w) callerA (.call (.ref fa) ⟨[.ref a], []⟩) (fun r t => r = .ok (.ret (.bool true)) ∧ OldK s.heap t.heap ∧ t.os = s.os ∧ AllBare t.gens) s := by
  -- the heap of what is followed: the script alone, or nothing where the module holds it
  obtain ⟨G, lone, seen, okG, frozen, apart⟩ : ∃ G : Hp, (∀ b, G b ≠ none → b = a) ∧ SqL K G a (ns.map V.int) ∧ HOk P w G s.heap ∧ (∀ b u, G b = some u → ∃ o xs, u = .frz o (.lst xs)) ∧ (G a ≠ none → K.lookup a = none) := by
    cases look : K.lookup a with
    | some o =>
      have here := inK a o look
      rw [script] at here
      cases here
      exact ⟨fun _ => none, fun b z => absurd rfl z, .inr ⟨_, us.toArray, _, look, rfl, rfl, rfl, by rw [List.size_toArray, entries.length]; exact len, by simpa using vals_ints entries⟩, fun b u z => absurd (show (none : Option HO) = some u from z) (by simp), fun b u z => absurd (show (none : Option HO) = some u from z) (by simp), fun z => absurd rfl z⟩
    | none =>
      have only : ∀ b u, (if b = a then some (HO.frz { cls := .type "list", data := .seq us.toArray } (.lst (ns.map V.int))) else none) = some u → b = a ∧ u = .frz { cls := .type "list", data := .seq us.toArray } (.lst (ns.map V.int)) := fun b u z => by
        by_cases same : b = a
        · rw [if_pos same] at z
          exact ⟨same, (Option.some.inj z).symm⟩
        · rw [if_neg same] at z
          cases z
      refine ⟨fun b => if b = a then some (.frz { cls := .type "list", data := .seq us.toArray } (.lst (ns.map V.int))) else none, fun b z => ?_, .inl (.inr ⟨{ cls := .type "list", data := .seq us.toArray }, if_pos rfl⟩), fun b u z => ?_, fun b u z => ⟨_, _, (only b u z).2⟩, fun _ => rfl⟩
      · by_cases same : b = a
        · exact same
        · exact absurd (if_neg same) z
      · obtain ⟨rfl, rfl⟩ := only b u z
        exact ⟨script, by rw [List.length_map]; exact len, us, _, vals_ints entries, script⟩
  have hide : ∀ {b : Addr} {o : Obj}, s.heap.get? b = some o → G b = none → (hidT s.heap G).get? b = some o := fun there none => hidT_get there none
  have dicts : ∀ {b : Addr} {o : Obj} {es : Array DictEntry} {ep : Nat}, s.heap.get? b = some o → o.data = .dict es ep → G b = none := fun {b o es ep} there isD => by
    by_cases none : G b = none
    · exact none
    · have same := lone b none
      rw [same, script] at there
      cases there
      cases isD
  have spaces : ∀ {b : Addr} {m : Str → Option Value}, s.heap.Ns b m → (hidT s.heap G).Ns b m := fun {b m} ⟨o, es, ep, there, isD, rest⟩ => ⟨o, es, ep, hide there (dicts there isD), isD, rest⟩
  have inRoot : K.In (hidT s.heap G) := fun b o look => hide (inK b o look) (by
    by_cases none : G b = none
    · exact none
    · have same := lone b none
      rw [same] at none look
      rw [apart none] at look
      cases look)
  obtain ⟨lims, limNs, limNo⟩ := nolim
  have modOk : Mod K mg (hidT s.heap G) := ⟨inRoot, spaces glob, ⟨bt, spaces blt, boot⟩, ⟨lims, spaces limNs, limNo⟩⟩
  have env : Env0 P w K mg (hidT s.heap G) callerA [] s G := ⟨rfl, modOk, fun b o look => of_hidT look, Nat.le_of_eq (hidT_size _ _), trivial, fun b z => absurd (show b ∈ ([] : List Addr) from z) (by simp), okG, .of_eq gens⟩
  refine codeAny_mono (ask _ G inRoot (spaces glob) env seen) fun res t fin => ?_
  match res, fin with
  | .error _, fin => exact False.elim fin
  | .ok .next, fin => exact False.elim fin
  | .ok .brk, fin => exact False.elim fin
  | .ok .cont, fin => exact False.elim fin
  | .ok (.ret u), fin =>
    obtain ⟨v, G2, sameOs, bareG, unch, okG2, rel, isT⟩ := fin
    cases (show v = .bl true from isT)
    cases (show u = Value.bool true from rel)
    refine ⟨rfl, OldK.of_keep fun b o there => ?_, sameOs, bareG⟩
    cases gb : G b with
    | none => exact unch.keep b o there gb (fun z => absurd (show b ∈ ([] : List Addr) from z) (by simp)) (by simp)
    | some u =>
      obtain ⟨ob, xs, rfl⟩ := frozen b u gb
      have first := (okG b _ gb).1
      have later := (okG2 b _ (unch.frzs b ob _ gb)).1
      rw [there] at first
      cases first
      exact later
/-- in the place of a def's promise at every place: asked at the caller's -/
theorem walk_asked {l : PySem.W.OpenLaw} {n : Nat} {q : Program} {loose : List Str} {XP : (Str → Option Value) → Heap → Prop} {YP : World → Heap → Prop} {d : DefRec} {K : Params → PySem.W.Frag}
    (most : l.most = some n) (fits : n ≤ sizeLine) (plainArgs : d.params.defaults = []) (hY : ∀ (w : World) (h : Heap), YP w h → (K w.params).In h)
    (F : ∀ (w : World) (mg : Str → Option Value) (fa a : Addr) (s : Shared) (ns : List Int), (K w.params).In s.heap → s.heap.Ns mainGlobals mg → mg d.name = some (.ref fa) → ns.length ≤ n → Asked l.prog w (K w.params) mg fa a ns s) :
    PySem.W.WalkO q loose XP YP l.row.toRowW d [] (fun f vs => PySem.call f vs) := by
  refine Att.attach_call most plainArgs fun w s₀ s mg bt fa o pm cd doc a us ns Gr Yh _ _ _ named obj entries len gens => ?_
  have inK := hY w _ Yh
  exact asked_all inK Gr.T.g Gr.T.b Gr.T.builtins Gr.T.nolimit gens obj entries (Nat.le_trans len fits) (F w mg fa a s ns inK Gr.T.g named len)
end Own
namespace Own2
open PySem PySem.Spec PyProof.Rows L2
/-! repr of nested data, or of None -/
def rShown2 (K : PySem.W.Frag) : List V → Hp → VK → Prop := fun xs H Q => Own.rShown K xs H Q ∨ (xs = [.non] ∧ Q (.str "None") H)
variable {X : Cx}
theorem repr_shown2 (free : X.A.guards = some []) (room : X.A.units + 64 < cLine) : CallR X (.builtin "repr") (rShown2 X.K) := by
  intro pn s0 sl G ys ws R J rel told
  rcases told with told | ⟨rfl, fin⟩
  · exact Own.repr_shown free room pn s0 sl G ys ws R J rel told
  · obtain ⟨w1, rfl, hw1⟩ := vals1 rel
    cases hw1
    exact PySem.P.repr_of_none ⟨.str "None", G, J.tok _, ⟨_, rfl⟩, fin⟩
end Own2
/-! range(a, b) of whole numbers of any size, walked, and its list -/
namespace RgW
open PySem PySem.Spec PyProof.Rows L2
abbrev rgObj (lo hi : Int) (t u v : Tok) : Obj := { cls := .type "range", data := .fields #[.int lo t, .int hi u, .int 1 v] }
abbrev goer (lo hi : Int) : Obj := { cls := .type "longrange_iterator", data := .fields #[rawInt lo, rawInt (Builtin.Range.rangeSize lo hi 1), rawInt 1] }
theorem size_nat (lo hi : Int) : Builtin.Range.rangeSize lo hi 1 = ((hi - lo).toNat : Int) := by
  rw [rangeSize_one]
  split <;> omega
section
variable {P : Program} {w : World} {A : Around} {E : Value → Shared → Prop} {st : Shared}
theorem extend_long {R : Result → Shared → Prop} {rr : Addr} {lo hi : Int} {t u v : Tok} (calm : A.handled = none) (isr : IsRange st.heap rr lo hi 1 t u v) (great : Builtin.Range.small lo hi 1 = false) (few : (hi - lo).toNat ≤ 2 ^ 24)
    (D : Addr) (ans : Value) (cap : Nat) (here : st.heap.get? D = some { cls := .type "list", data := .seq #[] cap })
    (go : ∀ g tk acc c2, (∀ b o, b ≠ D → st.heap.get? b = some o → g.get? b = some o) → g.get? D = some { cls := .type "list", dict := none, data := .seq acc c2, slots := #[] } → ItemsOf (fun i x => ∃ k, x = .int (lo + i * 1) k) acc (hi - lo).toNat → R (.ok (.ret ans)) { st with heap := g, toks := tk }) :
    wpAny (model P w) A.in1 (Builtin.List.listExtendWith (.ref D) (.ref rr) ans)
      (fun fin t2 => match fin with | .done f => R (.ok f) t2 | .again c2 => c2.quiet = true ∧ codeAny (model P w) A c2 R t2) (fun e t2 => R (.error e) t2) st := by
  have unlike : D ≠ rr := fun e => by
    rw [e, isr] at here
    simp at here
  have below := Heap.lt_size here
  have off : D ≠ st.heap.objs.size := Nat.ne_of_lt below
  have off1 : D ∉ [st.heap.objs.size] := fun z => off (List.mem_singleton.mp z)
  have walk := (Walks.longrange (prog := P) (w := w) (A := A.in1) calm st.heap.objs.size lo 1 (hi - lo).toNat).toS
  have rest : ∀ (g : Heap) (c1 tk : Nat), IsLongIter g st.heap.objs.size (lo + ((0 : Nat) : Int) * 1) (((hi - lo).toNat : Int) - ((0 : Nat) : Int)) 1 → (∀ b o, b ≠ D → st.heap.get? b = some o → g.get? b = some o) →
      g.get? D = some { cls := .type "list", data := .seq #[] c1 } → codeAny (model P w) A (.builtin "list.extend.loop" ⟨[.ref D, .ref st.heap.objs.size, ans], []⟩) R { st with heap := g, toks := tk } := by
    intro g c1 tk at0 keep there
    refine codeAny_extend_loopS walk (by rw [sizeLine_eq]; omega) D off1 ans (hi - lo).toNat 0 _ #[] c1 rfl (Nat.zero_le _) at0 there (ItemsOf.nil _) fun t2 acc c2 mv there2 items => ?_
    rw [Moved.eq_with mv]
    refine go t2.heap t2.toks acc c2 (fun b o nb e => mv.heap b o (fun z => ?_) (keep b o nb e)) there2 items
    rcases List.mem_cons.mp z with q | q
    · exact nb q
    · exact Nat.lt_irrefl _ (by have := Heap.lt_size e; rwa [List.mem_singleton.mp q] at this)
  unfold Builtin.List.listExtendWith
  refine wpAny_bind (wpAny_typeOf (T := "range") ⟨_, isr, rfl⟩ ?_)
  have n1 : Builtin.List.listSameRef (.ref D) (.ref rr) = false := by simp [Builtin.List.listSameRef, unlike]
  have n2 : (Value.type "range" == Value.type "list") = false := by decide
  have n3 : (Value.type "range" == Value.type "tuple") = false := by decide
  simp only [n1, n2, n3, Bool.or_false, Bool.false_eq_true, if_false]
  refine wpAny_bind (wpAny_pyIter_longrange isr great ?_)
  refine wpAny_bind (wpAny_holding (wpAny_hint_range (n := (hi - lo).toNat) (Heap.get?_push_of_some _ isr) (size_nat lo hi) few ?_))
  have first : IsLongIter (st.heap.push (goer lo hi)) st.heap.objs.size (lo + ((0 : Nat) : Int) * 1) (((hi - lo).toNat : Int) - ((0 : Nat) : Int)) 1 := by
    show IsLongIter _ _ _ _ _
    have e1 : lo + ((0 : Nat) : Int) * 1 = lo := by simp
    have e2 : ((hi - lo).toNat : Int) - ((0 : Nat) : Int) = Builtin.Range.rangeSize lo hi 1 := by rw [size_nat]; omega
    rw [e1, e2]
    exact Heap.get?_push_size _ rfl
  have there1 := Heap.get?_push_of_some (goer lo hi) here
  refine wpAny_ite_split (fun _ => ?_) (fun _ => wpAny_pure ⟨plainId_quiet F.plain_extend_loop _, rest _ cap _ first (fun b o _ e => Heap.get?_push_of_some _ e) there1⟩)
  refine wpAny_bind (wpAny_rule (wpAny_bind ?_))
  show wpAny _ _ (updateSeq D (·.push .none) >>= fun _ => updateSeq D (·.pop)) _ _ _
  refine wpAny_bind (wpAny_updateSeq there1 rfl ?_)
  have there2 := Heap.get?_update_self (Obj.mapSeq (·.push Value.none)) there1 rfl
  refine wpAny_updateSeq (hz := by seq_fits) there2 rfl ?_
  have there3 := Heap.get?_update_self (Obj.mapSeq (·.pop)) there2 rfl
  refine wpAny_pure ⟨plainId_quiet F.plain_extend_loop _, rest _ _ _ ?_ (fun b o nb e => ?_) there3⟩
  · exact (Heap.get?_update_other _ _ off).trans ((Heap.get?_update_other _ _ off).trans first)
  · exact (Heap.get?_update_other _ _ nb.symm).trans ((Heap.get?_update_other _ _ nb.symm).trans (Heap.get?_push_of_some _ e))
theorem init_long {R : Result → Shared → Prop} {rr : Addr} {lo hi : Int} {t u v : Tok} (calm : A.handled = none) (isr : IsRange st.heap rr lo hi 1 t u v) (great : Builtin.Range.small lo hi 1 = false) (few : (hi - lo).toNat ≤ 2 ^ 24)
    (D : Addr) (here : st.heap.get? D = some { cls := .type "list", data := .seq #[] })
    (go : ∀ g tk acc c2, (∀ b o, b ≠ D → st.heap.get? b = some o → g.get? b = some o) → g.get? D = some { cls := .type "list", dict := none, data := .seq acc c2, slots := #[] } → ItemsOf (fun i x => ∃ k, x = .int (lo + i * 1) k) acc (hi - lo).toNat → R (.ok (.ret .none)) { st with heap := g, toks := tk }) :
    wpAny (model P w) A.in1 (Builtin.«list.__init__» ⟨[.ref D, .ref rr], []⟩)
      (fun fin t2 => match fin with | .done f => R (.ok f) t2 | .again c2 => c2.quiet = true ∧ codeAny (model P w) A c2 R t2) (fun e t2 => R (.error e) t2) st := by
  have unlike : rr ≠ D := fun e => by
    rw [← e, isr] at here
    simp at here
  show wpAny _ _ (do let old ← Builtin.List.listItems (.ref D); Builtin.List.listUpdate (.ref D) (fun _ => #[]); letGo old.toList.reverse; Builtin.List.listExtendWith (.ref D) (.ref rr) .none) _ _ st
  refine wpAny_bind ?_
  unfold Builtin.List.listItems
  refine wpAny_bind (wpAny_seqItems here rfl (wpAny_pure ?_))
  show wpAny _ _ (updateSeq D (fun _ => #[]) >>= fun _ => letGo (#[] : Array Value).toList.reverse >>= fun _ => Builtin.List.listExtendWith (.ref D) (.ref rr) .none) _ _ st
  refine wpAny_bind (wpAny_updateSeq here rfl ?_)
  have there := Heap.get?_update_self (Obj.mapSeq (fun _ => (#[] : Array Value))) here rfl
  have same : ∀ b o, b ≠ D → st.heap.get? b = some o → (st.heap.update D (Obj.mapSeq (fun _ => (#[] : Array Value)))).get? b = some o := fun b o nb e => (Heap.get?_update_other _ _ nb.symm).trans e
  exact wpAny_bind (wpAny_letGo (extend_long calm (same rr _ unlike isr) great few D .none _ there fun g tk acc c2 keep new items => go g tk acc c2 (fun b o nb e => keep b o nb (same b o nb e)) new items))
theorem list_long {W : Value → Shared → Prop} {rr : Addr} {lo hi : Int} {t u v : Tok} (calm : A.handled = none) (isr : IsRange st.heap rr lo hi 1 t u v) (great : Builtin.Range.small lo hi 1 = false) (few : (hi - lo).toNat ≤ 2 ^ 24)
    (go : ∀ g tk acc c2, (∀ b o, st.heap.get? b = some o → g.get? b = some o) → g.get? st.heap.objs.size = some { cls := .type "list", dict := none, data := .seq acc c2, slots := #[] } → ItemsOf (fun i x => ∃ k, x = .int (lo + i * 1) k) acc (hi - lo).toNat → W (.ref st.heap.objs.size) { st with heap := g, toks := tk }) :
    wpAny (model P w) A (call (.type "list") [.ref rr]) W E st := by
  refine callType_codes (Q₁ := fun ob t1 => ob = .ref st.heap.objs.size ∧ t1 = { st with heap := st.heap.push { cls := .type "list", data := .seq #[] } }) F.called_list (F.typeCall_list_1 _) F.entry_list_init (code_list_new _ ⟨rfl, rfl⟩) fun ob t1 got => ?_
  obtain ⟨rfl, rfl⟩ := got
  have here : (st.heap.push { cls := .type "list", data := .seq #[] }).get? st.heap.objs.size = some { cls := .type "list", data := .seq #[] } := Heap.get?_push_size _ rfl
  exact ⟨⟨_, here, rfl⟩, F.args_list_init_2 _ _, init_long (A := A.in1) calm (Heap.get?_push_of_some _ isr) great few _ here fun g tk acc c2 keep new items => ⟨rfl, go g tk acc c2 (fun b o e => keep b o (Nat.ne_of_lt (Heap.lt_size e)) (Heap.get?_push_of_some _ e)) new items⟩⟩
end
theorem turn_long {P : Program} {w : World} {K : PySem.W.Frag} {tg : Expr} (it : Addr) (lo : Int) (n : Nat) : Turn P w K tg (Itr lo n) [it] it (fun i g => IsLongIter g it (lo + (i : Nat) * 1) ((n : Int) - (i : Nat)) 1) where
  mem := List.mem_singleton_self _
  obj := fun i g at_ b hb => by
    rw [List.mem_singleton.mp hb]
    exact ⟨_, at_, fun v z => by
      have q : Data.fields _ = Data.cell v := z
      cases q⟩
  keep := fun i g g2 at_ same => same it (List.mem_singleton_self _) _ at_
  item := by
    intro X eP ew eK calm i pins s σ H E I fp at_ more
    subst eP ew eK
    obtain ⟨f0, f1, f2, f3, f4, f5⟩ := fp it (List.mem_singleton_self _)
    refine (Walks.longrange (prog := X.prog) (w := X.w) (I.ok.hd calm) it lo 1 n).item i s _ _ more at_ fun x g tk isx at2 same => ?_
    obtain ⟨k, rfl⟩ := isx
    have J : Inv X pins σ H { s with heap := g, toks := tk } := I.turned (fun b o nb e => same b o (by simpa using nb) e) f0 f1 f3 f4 f5
    exact ⟨_, rfl, go_of (s := { s with heap := g, toks := tk }) (n := "longrange_iterator") at2 rfl rfl (by decide) ⟨.int (lo + i), H, J, ⟨k, by rw [Int.mul_one]⟩, ⟨rfl, rfl⟩, at2, fun b hb => (fp b hb).1⟩⟩
  done := by
    intro X eP ew eK calm i pins s σ H E I fp at_ over
    subst eP ew eK
    obtain ⟨f0, f1, f2, f3, f4, f5⟩ := fp it (List.mem_singleton_self _)
    exact wpAny_pyNext_long_end (I.ok.hd calm) at_ (by have : n ≤ i := over; omega) fun g same => ⟨rfl, I.turned (t' := s.toks) (fun b o nb e => same b o nb e) f0 f1 f3 f4 f5⟩
  self := fun _ _ _ _ _ at_ got => wpAny_pyIter_longiter at_ got
section
variable {X : Cx} {tg : Expr}
theorem walk_any {pins : List (Addr × Obj)} {σ : L2.St} {H : Hp} {s : Shared} {R : It → Hp → Prop} {E : Value → Shared → Prop} {lo hi : Int} {t u v : Tok} {tk : Nat} (I : Inv X pins σ H s) (q : R (Itr lo (hi - lo).toNat) H) :
    wpAny (model X.prog X.w) X.A (pyIter (.ref s.heap.objs.size)) (PIE X pins σ tg R) E { s with heap := s.heap.push (rgObj lo hi t u v), toks := tk } := by
  have J : Inv X pins σ H { s with heap := s.heap.push (rgObj lo hi t u v), toks := tk } := I.kept fun b o e => Heap.get?_push_of_some _ e
  have own : ∀ b ∈ [(s.heap.push (rgObj lo hi t u v)).objs.size], FpOk X pins H b := fun b hb => by
    rw [List.mem_singleton.mp hb]
    exact J.fpOk (Nat.le_refl _) (J.hok.fresh (Nat.le_refl _))
  have e1 : lo + ((0 : Nat) : Int) * 1 = lo := by simp
  have e2 : (((hi - lo).toNat : Nat) : Int) - ((0 : Nat) : Int) = Builtin.Range.rangeSize lo hi 1 := by rw [size_nat]; omega
  by_cases little : Builtin.Range.small lo hi 1 = true
  · refine wpAny_pyIter_range (IsRange.new ..) little ⟨_, _, _, _, H, rfl, J.kept (t' := tk) fun b o e => Heap.get?_push_of_some _ e, turn_range _ lo (hi - lo).toNat, ?_, own, q⟩
    show IsRangeIter _ _ (lo + ((0 : Nat) : Int) * 1) ((((hi - lo).toNat : Nat) : Int) - ((0 : Nat) : Int)) 1
    rw [e1, e2]
    exact Heap.get?_push_size _ rfl
  · refine wpAny_pyIter_longrange (IsRange.new ..) (Bool.eq_false_iff.mpr little) ⟨_, _, _, _, H, rfl, J.kept (t' := tk) fun b o e => Heap.get?_push_of_some _ e, turn_long _ lo (hi - lo).toNat, ?_, own, q⟩
    show IsLongIter _ _ (lo + ((0 : Nat) : Int) * 1) ((((hi - lo).toNat : Nat) : Int) - ((0 : Nat) : Int)) 1
    rw [e1, e2]
    exact Heap.get?_push_size _ rfl
def iRngW (ta : TA) : TI := fun σ H R => ta σ H fun vs H1 => ∃ i j : Int, vs = [.int i, .int j] ∧ R (Itr i (j - i).toNat) H1
theorem pi_rangeW {a b : Expr} {ta : TA} {p pos : Pos} (hg : Gl X "range") (hm : X.mg "range" = none) (ha : PA X [a, b] ta) (hs : starEach [a, b] X.env = [(false, eval a X.env), (false, eval b X.env)] := by rfl) (hs2 : starEach [b] X.env = [(false, eval b X.env)] := by rfl) :
    PI X tg (.Call (.Name "range" p) [a, b] [] pos) (iRngW ta) := by
  refine ⟨fun pins s σ H R I want => ?_⟩
  refine Call_ (ld_blt I hg hm boot_range (PyProof.Rows.callWith_type1 (thn (ha.run pos pins s σ H _ I want) fun us s1 ⟨vs, H1, I1, r1, i, j, e, q⟩ => ?_) (by rw [hs, hs2]) (by rw [hs2]; rfl)))
  subst e
  cases r1 with
  | cons k1 rest =>
    cases rest with
    | cons k2 none_ =>
      cases none_
      obtain ⟨tok1, rfl⟩ := k1
      obtain ⟨tok2, rfl⟩ := k2
      exact call_range_2 (walk_any I1 q)
variable {e : Expr} {te : L2.St → Hp → (Int → Int → Hp → Prop) → Prop}
def tLstRgW (te : L2.St → Hp → (Int → Int → Hp → Prop) → Prop) : TE := fun σ H Q => te σ H fun a b H1 => (b - a).toNat ≤ 2 ^ 24 ∧ ∀ q, H1 q = none → Q (.ref q) (upd H1 q (.lst (rgV a b)))
theorem pe_listRgW {p pos : Pos} (hc : X.calm = true) (hg : Gl X "list") (hm : X.mg "list" = none) (he : PRg X e te) (na : starEach [e] X.env = (false, eval e X.env) :: starEach [] X.env := by rfl) : PE X (.Call (.Name "list" p) [e] [] pos) (tLstRgW te) := by
  refine ⟨fun pins s σ H Q I want => ?_⟩
  refine Call_ (ld_blt I hg hm boot_list (PyProof.Rows.callWith_type1 (args_cons (thn (he pins s σ H _ I want) fun x s1 ⟨r, a, b, t, u, v, H1, ex, isr, I1, few, q⟩ => args_nil ?_) na) na))
  subst ex
  have fin : ∀ (g : Heap) (tk : Nat) (acc : Array Value) (c2 : Nat), (∀ b o, s1.heap.get? b = some o → g.get? b = some o) → g.get? s1.heap.objs.size = some { cls := .type "list", dict := none, data := .seq acc c2, slots := #[] } → ItemsOf (fun i x => ∃ k, x = .int (a + i * 1) k) acc (b - a).toNat → EP X pins σ Q (.ref s1.heap.objs.size) { s1 with heap := g, toks := tk } := fun g tk acc c2 keep new items =>
    ⟨.ref s1.heap.objs.size, upd H1 s1.heap.objs.size (.lst (rgV a b)), I1.laid keep (Nat.le_refl _) (show ObjOk X.prog X.w _ _ _ (.lst (rgV a b)) from ⟨by rw [rgV_length, sizeLine_eq]; omega, acc.toList, c2, vals_rg items, by rw [Array.toArray_toList]; exact new⟩), rfl, q _ (I1.hok.fresh (Nat.le_refl _))⟩
  by_cases little : Builtin.Range.small a b 1 = true
  · exact call_list_range (n := (b - a).toNat) (I1.ok.hd hc) isr little (size_nat a b) few fin
  · exact list_long (I1.ok.hd hc) isr (Bool.eq_false_iff.mpr little) few fin
end
end RgW
/-! all lists of choices, in their order; halves -/
namespace Ls
open PySem PySem.Spec PyProof.Rows
open L2
def grow (told : List (List Int)) (some : List Int) : List (List Int) := told.flatMap fun a => some.map fun o => a ++ [o]
def allL (cs : List (List Int)) : List (List Int) := cs.foldl grow [[]]
theorem allL_snoc (cs : List (List Int)) (c : List Int) : allL (cs ++ [c]) = grow (allL cs) c := by
  unfold allL
  rw [List.foldl_append]
  rfl
theorem grow_len (told : List (List Int)) (some : List Int) : (grow told some).length = told.length * some.length := by
  unfold grow
  induction told with
  | nil => simp
  | cons a told ih => rw [List.flatMap_cons, List.length_append, ih, List.length_map, List.length_cons, Nat.add_mul, Nat.one_mul, Nat.add_comm]
theorem allL_len {b : Nat} {cs : List (List Int)} (h : ∀ c ∈ cs, c.length ≤ b) : (allL cs).length ≤ b ^ cs.length := by
  have key : ∀ (n : Nat) (cs : List (List Int)), cs.length = n → (∀ c ∈ cs, c.length ≤ b) → (allL cs).length ≤ b ^ n := by
    intro n
    induction n with
    | zero =>
      intro cs hl _
      rw [List.length_eq_zero_iff.mp hl]
      exact Nat.le_refl _
    | succ n ih =>
      intro cs hl h
      have ne : cs ≠ [] := fun z => by rw [z] at hl; cases hl
      have e := (List.dropLast_concat_getLast ne).symm
      rw [e] at hl h ⊢
      rw [List.length_append] at hl
      rw [allL_snoc, grow_len, Nat.pow_succ]
      exact Nat.mul_le_mul (ih _ (by simp at hl ⊢; omega) fun c hc => h c (List.mem_append_left _ hc)) (h _ (List.mem_append_right _ (List.mem_singleton_self _)))
  exact key _ cs rfl h
theorem allL_each : ∀ (n : Nat) (cs : List (List Int)), cs.length = n → ∀ z ∈ allL cs, Paired (fun (y : Int) (c : List Int) => y ∈ c) z cs := by
  intro n
  induction n with
  | zero =>
    intro cs hl z hz
    rw [List.length_eq_zero_iff.mp hl] at hz ⊢
    rw [show allL [] = [[]] from rfl] at hz
    rw [List.mem_singleton.mp hz]
    exact .nil
  | succ n ih =>
    intro cs hl z hz
    have ne : cs ≠ [] := fun z => by rw [z] at hl; cases hl
    have e := (List.dropLast_concat_getLast ne).symm
    rw [e] at hl hz ⊢
    rw [List.length_append] at hl
    rw [allL_snoc] at hz
    unfold grow at hz
    obtain ⟨a, ha, hz⟩ := List.mem_flatMap.mp hz
    obtain ⟨o, ho, rfl⟩ := List.mem_map.mp hz
    exact Paired.snoc (ih _ (by simp at hl ⊢; omega) a ha) ho
def rg (lo hi : Int) : List Int := (List.range (hi - lo).toNat).map fun i : Nat => lo + (i : Int)
theorem rg_mem {lo hi z : Int} (h : z ∈ rg lo hi) : lo ≤ z ∧ z < hi := by
  unfold rg at h
  obtain ⟨i, hi, rfl⟩ := List.mem_map.mp h
  have := List.mem_range.mp hi
  omega
theorem rg_len (lo hi : Int) : (rg lo hi).length = (hi - lo).toNat := by
  unfold rg
  rw [List.length_map, List.length_range]
def hv (x : Int) : List Int := rg (x / 2) (x - x / 2 + 1)
theorem hv_len (x : Int) : (hv x).length ≤ 2 := by
  unfold hv
  rw [rg_len]
  omega
theorem hv_mem {x z : Int} (h : z ∈ hv x) : x / 2 ≤ z ∧ z ≤ x - x / 2 := by
  have := rg_mem h
  omega
theorem hv_law (x : Int) : hv x = rg (x / 2) (x / 2 + x % 2 + 1) := by
  unfold hv
  congr 1
  omega
def dot (r s : List Int) : Int := (List.zipWith (· * ·) r s).sum
def totals (rows : List (List Int)) (zs : List Int) : List Int := rows.map fun r => dot r zs
def small1 (t : Int) : Bool := decide (t = -1 ∨ t = 0 ∨ t = 1)
def smallB (ts : List Int) : Bool := ts.all small1
def otherOf (xs zs : List Int) : List Int := List.zipWith (fun x z => x - z) xs zs
def gapsOf (xs zs : List Int) : List Int := List.zipWith (fun z y => z - y) zs (otherOf xs zs)
def halfOk (rows : List (List Int)) (xs zs : List Int) : Bool := smallB (totals rows (gapsOf xs zs))
def halfOf (rows : List (List Int)) (xs : List Int) : Option (List Int) := (allL (xs.map hv)).find? (halfOk rows xs)
def absI (y : Int) : Int := if y < 0 then -y else y
theorem small_max {ts : List Int} {m : Int} (h : ts ≠ []) (hm : m ∈ ts.map absI) (hle : ∀ y ∈ ts.map absI, y ≤ m) : decide (m ≤ 1) = smallB ts := by
  unfold smallB
  rw [Bool.eq_iff_iff, decide_eq_true_eq, List.all_eq_true]
  refine ⟨fun h1 t ht => ?_, fun h1 => ?_⟩
  · have := hle (absI t) (List.mem_map.mpr ⟨t, ht, rfl⟩)
    unfold absI at this
    unfold small1
    rw [decide_eq_true_eq]
    split at this <;> omega
  · obtain ⟨t, ht, rfl⟩ := List.mem_map.mp hm
    have := h1 t ht
    unfold small1 at this
    rw [decide_eq_true_eq] at this
    unfold absI
    split <;> omega
theorem find_at {α : Type} {p : α → Bool} : ∀ {l : List α} {i : Nat} {z : α}, (∀ y ∈ l.take i, p y = false) → l[i]? = some z → p z = true → l.find? p = some z
  | y :: l, 0, z, _, h, hp => by
    cases h
    rw [List.find?_cons, hp]
  | y :: l, i + 1, z, h0, h, hp => by
    rw [List.find?_cons, h0 y (by rw [List.take_succ_cons]; exact .head _)]
    exact find_at (i := i) (fun q hq => h0 q (by rw [List.take_succ_cons]; exact .tail _ hq)) h hp
theorem find_no {α : Type} {p : α → Bool} {l : List α} (h : ∀ y ∈ l, p y = false) : l.find? p = none := by
  rw [List.find?_eq_none]
  intro y hy z
  rw [h y hy] at z
  cases z
theorem take_more {α : Type} {p : α → Bool} {l : List α} {i : Nat} {z : α} (h : ∀ y ∈ l.take i, p y = false) (hz : l[i]? = some z) (hp : p z = false) : ∀ y ∈ l.take (i + 1), p y = false := fun y hy => by
  rw [List.take_add_one, hz] at hy
  rcases List.mem_append.mp hy with q | q
  · exact h y q
  · have : y = z := by simpa using q
    rw [this]
    exact hp
end Ls
namespace SbE39
open PySem PySem.Spec PyProof.Rows L2 Evl HT 
/-! ### the text -/
def topS (i : Nat) : Stmt := PySem.Challenge.pw_signbook_k39_rounded_in_every_row.main.body.getD i (.Pass ⟨0, 0, 0, 0⟩)
def clsB : Stmt → List Stmt
  | .ClassDef (body := b) .. => b
  | _ => []
abbrev s_is_whole : Stmt := topS 8
theorem sc_is_whole : FnScope ["thing"] ["thing"] (defScope s_is_whole) := ⟨rfl, rfl, rfl, by decide +kernel, rfl, by decide +kernel, by decide +kernel⟩
abbrev s_is_fraction : Stmt := topS 9
theorem sc_is_fraction : FnScope ["thing", "top", "bottom"] ["thing"] (defScope s_is_fraction) := ⟨rfl, rfl, rfl, by decide +kernel, rfl, by decide +kernel, by decide +kernel⟩
abbrev s_fraction : Stmt := topS 10
theorem sc_fraction : FnScope ["top", "bottom", "common"] ["top", "bottom"] (defScope s_fraction) := ⟨rfl, rfl, rfl, by decide +kernel, rfl, by decide +kernel, by decide +kernel⟩
abbrev s_plus : Stmt := topS 11
theorem sc_plus : FnScope ["one", "other"] ["one", "other"] (defScope s_plus) := ⟨rfl, rfl, rfl, by decide +kernel, rfl, by decide +kernel, by decide +kernel⟩
abbrev s_times : Stmt := topS 12
theorem sc_times : FnScope ["one", "other"] ["one", "other"] (defScope s_times) := ⟨rfl, rfl, rfl, by decide +kernel, rfl, by decide +kernel, by decide +kernel⟩
abbrev s_floor_of : Stmt := topS 13
theorem sc_floor_of : FnScope ["value"] ["value"] (defScope s_floor_of) := ⟨rfl, rfl, rfl, by decide +kernel, rfl, by decide +kernel, by decide +kernel⟩
abbrev s_ceiling_of : Stmt := topS 14
theorem sc_ceiling_of : FnScope ["value"] ["value"] (defScope s_ceiling_of) := ⟨rfl, rfl, rfl, by decide +kernel, rfl, by decide +kernel, by decide +kernel⟩
abbrev s_is_long : Stmt := topS 16
theorem sc_is_long : FnScope ["thing", "many"] ["thing", "many"] (defScope s_is_long) := ⟨rfl, rfl, rfl, by decide +kernel, rfl, by decide +kernel, by decide +kernel⟩
abbrev s_is_fractions : Stmt := topS 17
theorem sc_is_fractions : FnScope ["thing", "many", "value"] ["thing", "many"] (defScope s_is_fractions) := ⟨rfl, rfl, rfl, by decide +kernel, rfl, by decide +kernel, by decide +kernel⟩
abbrev s_check_fractions : Stmt := topS 18
theorem sc_check_fractions : FnScope ["thing", "many", "word"] ["thing", "many", "word"] (defScope s_check_fractions) := ⟨rfl, rfl, rfl, by decide +kernel, rfl, by decide +kernel, by decide +kernel⟩
abbrev s_all_lists : Stmt := topS 19
theorem sc_all_lists : FnScope ["choices", "told", "some", "ahead", "one"] ["choices"] (defScope s_all_lists) := ⟨rfl, rfl, rfl, by decide +kernel, rfl, by decide +kernel, by decide +kernel⟩
abbrev s_is_table : Stmt := topS 22
theorem sc_is_table : FnScope ["thing", "row"] ["thing"] (defScope s_is_table) := ⟨rfl, rfl, rfl, by decide +kernel, rfl, by decide +kernel, by decide +kernel⟩
abbrev s_is_row : Stmt := topS 23
theorem sc_is_row : FnScope ["thing", "entry"] ["thing"] (defScope s_is_row) := ⟨rfl, rfl, rfl, by decide +kernel, rfl, by decide +kernel, by decide +kernel⟩
abbrev s_check_table : Stmt := topS 24
theorem sc_check_table : FnScope ["thing"] ["thing"] (defScope s_check_table) := ⟨rfl, rfl, rfl, by decide +kernel, rfl, by decide +kernel, by decide +kernel⟩
abbrev s_led : Stmt := topS 25
theorem sc_led : FnScope ["table", "xs", "row"] ["table", "xs"] (defScope s_led) := ⟨rfl, rfl, rfl, by decide +kernel, rfl, by decide +kernel, by decide +kernel⟩
abbrev s_row_sum : Stmt := topS 26
theorem sc_row_sum : FnScope ["row", "xs", "total", "entry", "x"] ["row", "xs"] (defScope s_row_sum) := ⟨rfl, rfl, rfl, by decide +kernel, rfl, by decide +kernel, by decide +kernel⟩
abbrev s_row_totals : Stmt := topS 27
theorem sc_row_totals : FnScope ["table", "numbers", "row", "entry", "number"] ["table", "numbers"] (defScope s_row_totals) := ⟨rfl, rfl, rfl, by decide +kernel, rfl, by decide +kernel, by decide +kernel⟩
abbrev s_rounded : Stmt := topS 29
theorem sc_rounded : FnScope ["table", "xs", "ends", "whole", "total"] ["table", "xs"] (defScope s_rounded) := ⟨rfl, rfl, rfl, by decide +kernel, rfl, by decide +kernel, by decide +kernel⟩
abbrev s_all_rounded : Stmt := topS 30
theorem sc_all_rounded : FnScope ["xs", "x"] ["xs"] (defScope s_all_rounded) := ⟨rfl, rfl, rfl, by decide +kernel, rfl, by decide +kernel, by decide +kernel⟩
abbrev s_is_between : Stmt := topS 31
theorem sc_is_between : FnScope ["table", "whole", "ends", "total", "low", "high"] ["table", "whole", "ends"] (defScope s_is_between) := ⟨rfl, rfl, rfl, by decide +kernel, rfl, by decide +kernel, by decide +kernel⟩
abbrev s__law_source_of : Stmt := topS 33
theorem sc__law_source_of : FnScope ["_law_cell"] ["_law_cell"] (defScope s__law_source_of) := ⟨rfl, rfl, rfl, by decide +kernel, rfl, by decide +kernel, by decide +kernel⟩
abbrev s__law_next : Stmt := topS 34
theorem sc__law_next : FnScope ["_law_source", "_law_many", "_law_found", "_law_prime", "_law_figure"] ["_law_source", "_law_many"] (defScope s__law_next) := ⟨rfl, rfl, rfl, by decide +kernel, rfl, by decide +kernel, by decide +kernel⟩
abbrev s__law_one : Stmt := topS 35
theorem sc__law_one : FnScope ["_law_source", "_law_some"] ["_law_source", "_law_some"] (defScope s__law_one) := ⟨rfl, rfl, rfl, by decide +kernel, rfl, by decide +kernel, by decide +kernel⟩
abbrev s__law_cell_at : Stmt := topS 36
theorem sc__law_cell_at : FnScope ["_law_script", "_law_k"] ["_law_script", "_law_k"] (defScope s__law_cell_at) := ⟨rfl, rfl, rfl, by decide +kernel, rfl, by decide +kernel, by decide +kernel⟩
abbrev s__law_mixed : Stmt := topS 37
theorem sc__law_mixed : FnScope ["_law_source", "_law_some", "_law_left", "_law_found"] ["_law_source", "_law_some"] (defScope s__law_mixed) := ⟨rfl, rfl, rfl, by decide +kernel, rfl, by decide +kernel, by decide +kernel⟩
abbrev s__law_ends : Stmt := topS 38
theorem sc__law_ends : FnScope ["_law_source", "_law_many", "_law_places", "_law_found", "_law_k", "_law_two"] ["_law_source", "_law_many"] (defScope s__law_ends) := ⟨rfl, rfl, rfl, by decide +kernel, rfl, by decide +kernel, by decide +kernel⟩
abbrev s__law_net : Stmt := topS 39
theorem sc__law_net : FnScope ["_law_ends_here", "_law_arcs", "_law_far", "_law_k", "_law_begin", "_law_goal", "_law_step", "_law_other", "_law_a", "_law_b"] ["_law_ends_here", "_law_arcs"] (defScope s__law_net) := ⟨rfl, rfl, rfl, by decide +kernel, rfl, by decide +kernel, by decide +kernel⟩
abbrev s__law_net_drawn : Stmt := topS 40
theorem sc__law_net_drawn : FnScope ["_law_source", "_law_many", "_law_wide", "_law_arcs", "_law_k"] ["_law_source", "_law_many", "_law_wide"] (defScope s__law_net_drawn) := ⟨rfl, rfl, rfl, by decide +kernel, rfl, by decide +kernel, by decide +kernel⟩
abbrev s__law_stretches : Stmt := topS 41
theorem sc__law_stretches : FnScope ["_law_source", "_law_many", "_law_wide", "_law_order", "_law_found", "_law_k", "_law_start", "_law_length", "_law_column"] ["_law_source", "_law_many", "_law_wide"] (defScope s__law_stretches) := ⟨rfl, rfl, rfl, by decide +kernel, rfl, by decide +kernel, by decide +kernel⟩
abbrev s__law_swung : Stmt := topS 42
theorem sc__law_swung : FnScope ["_law_source", "_law_table_here", "_law_rows", "_law_signs", "_law_found", "_law_row", "_law_sign", "_law_k", "_law_column", "_law_a", "_law_b"] ["_law_source", "_law_table_here"] (defScope s__law_swung) := ⟨rfl, rfl, rfl, by decide +kernel, rfl, by decide +kernel, by decide +kernel⟩
abbrev s__law_table : Stmt := topS 43
theorem sc__law_table : FnScope ["_law_source", "_law_most", "_law_many", "_law_wide", "_law_kind", "_law_table_here", "_law_k", "_law_row"] ["_law_source", "_law_most"] (defScope s__law_table) := ⟨rfl, rfl, rfl, by decide +kernel, rfl, by decide +kernel, by decide +kernel⟩
abbrev s__law_divisor : Stmt := topS 44
theorem sc__law_divisor : FnScope ["_law_one_here", "_law_other"] ["_law_one_here", "_law_other"] (defScope s__law_divisor) := ⟨rfl, rfl, rfl, by decide +kernel, rfl, by decide +kernel, by decide +kernel⟩
abbrev s__law_lowest : Stmt := topS 45
theorem sc__law_lowest : FnScope ["_law_top", "_law_bottom", "_law_share"] ["_law_top", "_law_bottom"] (defScope s__law_lowest) := ⟨rfl, rfl, rfl, by decide +kernel, rfl, by decide +kernel, by decide +kernel⟩
abbrev s__law_common : Stmt := topS 46
theorem sc__law_common : FnScope ["_law_xs", "_law_bottom", "_law_top", "_law_low"] ["_law_xs"] (defScope s__law_common) := ⟨rfl, rfl, rfl, by decide +kernel, rfl, by decide +kernel, by decide +kernel⟩
abbrev s__law_is_number : Stmt := topS 47
theorem sc__law_is_number : FnScope ["_law_thing"] ["_law_thing"] (defScope s__law_is_number) := ⟨rfl, rfl, rfl, by decide +kernel, rfl, by decide +kernel, by decide +kernel⟩
abbrev s__law_sums : Stmt := topS 48
theorem sc__law_sums : FnScope ["_law_rows", "_law_xs", "_law_bottom", "_law_tops", "_law_row", "_law_a", "_law_b"] ["_law_rows", "_law_xs"] (defScope s__law_sums) := ⟨rfl, rfl, rfl, by decide +kernel, rfl, by decide +kernel, by decide +kernel⟩
abbrev s__law_floor : Stmt := topS 49
theorem sc__law_floor : FnScope ["_law_one_here"] ["_law_one_here"] (defScope s__law_floor) := ⟨rfl, rfl, rfl, by decide +kernel, rfl, by decide +kernel, by decide +kernel⟩
abbrev s__law_ceiling : Stmt := topS 50
theorem sc__law_ceiling : FnScope ["_law_one_here"] ["_law_one_here"] (defScope s__law_ceiling) := ⟨rfl, rfl, rfl, by decide +kernel, rfl, by decide +kernel, by decide +kernel⟩
abbrev s__law_signed_xs : Stmt := topS 51
theorem sc__law_signed_xs : FnScope ["_law_source", "_law_many", "_law_found", "_law_k", "_law_bottom", "_law_wide"] ["_law_source", "_law_many"] (defScope s__law_signed_xs) := ⟨rfl, rfl, rfl, by decide +kernel, rfl, by decide +kernel, by decide +kernel⟩
abbrev s__law_lists : Stmt := topS 52
theorem sc__law_lists : FnScope ["_law_lows", "_law_highs", "_law_found", "_law_low", "_law_high", "_law_longer", "_law_one_here", "_law_number"] ["_law_lows", "_law_highs"] (defScope s__law_lists) := ⟨rfl, rfl, rfl, by decide +kernel, rfl, by decide +kernel, by decide +kernel⟩
abbrev s__law_whole_sums : Stmt := topS 53
theorem sc__law_whole_sums : FnScope ["_law_table_here", "_law_xs", "_law_row", "_law_a", "_law_b"] ["_law_table_here", "_law_xs"] (defScope s__law_whole_sums) := ⟨rfl, rfl, rfl, by decide +kernel, rfl, by decide +kernel, by decide +kernel⟩
abbrev s__law_rounds : Stmt := topS 54
theorem sc__law_rounds : FnScope ["_law_table_here", "_law_xs", "_law_zs", "_law_bottom", "_law_tops", "_law_sums_here", "_law_one_here", "_law_x", "_law_top"] ["_law_table_here", "_law_xs", "_law_zs"] (defScope s__law_rounds) := ⟨rfl, rfl, rfl, by decide +kernel, rfl, by decide +kernel, by decide +kernel⟩
abbrev s__law_are_wholes : Stmt := topS 55
theorem sc__law_are_wholes : FnScope ["_law_thing", "_law_many", "_law_one_here"] ["_law_thing", "_law_many"] (defScope s__law_are_wholes) := ⟨rfl, rfl, rfl, by decide +kernel, rfl, by decide +kernel, by decide +kernel⟩
abbrev s_law : Stmt := topS 56
theorem sc_law : FnScope ["_law_script", "_law_k", "_law_cell", "_law_source", "_law_table_here", "_law_xs", "_law_handed", "_law_some", "_law_right", "_law_due", "_law_turn", "_law_found", "_law_x", "_law_zs"] ["_law_script"] (defScope s_law) := ⟨rfl, rfl, rfl, by decide +kernel, rfl, by decide +kernel, by decide +kernel⟩
/-- what the top has written -/
structure Txt (K : PySem.W.Frag) (mg : Str → Option Value) where
  f_is_whole : Addr
  fd_is_whole : FuncData
  F_is_whole : Fun K "is_whole" "is_whole" s_is_whole f_is_whole fd_is_whole
  g_is_whole : mg "is_whole" = some (.ref f_is_whole)
  k_is_whole : PySem.W.keepIn K (.ref f_is_whole) = true
  b_is_whole : Binds K fd_is_whole ["thing"] []
  f_is_fraction : Addr
  fd_is_fraction : FuncData
  F_is_fraction : Fun K "is_fraction" "is_fraction" s_is_fraction f_is_fraction fd_is_fraction
  g_is_fraction : mg "is_fraction" = some (.ref f_is_fraction)
  k_is_fraction : PySem.W.keepIn K (.ref f_is_fraction) = true
  b_is_fraction : Binds K fd_is_fraction ["thing"] []
  f_fraction : Addr
  fd_fraction : FuncData
  F_fraction : FunD K "fraction" "fraction" (defArgs s_fraction) (defBody s_fraction) (defScope s_fraction) [.int 1] [] f_fraction fd_fraction
  g_fraction : mg "fraction" = some (.ref f_fraction)
  k_fraction : PySem.W.keepIn K (.ref f_fraction) = true
  b_fraction : Binds K fd_fraction ["top", "bottom"] []
  d_fraction_1 : List Value
  b_fraction_1 : Vals ([.int 1].drop 0) d_fraction_1 ∧ Binds K fd_fraction ["top", "bottom"] d_fraction_1
  f_plus : Addr
  fd_plus : FuncData
  F_plus : Fun K "plus" "plus" s_plus f_plus fd_plus
  g_plus : mg "plus" = some (.ref f_plus)
  k_plus : PySem.W.keepIn K (.ref f_plus) = true
  b_plus : Binds K fd_plus ["one", "other"] []
  f_times : Addr
  fd_times : FuncData
  F_times : Fun K "times" "times" s_times f_times fd_times
  g_times : mg "times" = some (.ref f_times)
  k_times : PySem.W.keepIn K (.ref f_times) = true
  b_times : Binds K fd_times ["one", "other"] []
  f_floor_of : Addr
  fd_floor_of : FuncData
  F_floor_of : Fun K "floor_of" "floor_of" s_floor_of f_floor_of fd_floor_of
  g_floor_of : mg "floor_of" = some (.ref f_floor_of)
  k_floor_of : PySem.W.keepIn K (.ref f_floor_of) = true
  b_floor_of : Binds K fd_floor_of ["value"] []
  f_ceiling_of : Addr
  fd_ceiling_of : FuncData
  F_ceiling_of : Fun K "ceiling_of" "ceiling_of" s_ceiling_of f_ceiling_of fd_ceiling_of
  g_ceiling_of : mg "ceiling_of" = some (.ref f_ceiling_of)
  k_ceiling_of : PySem.W.keepIn K (.ref f_ceiling_of) = true
  b_ceiling_of : Binds K fd_ceiling_of ["value"] []
  f_is_long : Addr
  fd_is_long : FuncData
  F_is_long : Fun K "is_long" "is_long" s_is_long f_is_long fd_is_long
  g_is_long : mg "is_long" = some (.ref f_is_long)
  k_is_long : PySem.W.keepIn K (.ref f_is_long) = true
  b_is_long : Binds K fd_is_long ["thing", "many"] []
  f_is_fractions : Addr
  fd_is_fractions : FuncData
  F_is_fractions : Fun K "is_fractions" "is_fractions" s_is_fractions f_is_fractions fd_is_fractions
  g_is_fractions : mg "is_fractions" = some (.ref f_is_fractions)
  k_is_fractions : PySem.W.keepIn K (.ref f_is_fractions) = true
  b_is_fractions : Binds K fd_is_fractions ["thing", "many"] []
  f_check_fractions : Addr
  fd_check_fractions : FuncData
  F_check_fractions : Fun K "check_fractions" "check_fractions" s_check_fractions f_check_fractions fd_check_fractions
  g_check_fractions : mg "check_fractions" = some (.ref f_check_fractions)
  k_check_fractions : PySem.W.keepIn K (.ref f_check_fractions) = true
  b_check_fractions : Binds K fd_check_fractions ["thing", "many", "word"] []
  f_all_lists : Addr
  fd_all_lists : FuncData
  F_all_lists : Fun K "all_lists" "all_lists" s_all_lists f_all_lists fd_all_lists
  g_all_lists : mg "all_lists" = some (.ref f_all_lists)
  k_all_lists : PySem.W.keepIn K (.ref f_all_lists) = true
  b_all_lists : Binds K fd_all_lists ["choices"] []
  f_is_table : Addr
  fd_is_table : FuncData
  F_is_table : Fun K "is_table" "is_table" s_is_table f_is_table fd_is_table
  g_is_table : mg "is_table" = some (.ref f_is_table)
  k_is_table : PySem.W.keepIn K (.ref f_is_table) = true
  b_is_table : Binds K fd_is_table ["thing"] []
  f_is_row : Addr
  fd_is_row : FuncData
  F_is_row : Fun K "is_row" "is_row" s_is_row f_is_row fd_is_row
  g_is_row : mg "is_row" = some (.ref f_is_row)
  k_is_row : PySem.W.keepIn K (.ref f_is_row) = true
  b_is_row : Binds K fd_is_row ["thing"] []
  f_check_table : Addr
  fd_check_table : FuncData
  F_check_table : Fun K "check_table" "check_table" s_check_table f_check_table fd_check_table
  g_check_table : mg "check_table" = some (.ref f_check_table)
  k_check_table : PySem.W.keepIn K (.ref f_check_table) = true
  b_check_table : Binds K fd_check_table ["thing"] []
  f_led : Addr
  fd_led : FuncData
  F_led : Fun K "led" "led" s_led f_led fd_led
  g_led : mg "led" = some (.ref f_led)
  k_led : PySem.W.keepIn K (.ref f_led) = true
  b_led : Binds K fd_led ["table", "xs"] []
  f_row_sum : Addr
  fd_row_sum : FuncData
  F_row_sum : Fun K "row_sum" "row_sum" s_row_sum f_row_sum fd_row_sum
  g_row_sum : mg "row_sum" = some (.ref f_row_sum)
  k_row_sum : PySem.W.keepIn K (.ref f_row_sum) = true
  b_row_sum : Binds K fd_row_sum ["row", "xs"] []
  f_row_totals : Addr
  fd_row_totals : FuncData
  F_row_totals : Fun K "row_totals" "row_totals" s_row_totals f_row_totals fd_row_totals
  g_row_totals : mg "row_totals" = some (.ref f_row_totals)
  k_row_totals : PySem.W.keepIn K (.ref f_row_totals) = true
  b_row_totals : Binds K fd_row_totals ["table", "numbers"] []
  f_rounded : Addr
  fd_rounded : FuncData
  F_rounded : Fun K "rounded" "rounded" s_rounded f_rounded fd_rounded
  g_rounded : mg "rounded" = some (.ref f_rounded)
  k_rounded : PySem.W.keepIn K (.ref f_rounded) = true
  b_rounded : Binds K fd_rounded ["table", "xs"] []
  f_all_rounded : Addr
  fd_all_rounded : FuncData
  F_all_rounded : Fun K "all_rounded" "all_rounded" s_all_rounded f_all_rounded fd_all_rounded
  g_all_rounded : mg "all_rounded" = some (.ref f_all_rounded)
  k_all_rounded : PySem.W.keepIn K (.ref f_all_rounded) = true
  b_all_rounded : Binds K fd_all_rounded ["xs"] []
  f_is_between : Addr
  fd_is_between : FuncData
  F_is_between : Fun K "is_between" "is_between" s_is_between f_is_between fd_is_between
  g_is_between : mg "is_between" = some (.ref f_is_between)
  k_is_between : PySem.W.keepIn K (.ref f_is_between) = true
  b_is_between : Binds K fd_is_between ["table", "whole", "ends"] []
  f__law_source_of : Addr
  fd__law_source_of : FuncData
  F__law_source_of : Fun K "_law_source_of" "_law_source_of" s__law_source_of f__law_source_of fd__law_source_of
  g__law_source_of : mg "_law_source_of" = some (.ref f__law_source_of)
  k__law_source_of : PySem.W.keepIn K (.ref f__law_source_of) = true
  b__law_source_of : Binds K fd__law_source_of ["_law_cell"] []
  f__law_next : Addr
  fd__law_next : FuncData
  F__law_next : Fun K "_law_next" "_law_next" s__law_next f__law_next fd__law_next
  g__law_next : mg "_law_next" = some (.ref f__law_next)
  k__law_next : PySem.W.keepIn K (.ref f__law_next) = true
  b__law_next : Binds K fd__law_next ["_law_source", "_law_many"] []
  f__law_one : Addr
  fd__law_one : FuncData
  F__law_one : Fun K "_law_one" "_law_one" s__law_one f__law_one fd__law_one
  g__law_one : mg "_law_one" = some (.ref f__law_one)
  k__law_one : PySem.W.keepIn K (.ref f__law_one) = true
  b__law_one : Binds K fd__law_one ["_law_source", "_law_some"] []
  f__law_cell_at : Addr
  fd__law_cell_at : FuncData
  F__law_cell_at : Fun K "_law_cell_at" "_law_cell_at" s__law_cell_at f__law_cell_at fd__law_cell_at
  g__law_cell_at : mg "_law_cell_at" = some (.ref f__law_cell_at)
  k__law_cell_at : PySem.W.keepIn K (.ref f__law_cell_at) = true
  b__law_cell_at : Binds K fd__law_cell_at ["_law_script", "_law_k"] []
  f__law_mixed : Addr
  fd__law_mixed : FuncData
  F__law_mixed : Fun K "_law_mixed" "_law_mixed" s__law_mixed f__law_mixed fd__law_mixed
  g__law_mixed : mg "_law_mixed" = some (.ref f__law_mixed)
  k__law_mixed : PySem.W.keepIn K (.ref f__law_mixed) = true
  b__law_mixed : Binds K fd__law_mixed ["_law_source", "_law_some"] []
  f__law_ends : Addr
  fd__law_ends : FuncData
  F__law_ends : Fun K "_law_ends" "_law_ends" s__law_ends f__law_ends fd__law_ends
  g__law_ends : mg "_law_ends" = some (.ref f__law_ends)
  k__law_ends : PySem.W.keepIn K (.ref f__law_ends) = true
  b__law_ends : Binds K fd__law_ends ["_law_source", "_law_many"] []
  f__law_net : Addr
  fd__law_net : FuncData
  F__law_net : Fun K "_law_net" "_law_net" s__law_net f__law_net fd__law_net
  g__law_net : mg "_law_net" = some (.ref f__law_net)
  k__law_net : PySem.W.keepIn K (.ref f__law_net) = true
  b__law_net : Binds K fd__law_net ["_law_ends_here", "_law_arcs"] []
  f__law_net_drawn : Addr
  fd__law_net_drawn : FuncData
  F__law_net_drawn : Fun K "_law_net_drawn" "_law_net_drawn" s__law_net_drawn f__law_net_drawn fd__law_net_drawn
  g__law_net_drawn : mg "_law_net_drawn" = some (.ref f__law_net_drawn)
  k__law_net_drawn : PySem.W.keepIn K (.ref f__law_net_drawn) = true
  b__law_net_drawn : Binds K fd__law_net_drawn ["_law_source", "_law_many", "_law_wide"] []
  f__law_stretches : Addr
  fd__law_stretches : FuncData
  F__law_stretches : Fun K "_law_stretches" "_law_stretches" s__law_stretches f__law_stretches fd__law_stretches
  g__law_stretches : mg "_law_stretches" = some (.ref f__law_stretches)
  k__law_stretches : PySem.W.keepIn K (.ref f__law_stretches) = true
  b__law_stretches : Binds K fd__law_stretches ["_law_source", "_law_many", "_law_wide"] []
  f__law_swung : Addr
  fd__law_swung : FuncData
  F__law_swung : Fun K "_law_swung" "_law_swung" s__law_swung f__law_swung fd__law_swung
  g__law_swung : mg "_law_swung" = some (.ref f__law_swung)
  k__law_swung : PySem.W.keepIn K (.ref f__law_swung) = true
  b__law_swung : Binds K fd__law_swung ["_law_source", "_law_table_here"] []
  f__law_table : Addr
  fd__law_table : FuncData
  F__law_table : Fun K "_law_table" "_law_table" s__law_table f__law_table fd__law_table
  g__law_table : mg "_law_table" = some (.ref f__law_table)
  k__law_table : PySem.W.keepIn K (.ref f__law_table) = true
  b__law_table : Binds K fd__law_table ["_law_source", "_law_most"] []
  f__law_divisor : Addr
  fd__law_divisor : FuncData
  F__law_divisor : Fun K "_law_divisor" "_law_divisor" s__law_divisor f__law_divisor fd__law_divisor
  g__law_divisor : mg "_law_divisor" = some (.ref f__law_divisor)
  k__law_divisor : PySem.W.keepIn K (.ref f__law_divisor) = true
  b__law_divisor : Binds K fd__law_divisor ["_law_one_here", "_law_other"] []
  f__law_lowest : Addr
  fd__law_lowest : FuncData
  F__law_lowest : Fun K "_law_lowest" "_law_lowest" s__law_lowest f__law_lowest fd__law_lowest
  g__law_lowest : mg "_law_lowest" = some (.ref f__law_lowest)
  k__law_lowest : PySem.W.keepIn K (.ref f__law_lowest) = true
  b__law_lowest : Binds K fd__law_lowest ["_law_top", "_law_bottom"] []
  f__law_common : Addr
  fd__law_common : FuncData
  F__law_common : Fun K "_law_common" "_law_common" s__law_common f__law_common fd__law_common
  g__law_common : mg "_law_common" = some (.ref f__law_common)
  k__law_common : PySem.W.keepIn K (.ref f__law_common) = true
  b__law_common : Binds K fd__law_common ["_law_xs"] []
  f__law_is_number : Addr
  fd__law_is_number : FuncData
  F__law_is_number : Fun K "_law_is_number" "_law_is_number" s__law_is_number f__law_is_number fd__law_is_number
  g__law_is_number : mg "_law_is_number" = some (.ref f__law_is_number)
  k__law_is_number : PySem.W.keepIn K (.ref f__law_is_number) = true
  b__law_is_number : Binds K fd__law_is_number ["_law_thing"] []
  f__law_sums : Addr
  fd__law_sums : FuncData
  F__law_sums : Fun K "_law_sums" "_law_sums" s__law_sums f__law_sums fd__law_sums
  g__law_sums : mg "_law_sums" = some (.ref f__law_sums)
  k__law_sums : PySem.W.keepIn K (.ref f__law_sums) = true
  b__law_sums : Binds K fd__law_sums ["_law_rows", "_law_xs"] []
  f__law_floor : Addr
  fd__law_floor : FuncData
  F__law_floor : Fun K "_law_floor" "_law_floor" s__law_floor f__law_floor fd__law_floor
  g__law_floor : mg "_law_floor" = some (.ref f__law_floor)
  k__law_floor : PySem.W.keepIn K (.ref f__law_floor) = true
  b__law_floor : Binds K fd__law_floor ["_law_one_here"] []
  f__law_ceiling : Addr
  fd__law_ceiling : FuncData
  F__law_ceiling : Fun K "_law_ceiling" "_law_ceiling" s__law_ceiling f__law_ceiling fd__law_ceiling
  g__law_ceiling : mg "_law_ceiling" = some (.ref f__law_ceiling)
  k__law_ceiling : PySem.W.keepIn K (.ref f__law_ceiling) = true
  b__law_ceiling : Binds K fd__law_ceiling ["_law_one_here"] []
  f__law_signed_xs : Addr
  fd__law_signed_xs : FuncData
  F__law_signed_xs : Fun K "_law_signed_xs" "_law_signed_xs" s__law_signed_xs f__law_signed_xs fd__law_signed_xs
  g__law_signed_xs : mg "_law_signed_xs" = some (.ref f__law_signed_xs)
  k__law_signed_xs : PySem.W.keepIn K (.ref f__law_signed_xs) = true
  b__law_signed_xs : Binds K fd__law_signed_xs ["_law_source", "_law_many"] []
  f__law_lists : Addr
  fd__law_lists : FuncData
  F__law_lists : Fun K "_law_lists" "_law_lists" s__law_lists f__law_lists fd__law_lists
  g__law_lists : mg "_law_lists" = some (.ref f__law_lists)
  k__law_lists : PySem.W.keepIn K (.ref f__law_lists) = true
  b__law_lists : Binds K fd__law_lists ["_law_lows", "_law_highs"] []
  f__law_whole_sums : Addr
  fd__law_whole_sums : FuncData
  F__law_whole_sums : Fun K "_law_whole_sums" "_law_whole_sums" s__law_whole_sums f__law_whole_sums fd__law_whole_sums
  g__law_whole_sums : mg "_law_whole_sums" = some (.ref f__law_whole_sums)
  k__law_whole_sums : PySem.W.keepIn K (.ref f__law_whole_sums) = true
  b__law_whole_sums : Binds K fd__law_whole_sums ["_law_table_here", "_law_xs"] []
  f__law_rounds : Addr
  fd__law_rounds : FuncData
  F__law_rounds : Fun K "_law_rounds" "_law_rounds" s__law_rounds f__law_rounds fd__law_rounds
  g__law_rounds : mg "_law_rounds" = some (.ref f__law_rounds)
  k__law_rounds : PySem.W.keepIn K (.ref f__law_rounds) = true
  b__law_rounds : Binds K fd__law_rounds ["_law_table_here", "_law_xs", "_law_zs"] []
  f__law_are_wholes : Addr
  fd__law_are_wholes : FuncData
  F__law_are_wholes : Fun K "_law_are_wholes" "_law_are_wholes" s__law_are_wholes f__law_are_wholes fd__law_are_wholes
  g__law_are_wholes : mg "_law_are_wholes" = some (.ref f__law_are_wholes)
  k__law_are_wholes : PySem.W.keepIn K (.ref f__law_are_wholes) = true
  b__law_are_wholes : Binds K fd__law_are_wholes ["_law_thing", "_law_many"] []
  f_law : Addr
  fd_law : FuncData
  F_law : Fun K "law" "law" s_law f_law fd_law
  g_law : mg "law" = some (.ref f_law)
  k_law : PySem.W.keepIn K (.ref f_law) = true
  b_law : Binds K fd_law ["_law_script"] []
  t_MOST : Tok
  g_MOST : mg "MOST" = some (.int 8 t_MOST)
  g_gcd : mg "gcd" = some (.builtin "math.gcd")
  n_abs : mg "abs" = none
  n_all : mg "all" = none
  n_bool : mg "bool" = none
  n_enumerate : mg "enumerate" = none
  n_int : mg "int" = none
  n_isinstance : mg "isinstance" = none
  n_len : mg "len" = none
  n_list : mg "list" = none
  n_range : mg "range" = none
  n_repr : mg "repr" = none
  n_sum : mg "sum" = none
  n_tuple : mg "tuple" = none
  n_zip : mg "zip" = none
/-! ### numbers -/
def Bd (n : Nat) (i : Int) : Prop := i.natAbs < 2 ^ n
theorem Bd.mono {a b : Nat} {i : Int} (h : Bd a i) (hab : a ≤ b) : Bd b i := Nat.lt_of_lt_of_le h (Nat.pow_le_pow_right (by decide) hab)
theorem Bd.mul {a b : Nat} {i j : Int} (h : Bd a i) (g : Bd b j) : Bd (a + b) (i * j) := wide_lt h g
theorem Bd.add {a : Nat} {i j : Int} (h : Bd a i) (g : Bd a j) : Bd (a + 1) (i + j) := by
  have h1 : i.natAbs < 2 ^ a := h
  have h2 : j.natAbs < 2 ^ a := g
  show (i + j).natAbs < 2 ^ (a + 1)
  rw [Nat.pow_succ]
  omega
theorem Bd.sub {a : Nat} {i j : Int} (h : Bd a i) (g : Bd a j) : Bd (a + 1) (i - j) := by
  have h1 : i.natAbs < 2 ^ a := h
  have h2 : j.natAbs < 2 ^ a := g
  show (i - j).natAbs < 2 ^ (a + 1)
  rw [Nat.pow_succ]
  omega
theorem Bd.neg {a : Nat} {i : Int} (h : Bd a i) : Bd a (-i) := by
  show (-i).natAbs < 2 ^ a
  rw [Int.natAbs_neg]
  exact h
theorem Bd.abs {a : Nat} {i j : Int} (h : Bd a i) (e : j.natAbs ≤ i.natAbs) : Bd a j := Nat.lt_of_le_of_lt e h
theorem Bd.mulOk {a b : Nat} {i j : Int} (h : Bd a i) (g : Bd b j) (h0 : 0 < a := by decide) (h1 : 0 < b := by decide) (hs : a + b ≤ 1000000 := by decide) : CMulW i j := wide_mul h g h0 h1 hs
theorem Bd.divOk {b : Nat} {i j : Int} (h : 0 < j) (g : Bd b j) (h0 : 0 < b := by decide) (h9 : b ≤ 9000 := by decide) : CDivW i j := wide_div h g h0 h9
/-- // by a divisor other than 0 below 2 ^ 9000 -/
def CDivNW (_ j : Int) : Prop := j ≠ 0 ∧ j.natAbs.log2 < 9000
theorem Bd.divNOk {b : Nat} {i j : Int} (h : j ≠ 0) (g : Bd b j) (h0 : 0 < b := by decide) (h9 : b ≤ 9000 := by decide) : CDivNW i j := ⟨h, Nat.lt_of_lt_of_le (PySem.Flt.log2_lt_of h0 g) h9⟩
theorem op_fdivNW {X : Cx} : OpR X (binaryOp .FloorDiv) (rI CDivNW fun i j => .int (i.fdiv j)) := opI fun _ _ _ _ _ _ _ hc q => floordiv_int hc.1 q (.inl (PyProof.noPylong_of_log2 hc.2))
/-! ### heaps -/
/-- all but what stands at s is as it was -/
def ExB (s : Addr) (H H' : Hp) : Prop := ∀ b o, b ≠ s → H b = some o → H' b = some o
theorem ExB.trans {s : Addr} {H H1 H2 : Hp} (a : ExB s H H1) (b : ExB s H1 H2) : ExB s H H2 := fun c o n h => b c o n (a c o n h)
theorem ExB.refl (s : Addr) (H : Hp) : ExB s H H := fun _ _ _ h => h
theorem ExB.of {s : Addr} {H H1 : Hp} (a : Ex H H1) : ExB s H H1 := fun c o _ h => a c o h
theorem ExB.ex {s : Addr} {H H1 H2 : Hp} (a : ExB s H1 H2) (n : H s = none) (e : Ex H H1) : Ex H H2 := fun b o h => a b o (ne_of_none h n) (e b o h)
theorem ExB.upd (s : Addr) (H : Hp) (o : HO) : ExB s H (upd H s o) := fun b u n h => by
  rw [upd_ne n]
  exact h
theorem Ex.updB {s : Addr} {H H' : Hp} {o : HO} (e : Ex H H') : ExB s H (upd H' s o) := fun b u n h => by
  rw [upd_ne n]
  exact e b u h
/-- the source of a law's numbers: n at least the numbers made so far -/
def SrcAt (H : Hp) (s : Addr) (n : Int) : Prop := ∃ p q r : Int, H s = some (.lst [.int p, .int q, .int r]) ∧ 0 ≤ q ∧ q < 2147483647 ∧ 0 ≤ r ∧ r ≤ n
theorem SrcAt.ex {H H' : Hp} {s : Addr} {n : Int} (h : SrcAt H s n) (e : Ex H H') : SrcAt H' s n := by
  obtain ⟨p, q, r, h1, h2⟩ := h
  exact ⟨p, q, r, e _ _ h1, h2⟩
theorem SrcAt.exB {H H' : Hp} {s t : Addr} {n : Int} (h : SrcAt H s n) (e : ExB t H H') (ne : s ≠ t) : SrcAt H' s n := by
  obtain ⟨p, q, r, h1, h2⟩ := h
  exact ⟨p, q, r, e _ _ ne h1, h2⟩
theorem SrcAt.le {H : Hp} {s : Addr} {n m : Int} (h : SrcAt H s n) (e : n ≤ m) : SrcAt H s m := by
  obtain ⟨p, q, r, h1, h2, h3, h4, h5⟩ := h
  exact ⟨p, q, r, h1, h2, h3, h4, by omega⟩
theorem SrcAt.obj {H : Hp} {s : Addr} {n : Int} (h : SrcAt H s n) : ∃ o, H s = some o := by
  obtain ⟨p, q, r, h1, _⟩ := h
  exact ⟨_, h1⟩
/-- classes that is_whole is asked about -/
def tyOk (t : String) : Prop := t = "int" ∨ t = "bool" ∨ t = "NoneType" ∨ t = "str" ∨ t = "tuple" ∨ t = "list" ∨ t = "dict"
theorem ty_int {t : String} (h : tyOk t) : kitB t "int" = some (t == "int" || t == "bool") := by
  rcases h with rfl | rfl | rfl | rfl | rfl | rfl | rfl <;> decide +kernel
theorem ty_bool {t : String} (h : tyOk t) : kitB t "bool" = some (t == "bool") := by
  rcases h with rfl | rfl | rfl | rfl | rfl | rfl | rfl <;> decide +kernel
theorem ty_tuple {t : String} (h : tyOk t) : kitB t "tuple" = some (t == "tuple") := by
  rcases h with rfl | rfl | rfl | rfl | rfl | rfl | rfl <;> decide +kernel
theorem ty_list {t : String} (h : tyOk t) : kitB t "list" = some (t == "list") := by
  rcases h with rfl | rfl | rfl | rfl | rfl | rfl | rfl <;> decide +kernel
theorem prime_at (r : Int) (h : 0 ≤ r) : ∃ p : Int, atI [V.int 2147483647, V.int 2147483629, V.int 2147483587, V.int 2147483579, V.int 2147483563, V.int 2147483549, V.int 2147483543] (r % 7) = some (.int p) ∧ 0 < p ∧ p ≤ 2147483647 := by
  have h1 : 0 ≤ r % 7 := Int.emod_nonneg _ (by decide)
  have h2 : r % 7 < 7 := Int.emod_lt_of_pos _ (by decide)
  generalize r % 7 = k at h1 h2
  have hk : k = 0 ∨ k = 1 ∨ k = 2 ∨ k = 3 ∨ k = 4 ∨ k = 5 ∨ k = 6 := by omega
  rcases hk with rfl | rfl | rfl | rfl | rfl | rfl | rfl <;> exact ⟨_, rfl, by decide, by decide⟩
/-! ### data, lists, tables -/
mutual
theorem dp_mono {K : PySem.W.Frag} {H H' : Hp} (h : ∀ a xs, SqL K H a xs → SqL K H' a xs) (h2 : ∀ a xs, SqT K H a xs → SqT K H' a xs) : ∀ {v : V} {d : PyData}, Dp K H v d → Dp K H' v d
  | _, _, .non => .non
  | _, _, .bl b => .bl b
  | _, _, .int i => .int i
  | _, _, .str x => .str x
  | _, _, .lst a b => .lst (h _ _ a) (dpAll_mono h h2 b)
  | _, _, .tup a b => .tup (h2 _ _ a) (dpAll_mono h h2 b)
theorem dpAll_mono {K : PySem.W.Frag} {H H' : Hp} (h : ∀ a xs, SqL K H a xs → SqL K H' a xs) (h2 : ∀ a xs, SqT K H a xs → SqT K H' a xs) : ∀ {vs : List V} {ds : List PyData}, DpAll K H vs ds → DpAll K H' vs ds
  | _, _, .nil => .nil
  | _, _, .cons a b => .cons (dp_mono h h2 a) (dpAll_mono h h2 b)
end
theorem dp_ex {K : PySem.W.Frag} {H H' : Hp} (e : Ex H H') {v : V} {d : PyData} (h : Dp K H v d) : Dp K H' v d := dp_mono (fun _ _ => ex_l e) (fun _ _ => ex_t e) h
theorem dpAll_ex {K : PySem.W.Frag} {H H' : Hp} (e : Ex H H') {v : List V} {d : List PyData} (h : DpAll K H v d) : DpAll K H' v d := dpAll_mono (fun _ _ => ex_l e) (fun _ _ => ex_t e) h
def NiceD (d : PyData) : Prop := d.canLay0 = true ∧ d.depth ≤ 8
/-- v is data, whatever becomes of the object at s -/
def DatV (K : PySem.W.Frag) (H : Hp) (s : Addr) (v : V) : Prop := ∀ H', ExB s H H' → ∃ d, Dp K H' v d ∧ NiceD d
theorem DatV.exB {K : PySem.W.Frag} {H H' : Hp} {s : Addr} {v : V} (h : DatV K H s v) (e : ExB s H H') : DatV K H' s v := fun H2 e2 => h H2 (e.trans e2)
theorem datv_int {K : PySem.W.Frag} {H : Hp} {s : Addr} (i : Int) : DatV K H s (.int i) := fun _ _ => ⟨_, .int i, rfl, Nat.zero_le _⟩
theorem datv_pair {K : PySem.W.Frag} {H : Hp} {s a : Addr} {x y : Int} (h : H a = some (.tup [.int x, .int y])) (n : a ≠ s) : DatV K H s (.ref a) := fun H' e =>
  ⟨_, .tup (SqT.of (e _ _ n h)) (.cons (.int x) (.cons (.int y) .nil)), rfl, Nat.le_of_ble_eq_true rfl⟩
theorem dpAll_ints {K : PySem.W.Frag} {H : Hp} : ∀ ns : List Int, DpAll K H (ns.map V.int) (ns.map PyData.int)
  | [] => .nil
  | n :: r => .cons (.int n) (dpAll_ints r)
theorem canLay_ints : ∀ ns : List Int, PyData.canLayAll0 (ns.map PyData.int) = true
  | [] => rfl
  | n :: r => by
    show (true && PyData.canLayAll0 (r.map PyData.int)) = true
    rw [canLay_ints r]
    rfl
theorem depth_ints : ∀ ns : List Int, PyData.depthAll (ns.map PyData.int) = 0
  | [] => rfl
  | n :: r => by
    show max 0 (PyData.depthAll (r.map PyData.int)) = 0
    rw [depth_ints r]
    rfl
theorem datv_row {K : PySem.W.Frag} {H : Hp} {s a : Addr} {ns : List Int} (h : H a = some (.lst (ns.map V.int))) (n : a ≠ s) : DatV K H s (.ref a) := fun H' e =>
  ⟨_, .lst (SqL.of (e _ _ n h)) (dpAll_ints ns), canLay_ints ns, by
    show PyData.depthAll (ns.map PyData.int) + 1 ≤ 8
    rw [depth_ints]
    decide⟩
theorem dat_all {K : PySem.W.Frag} {H : Hp} {s : Addr} : ∀ {xs : List V}, (∀ v ∈ xs, DatV K H s v) → ∃ ds, DpAll K H xs ds ∧ PyData.canLayAll0 ds = true ∧ PyData.depthAll ds ≤ 8
  | [], _ => ⟨[], .nil, rfl, by decide⟩
  | x :: xs, h => by
    obtain ⟨d, h1, h2, h3⟩ := h x (List.mem_cons_self ..) H (ExB.refl _ _)
    obtain ⟨ds, g1, g2, g3⟩ := dat_all (xs := xs) fun v hv => h v (List.mem_cons_of_mem _ hv)
    refine ⟨d :: ds, .cons h1 g1, ?_, ?_⟩
    · show (d.canLay0 && PyData.canLayAll0 ds) = true
      rw [h2, g2]
      rfl
    · show max d.depth (PyData.depthAll ds) ≤ 8
      omega
theorem shaped_list {ds : List PyData} (h : PyData.canLayAll0 ds = true) (h2 : PyData.depthAll ds ≤ 60) : SeqAt.shaped (.list ds) = true := by
  unfold SeqAt.shaped
  have e1 : (PyData.list ds).canLay0 = true := h
  have e2 : (PyData.list ds).depth ≤ 64 := by
    show PyData.depthAll ds + 1 ≤ 64
    omega
  rw [e1, decide_eq_true e2]
  rfl
theorem eqv_nil (ds : List PyData) : PyData.eqv (.list ds) (.list []) = ds.isEmpty := by
  cases ds <;> rfl
theorem Paired.perm {α β : Type} {R : α → β → Prop} {xs xs' : List α} (hp : xs'.Perm xs) : ∀ {ys : List β}, Paired R xs ys → ∃ ys', ys'.Perm ys ∧ Paired R xs' ys' := by
  induction hp with
  | nil => intro ys h; exact ⟨ys, .refl _, h⟩
  | cons x _ ih =>
    intro ys h
    cases h with
    | cons r t =>
      obtain ⟨ys', p, q⟩ := ih t
      exact ⟨_ :: ys', p.cons _, .cons r q⟩
  | swap x y l =>
    intro ys h
    cases h with
    | cons r t =>
      cases t with
      | cons r2 t2 => exact ⟨_, List.Perm.swap .., .cons r2 (.cons r t2)⟩
  | trans _ _ ih1 ih2 =>
    intro ys h
    obtain ⟨y1, p1, q1⟩ := ih2 h
    obtain ⟨y2, p2, q2⟩ := ih1 q1
    exact ⟨y2, p2.trans p1, q2⟩
theorem fresh_B {s p : Addr} {H H' : Hp} (e : ExB s H H') (hp : H' p = none) (hs : ∃ o, H' s = some o) : H p = none := by
  cases q : H p with
  | none => rfl
  | some o =>
    by_cases h : p = s
    · subst h
      obtain ⟨o', ho'⟩ := hs
      rw [ho'] at hp
      cases hp
    · rw [e p o h q] at hp
      cases hp
theorem SrcAt.ne {H : Hp} {s p : Addr} {n : Int} (h : SrcAt H s n) (hp : H p = none) : p ≠ s := by
  intro e
  subst e
  obtain ⟨o, ho⟩ := h.obj
  rw [ho] at hp
  cases hp
theorem SrcAt.neT {H : Hp} {s p : Addr} {n : Int} {xs : List V} (h : SrcAt H s n) (hp : H p = some (.tup xs)) : p ≠ s := by
  intro e
  subst e
  obtain ⟨_, _, _, ho, _⟩ := h
  rw [ho] at hp
  cases hp
theorem ExB.l {K : PySem.W.Frag} {s a : Addr} {H H' : Hp} {xs : List V} (e : ExB s H H') (n : a ≠ s) (h : SqL K H a xs) : SqL K H' a xs := by
  rcases h with (h | ⟨o, h⟩) | h
  · exact .inl (.inl (e _ _ n h))
  · exact .inl (.inr ⟨o, e _ _ n h⟩)
  · exact .inr h
theorem seqIx {i n : Int} {k : Nat} (h0 : 0 ≤ i) (h1 : i < (k : Int)) : seqIndex? i k = some i.toNat := by
  unfold seqIndex?
  split <;> simp_all <;> omega
theorem erase_perm {α : Type} : ∀ {ls : List α} {k : Nat} {y : α}, ls[k]? = some y → (y :: ls.eraseIdx k).Perm ls
  | [], _, _, h => by simp at h
  | a :: l, 0, y, h => by
    have e := Option.some.inj h
    subst e
    exact .refl _
  | a :: l, k + 1, y, h => (List.Perm.swap a y _).trans ((erase_perm (ls := l) (k := k) h).cons a)
theorem perm_pop {α : Type} {fs ls : List α} {k : Nat} {y : α} (h : ls[k]? = some y) : ((fs ++ [y]) ++ ls.eraseIdx k).Perm (fs ++ ls) := by
  have h1 := erase_perm h
  rw [List.append_assoc]
  exact List.Perm.append_left fs h1
/-- the table at p: its rows at the places as -/
def RowsAt (H : Hp) : List Addr → List (List Int) → Prop := Paired fun a r => H a = some (.lst (r.map V.int))
def Tab (H : Hp) (p : Addr) (as : List Addr) (rows : List (List Int)) : Prop := H p = some (.lst (as.map V.ref)) ∧ RowsAt H as rows
theorem RowsAt.ex {H H' : Hp} (e : Ex H H') : ∀ {as : List Addr} {rows : List (List Int)}, RowsAt H as rows → RowsAt H' as rows
  | _, _, .nil => .nil
  | _, _, .cons h t => .cons (e _ _ h) (RowsAt.ex e t)
theorem Tab.ex {H H' : Hp} {p : Addr} {as : List Addr} {rows : List (List Int)} (h : Tab H p as rows) (e : Ex H H') : Tab H' p as rows := ⟨e _ _ h.1, h.2.ex e⟩
/-! ### edges -/
def EdgesAt (H : Hp) : List Addr → List (Int × Int) → Prop := Paired fun a e => H a = some (.tup [.int e.1, .int e.2])
theorem paired_imp {α β : Type} {R R' : α → β → Prop} (h : ∀ a b, R a b → R' a b) : ∀ {xs : List α} {ys : List β}, Paired R xs ys → Paired R' xs ys
  | _, _, .nil => .nil
  | _, _, .cons r t => .cons (h _ _ r) (paired_imp h t)
theorem EdgesAt.mono {H H' : Hp} {as : List Addr} {es : List (Int × Int)} (h : ∀ a xs, H a = some (.tup xs) → H' a = some (.tup xs)) (x : EdgesAt H as es) : EdgesAt H' as es := paired_imp (fun _ _ r => h _ _ r) x
theorem tups_B {H H' : Hp} {s : Addr} {n : Int} (hs : SrcAt H s n) (e : ExB s H H') : ∀ a xs, H a = some (.tup xs) → H' a = some (.tup xs) := fun a _ h => e a _ (hs.neT h) h
theorem tups_E {H H' : Hp} (e : Ex H H') : ∀ a xs, H a = some (.tup xs) → H' a = some (.tup xs) := fun a _ h => e a _ h
theorem tups_U {H : Hp} {l : Addr} {xs : List V} {o : HO} (h : H l = some (.lst xs)) : ∀ a ys, H a = some (.tup ys) → upd H l o a = some (.tup ys) := fun a ys g => by
  rw [upd_ne (ne_of g h (by intro z; cases z))]
  exact g
def Conn (es : List (Int × Int)) (m : Int) : Prop := ∀ S : Int → Bool, (∀ e ∈ es, S e.1 = S e.2) → ∀ a b, 0 ≤ a → a ≤ m → 0 ≤ b → b ≤ m → S a = S b
theorem Conn.perm {es es' : List (Int × Int)} {m : Int} (h : Conn es m) (p : es'.Perm es) : Conn es' m := fun S hS => h S fun e he => hS e (p.mem_iff.mpr he)
def EdgeTree (pl : List Int) (es : List (Int × Int)) : Prop := ∀ j, j < es.length → ∃ i a b, i ≤ j ∧ pl[i]? = some a ∧ pl[j + 1]? = some b ∧ (es[j]? = some (a, b) ∨ es[j]? = some (b, a))
theorem EdgeTree.more {pl : List Int} {es : List (Int × Int)} {e : Int × Int} {i : Nat} {a b : Int} (h : EdgeTree pl es) (hi : i ≤ es.length) (ha : pl[i]? = some a) (hb : pl[es.length + 1]? = some b) (he : e = (a, b) ∨ e = (b, a)) : EdgeTree pl (es ++ [e]) := by
  intro j hj
  rw [List.length_append] at hj
  have hj' : j < es.length + 1 := hj
  by_cases h1 : j < es.length
  · obtain ⟨i', a', b', x1, x2, x3, x4⟩ := h j h1
    refine ⟨i', a', b', x1, x2, x3, ?_⟩
    rw [List.getElem?_append_left h1]
    exact x4
  · have h2 : j = es.length := by omega
    subst h2
    refine ⟨i, a, b, hi, ha, hb, ?_⟩
    rw [List.getElem?_append_right (Nat.le_refl _), Nat.sub_self]
    rcases he with rfl | rfl
    · exact .inl rfl
    · exact .inr rfl
theorem EdgeTree.conn {pl : List Int} {es : List (Int × Int)} {m : Nat} (h : EdgeTree pl es) (hl : es.length = m) (hp : pl.length = m + 1) (hall : ∀ a : Int, 0 ≤ a → a ≤ m → a ∈ pl) : Conn es m := by
  intro S hS
  have key : ∀ j : Nat, ∀ j' : Nat, j' ≤ j → ∀ a, pl[j']? = some a → ∀ z, pl[0]? = some z → S a = S z := by
    intro j
    induction j with
    | zero =>
      intro j' hj' a ha z hz
      have : j' = 0 := by omega
      subst this
      rw [hz] at ha
      rw [Option.some.inj ha]
    | succ j ih =>
      intro j' hj' a ha z hz
      by_cases h1 : j' ≤ j
      · exact ih j' h1 a ha z hz
      · have h2 : j' = j + 1 := by omega
        subst h2
        have hlt : j + 1 < pl.length := (List.getElem?_eq_some_iff.mp ha).1
        obtain ⟨i, x, y, hi, hx, hy, he⟩ := h j (by omega)
        rw [ha] at hy
        have ey := Option.some.inj hy
        subst ey
        have hSe : S x = S a := by
          rcases he with he | he
          · exact hS (x, a) (List.mem_of_getElem? he)
          · exact (hS (a, x) (List.mem_of_getElem? he)).symm
        rw [← hSe]
        exact ih i hi x hx z hz
  intro a b ha ha' hb hb'
  obtain ⟨i, hi⟩ := List.getElem?_of_mem (hall a ha ha')
  obtain ⟨j, hj⟩ := List.getElem?_of_mem (hall b hb hb')
  have hz : ∃ z, pl[0]? = some z := ⟨_, List.getElem?_eq_getElem (by omega)⟩
  obtain ⟨z, hz⟩ := hz
  rw [key i i (Nat.le_refl _) a hi z hz, key j j (Nat.le_refl _) b hj z hz]
theorem paired_map {α β : Type} {R : α → β → Prop} (f : β → α) (h : ∀ b, R (f b) b) : ∀ ys : List β, Paired R (ys.map f) ys
  | [] => .nil
  | b :: r => .cons (h b) (paired_map f h r)
theorem paired_eq_map {α β : Type} {f : β → α} : ∀ {xs : List α} {ys : List β}, Paired (fun x y => x = f y) xs ys → xs = ys.map f
  | _, _, .nil => rfl
  | _, _, .cons r t => by rw [r, paired_eq_map t]; rfl
theorem perm_ints {ys : List V} {ns : List Int} (h : ys.Perm (ns.map V.int)) : ∃ pl : List Int, ys = pl.map V.int ∧ pl.Perm ns := by
  obtain ⟨pl, p, q⟩ := Paired.perm (R := fun (x : V) y => x = V.int y) h (paired_map V.int (fun _ => rfl) ns)
  exact ⟨pl, paired_eq_map q, p⟩
theorem perm_refs {β : Type} {R : Addr → β → Prop} {ys : List V} {as : List Addr} {es : List β} (h : ys.Perm (as.map V.ref)) (hx : Paired R as es) : ∃ (as' : List Addr) (es' : List β), ys = as'.map V.ref ∧ es'.Perm es ∧ Paired R as' es' ∧ as'.Perm as := by
  obtain ⟨as', p, q⟩ := Paired.perm (R := fun (x : V) y => x = V.ref y) h (paired_map V.ref (fun _ => rfl) as)
  obtain ⟨es', p2, q2⟩ := Paired.perm p hx
  exact ⟨as', es', paired_eq_map q, p2, q2, p⟩
def numsTo (m : Nat) : List Int := (List.range m).map fun i : Nat => (i : Int)
theorem rgV_nums (m : Int) : rgV 0 m = (numsTo m.toNat).map V.int := by
  unfold rgV numsTo
  rw [List.map_map, Int.sub_zero]
  refine List.map_congr_left fun i _ => ?_
  show V.int (0 + (i : Int)) = V.int (i : Int)
  rw [Int.zero_add]
theorem mem_numsTo {m : Nat} {a : Int} : a ∈ numsTo m ↔ 0 ≤ a ∧ a < m := by
  unfold numsTo
  rw [List.mem_map]
  constructor
  · rintro ⟨i, hi, rfl⟩
    have := List.mem_range.mp hi
    omega
  · rintro ⟨h0, h1⟩
    exact ⟨a.toNat, List.mem_range.mpr (by omega), by omega⟩
theorem numsTo_length (m : Nat) : (numsTo m).length = m := by
  unfold numsTo
  rw [List.length_map, List.length_range]
theorem paired_snoc {α β : Type} {R : α → β → Prop} {a : α} {b : β} {xs : List α} {ys : List β} (h : Paired R xs ys) (r : R a b) : Paired R (xs ++ [a]) (ys ++ [b]) := Paired.snoc h r
theorem paired_mem {α β : Type} {R : α → β → Prop} : ∀ {xs : List α} {ys : List β} {x : α}, Paired R xs ys → x ∈ xs → ∃ y, y ∈ ys ∧ R x y
  | _, _, _, .nil, h => by simp at h
  | _, _, x, .cons (a := a) r t, h => by
    rcases List.mem_cons.mp h with e | h
    · subst e
      exact ⟨_, List.mem_cons_self .., r⟩
    · obtain ⟨y, hy, hr⟩ := paired_mem t h
      exact ⟨y, List.mem_cons_of_mem _ hy, hr⟩
/-! ### loops and comprehensions over more -/
theorem for_enum {K : PySem.W.Frag} {a : Addr} {xs : List V} {g : TG} {tb : TS} {D : Ends} {σ : L2.St} {H : Hp} (Pv : Nat → L2.St → Hp → Prop) (h0 : Pv 0 σ H) (hq : ∀ i σ H, Pv i σ H → SqL K H a xs)
    (hs : ∀ (i : Nat) (x : V) (T : Addr) (σ : L2.St) (H : Hp), xs[i]? = some x → Pv i σ H → H T = none → g (.ref T) σ (upd H T (.tup [.int (i : Nat), x])) fun σ2 H2 => tb { D with nx := Pv (i + 1), ct := Pv (i + 1), bk := D.nx } σ2 H2) (hd : ∀ σ H, Pv xs.length σ H → D.nx σ H) :
    ∃ W : Nat → Nat → L2.St → Hp → Prop, (∃ m, W 0 m σ H) ∧ ∀ i m σ H, W i m σ H →
      ((Ite K a).stop i H ∧ D.nx σ H) ∨ ((Ite K a).go i H ∧ ∃ N : L2.St → Hp → Prop, (∀ σ' H', N σ' H' → ∃ m', m' < m ∧ W (i + 1) m' σ' H') ∧ ∀ v H', (Ite K a).yld i H v H' → g v σ H' fun σ2 H2 => tb { D with nx := N, ct := N, bk := D.nx } σ2 H2) := by
  refine ⟨fun i m σ H => m = xs.length - i ∧ i ≤ xs.length ∧ Pv i σ H, ⟨xs.length, rfl, Nat.zero_le _, h0⟩, ?_⟩
  rintro i m σ H ⟨rfl, hi, p⟩
  have qx := hq i σ H p
  by_cases hlt : i < xs.length
  · have hx : xs[i]? = some xs[i] := List.getElem?_eq_getElem hlt
    refine .inr ⟨⟨xs, _, qx, hx⟩, Pv (i + 1), fun σ' H' p' => ⟨xs.length - (i + 1), by omega, rfl, hlt, p'⟩, fun v H' y => ?_⟩
    obtain ⟨T, x', rfl, hT, rfl, f1⟩ := y
    exact hs i x' T σ H (f1 xs qx) p hT
  · have e : i = xs.length := by omega
    subst e
    exact .inl ⟨⟨xs, qx, Nat.le_refl _⟩, hd σ H p⟩
theorem lc_zip {K : PySem.W.Frag} {a b : Addr} {xs ys : List V} {g : TG} {tt : TT} {te : TE} {vs : List Nat} {σ : L2.St} {H1 : Hp} {D : Addr} {Qd : Hp → Prop} (hl : xs.length = ys.length) (Pv : Nat → Hp → Prop) (h0 : Pv 0 (upd H1 D (.lst []))) (hq : ∀ i H, Pv i H → SqL K H a xs ∧ SqL K H b ys)
    (hs : ∀ (i : Nat) (x y : V) (T : Addr) (H : Hp), xs[i]? = some x → ys[i]? = some y → Pv i H → H T = none → g (.ref T) (wipe σ vs) (upd H T (.tup [x, y])) fun σ2 H2 => wipe σ2 vs = wipe σ vs ∧ tt σ2 H2 fun b H3 =>
      if b = true then te σ2 H3 fun y H4 => ∃ acc, H4 D = some (.lst acc) ∧ acc.length < sizeLine ∧ Pv (i + 1) (upd H4 D (.lst (acc ++ [y]))) else Pv (i + 1) H3) (hd : ∀ H, Pv xs.length H → Qd H) :
    ∃ W : Nat → Nat → Hp → Prop, (∃ m, W 0 m (upd H1 D (.lst []))) ∧ ∀ i m H, W i m H →
      ((Itz K a b).stop i H ∧ Qd H) ∨ ((Itz K a b).go i H ∧ ∃ Nx : Hp → Prop, (∀ H', Nx H' → ∃ m', m' < m ∧ W (i + 1) m' H') ∧ ∀ x H', (Itz K a b).yld i H x H' → g x (wipe σ vs) H' fun σ2 H2 => wipe σ2 vs = wipe σ vs ∧ tt σ2 H2 fun b H3 =>
        if b = true then te σ2 H3 fun y H4 => ∃ acc, H4 D = some (.lst acc) ∧ acc.length < sizeLine ∧ Nx (upd H4 D (.lst (acc ++ [y]))) else Nx H3) := by
  refine ⟨fun i m H => m = xs.length - i ∧ i ≤ xs.length ∧ Pv i H, ⟨xs.length, rfl, Nat.zero_le _, h0⟩, ?_⟩
  rintro i m H ⟨rfl, hi, p⟩
  obtain ⟨qx, qy⟩ := hq i H p
  by_cases hlt : i < xs.length
  · have hx : xs[i]? = some xs[i] := List.getElem?_eq_getElem hlt
    have hlt2 : i < ys.length := by omega
    have hy : ys[i]? = some ys[i] := List.getElem?_eq_getElem hlt2
    refine .inr ⟨⟨xs, ys, _, _, qx, qy, hx, hy⟩, Pv (i + 1), fun H' p' => ⟨xs.length - (i + 1), by omega, rfl, hlt, p'⟩, fun v H' y => ?_⟩
    obtain ⟨T, x', y', rfl, hT, rfl, f1, f2⟩ := y
    exact hs i x' y' T H (f1 xs qx) (f2 ys qy) p hT
  · have e : i = xs.length := by omega
    subst e
    exact .inl ⟨⟨xs, ys, qx, qy, Or.inl (Nat.le_refl _)⟩, hd H p⟩
abbrev g2 (K : PySem.W.Frag) (j1 j2 : Nat) : TG := gTup K 2 (gCons (gName j1) (gCons (gName j2) gNil))
theorem take_snoc {α : Type} {l : List α} {i : Nat} {x : α} (h : l[i]? = some x) : l.take (i + 1) = l.take i ++ [x] := by
  rw [List.take_add_one, h]
  rfl
/-- [f(x, y) for x, y in zip(xs, ys)] -/
theorem el_zip {K : PySem.W.Frag} {ta : TA} {te : TE} {vs : List Nat} {j1 j2 : Nat} {σ : L2.St} {H : Hp} {a b : Addr} {xs ys : List Int} (f : Int → Int → Int) (h : EvA ta σ H [.ref a, .ref b]) (hx : SqL K H a (xs.map V.int)) (hy : SqL K H b (ys.map V.int)) (hl : xs.length = ys.length) (hz : xs.length ≤ 1000)
    (hw : ∀ u v, wipe (((wipe σ vs).set j1 (some u)).set j2 (some v)) vs = wipe σ vs)
    (he : ∀ x y H1, x ∈ xs → y ∈ ys → Ex H H1 → Ev te (((wipe σ vs).set j1 (some (.int x))).set j2 (some (.int y))) H1 (.int (f x y))) : EvL (tLc (iZip K ta) (g2 K j1 j2) tYes te vs) σ H ((List.zipWith f xs ys).map V.int) := fun H0 e Q q => h H0 e _ fun H1 e1 => by
  have hx1 := ex_l (e.trans e1) hx
  have hy1 := ex_l (e.trans e1) hy
  refine ⟨a, b, _, _, rfl, hx1, hy1, fun D hD => ?_⟩
  refine lc_zip (xs := xs.map V.int) (ys := ys.map V.int) (by rw [List.length_map, List.length_map]; exact hl) (fun i H' => Ex H1 H' ∧ H' D = some (.lst (((List.zipWith f xs ys).take i).map V.int))) ⟨Ex.new hD, upd_same⟩ (fun i H' p => ⟨ex_l p.1 hx1, ex_l p.1 hy1⟩) (fun i x y T H' gx gy p nT => ?_) (fun H' p => ?_)
  · obtain ⟨p1, p2⟩ := p
    rw [List.getElem?_map] at gx gy
    obtain ⟨x', hx', rfl⟩ := Option.map_eq_some_iff.mp gx
    obtain ⟨y', hy', rfl⟩ := Option.map_eq_some_iff.mp gy
    refine ⟨T, _, rfl, SqT.of upd_same, rfl, _, _, rfl, _, _, rfl, rfl, hw _ _, ?_⟩
    show te _ _ _
    have xT : Ex H' (upd H' T (.tup [.int x', .int y'])) := Ex.new nT
    refine he x' y' H (List.mem_of_getElem? hx') (List.mem_of_getElem? hy') (Ex.refl H) _ ((e.trans e1).trans (p1.trans xT)) _ fun H4 e4 => ?_
    refine ⟨_, e4 _ _ (xT _ _ p2), ?_, Ex.mut ((p1.trans xT).trans e4) hD, ?_⟩
    · rw [List.length_map, List.length_take]
      have := (List.getElem?_eq_some_iff.mp hx').1
      exact small1000 (by omega)
    · have hzz : (List.zipWith f xs ys)[i]? = some (f x' y') := by
        rw [List.getElem?_zipWith, hx', hy']
      rw [upd_same, take_snoc hzz, List.map_append]
      rfl
  · obtain ⟨p1, p2⟩ := p
    rw [List.take_of_length_le (by rw [List.length_zipWith, List.length_map]; omega)] at p2
    exact q D H' (fresh_back e1 hD) (e1.trans p1) p2
/-- [g(x, y) for x, y in qs], qs a list of pairs -/
theorem el_pairs {K : PySem.W.Frag} {n : Nat} {te : TE} {vs : List Nat} {j1 j2 : Nat} {σ : L2.St} {H : Hp} {a : Addr} {bs : List Addr} {qs : List (Int × Int)} (f : Int × Int → Int) (hσ : σ[n]? = some (some (.ref a))) (hx : H a = some (.lst (bs.map V.ref))) (hE : EdgesAt H bs qs) (hz : qs.length ≤ 1000)
    (hw : ∀ u v, wipe (((wipe σ vs).set j1 (some u)).set j2 (some v)) vs = wipe σ vs)
    (he : ∀ e H1, e ∈ qs → Ex H H1 → Ev te (((wipe σ vs).set j1 (some (.int e.1))).set j2 (some (.int e.2))) H1 (.int (f e))) : EvL (tLc (iList K (tVar n)) (g2 K j1 j2) tYes te vs) σ H ((qs.map f).map V.int) := fun H1 e1 Q q => by
  have hx1 := e1 _ _ hx
  have el : bs.length = qs.length := Paired.length hE
  refine ⟨_, hσ, a, rfl, ⟨_, SqL.of hx1⟩, fun D hD => ?_⟩
  refine lc_list (K := K) (a := a) (xs := bs.map V.ref) (fun i H' => Ex H1 H' ∧ H' D = some (.lst (((qs.map f).take i).map V.int))) ⟨Ex.new hD, upd_same⟩ (fun i H' _ p => SqL.of (p.1 _ _ hx1)) (fun i x H' gx p => ?_) (fun H' p => ?_)
  · obtain ⟨p1, p2⟩ := p
    rw [List.getElem?_map] at gx
    obtain ⟨b, hb, rfl⟩ := Option.map_eq_some_iff.mp gx
    obtain ⟨ed, hed, hr⟩ := paired_get hE hb
    refine ⟨b, _, rfl, SqT.of ((e1.trans p1) _ _ hr), rfl, _, _, rfl, _, _, rfl, rfl, hw _ _, ?_⟩
    show te _ _ _
    refine he ed H (List.mem_of_getElem? hed) (Ex.refl H) _ (e1.trans p1) _ fun H4 e4 => ?_
    refine ⟨_, e4 _ _ p2, ?_, Ex.mut (p1.trans e4) hD, ?_⟩
    · rw [List.length_map, List.length_take, List.length_map]
      exact small1000 (by omega)
    · have hzz : (qs.map f)[i]? = some (f ed) := by rw [List.getElem?_map, hed]; rfl
      rw [upd_same, take_snoc hzz, List.map_append]
      rfl
  · obtain ⟨p1, p2⟩ := p
    rw [List.take_of_length_le (by rw [List.length_map, List.length_map]; omega)] at p2
    exact q D H' hD p1 p2
/-- [[..] for i in range(m)]: new rows -/
theorem lc_rows {ta : TA} {te : TE} {vs : List Nat} {j : Nat} {σ : L2.St} {H : Hp} {Q : VK} {m : Nat} (F : Nat → List Int) (h : EvA ta σ H [.int (m : Int)]) (hm : m ≤ 1000) (hw : ∀ u, wipe ((wipe σ vs).set j (some u)) vs = wipe σ vs)
    (he : ∀ i H1, Ex H H1 → i < m → EvL te ((wipe σ vs).set j (some (.int (i : Int)))) H1 ((F i).map V.int))
    (k : ∀ p as H2, H p = none → (∀ a ∈ as, H a = none) → as.Nodup → p ∉ as → Ex H H2 → Tab H2 p as ((List.range m).map F) → Q (.ref p) H2) : tLc (iRng1 ta) (gName j) tYes te vs σ H Q := by
  refine h H (Ex.refl H) _ fun H1 e1 => ⟨(m : Int), rfl, by omega, by omega, fun D hD => ?_⟩
  have hDH : H D = none := fresh_back e1 hD
  refine lc_range (lo := 0) (n := (m : Int).toNat) (fun i H' => ∃ as, Ex H1 H' ∧ H' D = some (.lst (as.map V.ref)) ∧ RowsAt H' as ((List.range i).map F) ∧ (∀ a ∈ as, H a = none) ∧ as.Nodup ∧ D ∉ as) ⟨[], Ex.new hD, upd_same, .nil, fun a ha => by simp at ha, List.nodup_nil, by simp⟩ (fun i H' hi p => ?_) (fun H' p => ?_)
  · obtain ⟨as, p1, p2, p3, p4, p5, p6⟩ := p
    have el : as.length = i := by rw [Paired.length p3, List.length_map, List.length_range]
    have e0 : (0 : Int) + (i : Int) = (i : Int) := Int.zero_add _
    refine ⟨hw _, ?_⟩
    show te ((wipe σ vs).set j (some (.int ((0 : Int) + (i : Int))))) H' _
    rw [e0]
    refine he i H' (e1.trans p1) (by omega) H' (Ex.refl _) _ fun r H4 nr e4 hr => ?_
    have nrD : r ≠ D := fun z => by
      rw [z, p2] at nr
      cases nr
    refine ⟨_, e4 _ _ p2, ?_, as ++ [r], Ex.mut (p1.trans e4) hD, ?_, ?_, ?_, ?_, ?_⟩
    · rw [List.length_map, el]
      exact small1000 (by omega)
    · rw [upd_same, List.map_append]
      rfl
    · rw [List.range_succ, List.map_append]
      have st : ∀ a (l : List Int), a ≠ D → H4 a = some (.lst (l.map V.int)) → upd H4 D (.lst (as.map V.ref ++ [.ref r])) a = some (.lst (l.map V.int)) := fun a l n g => by
        rw [upd_ne n]
        exact g
      refine paired_snoc ?_ (st r _ nrD hr)
      have aux : ∀ {as' : List Addr} {rs : List (List Int)}, D ∉ as' → RowsAt H' as' rs → RowsAt (upd H4 D (.lst (as.map V.ref ++ [.ref r]))) as' rs := by
        intro as' rs hn hp
        induction hp with
        | nil => exact .nil
        | cons g t ih => exact .cons (st _ _ (fun z => hn (by rw [z]; exact List.mem_cons_self ..)) (e4 _ _ g)) (ih fun z => hn (List.mem_cons_of_mem _ z))
      exact aux p6 p3
    · intro a ha
      rcases List.mem_append.mp ha with h | h
      · exact p4 a h
      · have : a = r := by simpa using h
        rw [this]
        exact fresh_back (e1.trans p1) nr
    · refine List.nodup_append.mpr ⟨p5, by simp, fun a ha b hb => ?_⟩
      have : b = r := by simpa using hb
      rw [this]
      intro z
      rw [z] at ha
      obtain ⟨x, _, hx⟩ := paired_mem p3 ha
      rw [nr] at hx
      cases hx
    · intro ha
      rcases List.mem_append.mp ha with h | h
      · exact p6 h
      · exact nrD (by simpa using h : D = r).symm
  · obtain ⟨as, p1, p2, p3, p4, p5, p6⟩ := p
    have em : (m : Int).toNat = m := by omega
    rw [em] at p3
    exact k D as H' hDH p4 p5 p6 (e1.trans p1) ⟨p2, p3⟩
/-! ### a dict of rows by places -/
theorem nodup_sub {α : Type} [DecidableEq α] : ∀ {l1 l2 : List α}, l1.Nodup → (∀ x ∈ l1, x ∈ l2) → l1.length ≤ l2.length
  | [], _, _, _ => Nat.zero_le _
  | a :: t, l2, hn, hs => by
    have h1 := List.nodup_cons.mp hn
    have ha := hs a (List.mem_cons_self ..)
    have ih := nodup_sub (l1 := t) (l2 := l2.erase a) h1.2 fun x hx => (List.mem_erase_of_ne (fun z => h1.1 (by rw [← z]; exact hx))).mpr (hs x (List.mem_cons_of_mem _ hx))
    rw [List.length_erase_of_mem ha] at ih
    have := List.length_pos_of_mem ha
    simp only [List.length_cons]
    omega
theorem rep_flat : ∀ m : Nat, (List.replicate m [V.int 0]).flatten = (List.replicate m 0).map V.int
  | 0 => rfl
  | m + 1 => by
    rw [List.replicate_succ, List.flatten_cons, rep_flat m]
    rfl
theorem nodup_nums (m : Nat) : (numsTo m).Nodup := by
  unfold numsTo
  exact List.Pairwise.map _ (fun a b h z => h (by omega)) List.nodup_range
theorem val_mem : ∀ {kvs : List (Key × V)} {L : List Int} {x : Int}, kvs.map (·.1) = L.map Sum.inl → ((valV kvs (Sum.inl x : Key)).isSome = true ↔ x ∈ L)
  | [], L, x, h => by
    cases L with
    | nil => simp [valV]
    | cons a l => simp at h
  | kv :: r, L, x, h => by
    cases L with
    | nil => simp at h
    | cons a l =>
      have h1 : kv.1 = Sum.inl a ∧ r.map (·.1) = l.map Sum.inl := by
        have := List.cons.inj h
        exact ⟨this.1, this.2⟩
      have ih := val_mem (kvs := r) (L := l) (x := x) h1.2
      by_cases e : x = a
      · subst e
        rw [valV_pos h1.1]
        simp
      · have ne : ¬ kv.1 = Sum.inl x := by
          rw [h1.1]
          intro z
          exact e (Sum.inl.inj z).symm
        have e2 : valV (kv :: r) (Sum.inl x : Key) = valV r (Sum.inl x : Key) := by
          simp [valV, List.find?_cons, ne]
        rw [e2, ih, List.mem_cons]
        exact ⟨Or.inr, fun z => z.resolve_left e⟩
/-- the dict at d: rows of m whole numbers by the places L -/
structure FarOk (H : Hp) (d : Addr) (m : Nat) (kvs : List (Key × V)) (L : List Int) : Prop where
  at_ : H d = some (.dK kvs)
  keys : kvs.map (·.1) = L.map Sum.inl
  nd : L.Nodup
  inn : ∀ x ∈ L, 0 ≤ x ∧ x ≤ m
  row : ∀ x v, valV kvs (Sum.inl x : Key) = some v → ∃ (a : Addr) (ns : List Int), v = .ref a ∧ H a = some (.lst (ns.map V.int)) ∧ ns.length = m ∧ ∀ y ∈ ns, y.natAbs ≤ L.length
theorem FarOk.len {H : Hp} {d : Addr} {m : Nat} {kvs : List (Key × V)} {L : List Int} (h : FarOk H d m kvs L) : kvs.length = L.length := by
  rw [← List.length_map (f := (·.1)), h.keys, List.length_map]
theorem FarOk.le {H : Hp} {d : Addr} {m : Nat} {kvs : List (Key × V)} {L : List Int} (h : FarOk H d m kvs L) : L.length ≤ m + 1 := by
  have := nodup_sub (l2 := numsTo (m + 1)) h.nd fun x hx => mem_numsTo.mpr (by have := h.inn x hx; omega)
  rw [numsTo_length] at this
  exact this
theorem FarOk.all {H : Hp} {d : Addr} {m : Nat} {kvs : List (Key × V)} {L : List Int} (h : FarOk H d m kvs L) (hl : m < L.length) : ∀ x : Int, 0 ≤ x → x ≤ m → x ∈ L := by
  intro x h0 h1
  by_cases hx : x ∈ L
  · exact hx
  · have h2 := nodup_sub (l1 := x :: L) (l2 := numsTo (m + 1)) (List.nodup_cons.mpr ⟨hx, h.nd⟩) fun y hy => mem_numsTo.mpr (by
      rcases List.mem_cons.mp hy with rfl | hy
      · omega
      · have := h.inn y hy
        omega)
    rw [numsTo_length, List.length_cons] at h2
    omega
theorem FarOk.ex {H H' : Hp} {d : Addr} {m : Nat} {kvs : List (Key × V)} {L : List Int} (h : FarOk H d m kvs L) (e : Ex H H') : FarOk H' d m kvs L :=
  ⟨e _ _ h.at_, h.keys, h.nd, h.inn, fun x v hv => by
    obtain ⟨a, ns, h1, h2, h3, h4⟩ := h.row x v hv
    exact ⟨a, ns, h1, e _ _ h2, h3, h4⟩⟩
theorem FarOk.get {H : Hp} {d : Addr} {m : Nat} {kvs : List (Key × V)} {L : List Int} (h : FarOk H d m kvs L) {x : Int} (hx : x ∈ L) : ∃ (a : Addr) (ns : List Int), valV kvs (Sum.inl x : Key) = some (.ref a) ∧ H a = some (.lst (ns.map V.int)) ∧ ns.length = m ∧ ∀ y ∈ ns, y.natAbs ≤ L.length := by
  have hs := (val_mem h.keys).mpr hx
  obtain ⟨v, hv⟩ := Option.isSome_iff_exists.mp hs
  obtain ⟨a, ns, h1, h2, h3, h4⟩ := h.row x v hv
  subst h1
  exact ⟨a, ns, hv, h2, h3, h4⟩
theorem FarOk.no {H : Hp} {d : Addr} {m : Nat} {kvs : List (Key × V)} {L : List Int} (h : FarOk H d m kvs L) {x : Int} (hx : x ∉ L) : valV kvs (Sum.inl x : Key) = none := by
  cases q : valV kvs (Sum.inl x : Key) with
  | none => rfl
  | some v => exact absurd ((val_mem h.keys).mp (by rw [q]; rfl)) hx
theorem FarOk.some_ {H : Hp} {d : Addr} {m : Nat} {kvs : List (Key × V)} {L : List Int} (h : FarOk H d m kvs L) (x : Int) : (valV kvs (Sum.inl x : Key)).isSome = decide (x ∈ L) := by
  rw [Bool.eq_iff_iff, val_mem h.keys, decide_eq_true_iff]
theorem FarOk.put {H : Hp} {d : Addr} {m : Nat} {kvs : List (Key × V)} {L : List Int} {x : Int} {a : Addr} {ns : List Int} (h : FarOk H d m kvs L) (hx : x ∉ L) (h0 : 0 ≤ x ∧ x ≤ m) (ha : H a = some (.lst (ns.map V.int))) (hl : ns.length = m) (hb : ∀ y ∈ ns, y.natAbs ≤ L.length + 1) :
    FarOk (upd H d (.dK (putK kvs (Sum.inl x) (.ref a)))) d m (putK kvs (Sum.inl x) (.ref a)) (L ++ [x]) := by
  have hn := h.no hx
  have ne : ∀ b (l : List V), H b = some (.lst l) → b ≠ d := fun b l g => ne_of g h.at_ (by intro z; cases z)
  refine ⟨upd_same, ?_, ?_, ?_, ?_⟩
  · rw [putK_new _ hn, List.map_append, List.map_append, h.keys]
    rfl
  · refine List.nodup_append.mpr ⟨h.nd, by simp, fun y hy z hz => ?_⟩
    have : z = x := by simpa using hz
    rw [this]
    intro e
    exact hx (e ▸ hy)
  · intro y hy
    rcases List.mem_append.mp hy with q | q
    · exact h.inn y q
    · have : y = x := by simpa using q
      rw [this]
      exact h0
  · intro y v hv
    rw [valV_put] at hv
    rw [List.length_append]
    by_cases e : (Sum.inl y : Key) = Sum.inl x
    · rw [if_pos e] at hv
      have ev := Option.some.inj hv
      subst ev
      refine ⟨a, ns, rfl, ?_, hl, hb⟩
      rw [upd_ne (ne a _ ha)]
      exact ha
    · rw [if_neg e] at hv
      obtain ⟨b, l, h1, h2, h3, h4⟩ := h.row y v hv
      refine ⟨b, l, h1, ?_, h3, fun z hz => Nat.le_succ_of_le (h4 z hz)⟩
      rw [upd_ne (ne b _ h2)]
      exact h2
theorem ev_dget {σ : L2.St} {H : Hp} {i j : Nat} {d : Addr} {x : Int} {kvs : List (Key × V)} {v : V} (h1 : σ[i]? = some (some (.ref d))) (h2 : σ[j]? = some (some (.int x))) (hd : H d = some (.dK kvs)) (hv : valV kvs (Sum.inl x : Key) = some v) : Ev (tDGet (tVar i) (tVar j)) σ H v := fun H1 e Q q =>
  ⟨_, h1, _, h2, d, v, rfl, by rw [← hv]; exact DGet.k (k := Sum.inl x) (e _ _ hd), q H1 (Ex.refl _)⟩
/-- the kk-th number of the row that stands by x -/
def rowOf : Option HO → List Int
  | some (.lst xs) => xs.map fun v => match v with | .int i => i | _ => 0
  | _ => []
theorem rowOf_ints (ns : List Int) : rowOf (some (.lst (ns.map V.int))) = ns := by
  show (ns.map V.int).map (fun v => match v with | V.int i => i | _ => 0) = ns
  rw [List.map_map]
  exact List.map_id' ns
def valN (H : Hp) (kvs : List (Key × V)) (x : Int) (kk : Nat) : Int :=
  match valV kvs (Sum.inl x : Key) with
  | some (.ref a) => (rowOf (H a))[kk]?.getD 0
  | _ => 0
theorem valN_eq {H : Hp} {kvs : List (Key × V)} {x : Int} {kk : Nat} {a : Addr} {ns : List Int} (h : valV kvs (Sum.inl x : Key) = some (.ref a)) (g : H a = some (.lst (ns.map V.int))) : valN H kvs x kk = ns[kk]?.getD 0 := by
  unfold valN
  rw [h]
  show (rowOf (H a))[kk]?.getD 0 = _
  rw [g, rowOf_ints]
theorem atI_row {ns : List Int} {kk : Nat} (h : kk < ns.length) : atI (ns.map V.int) (kk : Int) = some (.int (ns[kk]?.getD 0)) := by
  refine atI_nat ?_
  rw [List.getElem?_map, List.getElem?_eq_getElem h]
  rfl
/-- a new table (new since H): m rows of w numbers, none greater than B -/
structure NewTab (H H' : Hp) (p : Addr) (as : List Addr) (rows : List (List Int)) (w B : Nat) : Prop where
  p0 : H p = none
  a0 : ∀ a ∈ as, H a = none
  nd : as.Nodup
  np : p ∉ as
  tab : Tab H' p as rows
  ok : ∀ r ∈ rows, r.length = w ∧ ∀ y ∈ r, y.natAbs ≤ B
theorem NewTab.ex {H H' H2 : Hp} {p : Addr} {as : List Addr} {rows : List (List Int)} {w B : Nat} (h : NewTab H H' p as rows w B) (e : Ex H' H2) : NewTab H H2 p as rows w B := ⟨h.p0, h.a0, h.nd, h.np, h.tab.ex e, h.ok⟩
theorem rows_but {H H' : Hp} : ∀ {as : List Addr} {rows : List (List Int)}, RowsAt H as rows → (∀ a ∈ as, ∀ o, H a = some o → H' a = some o) → RowsAt H' as rows
  | _, _, .nil, _ => .nil
  | _, _, .cons g t, h => .cons (h _ (List.mem_cons_self ..) _ g) (rows_but t fun a ha => h a (List.mem_cons_of_mem _ ha))
theorem NewTab.exB {H H' H2 : Hp} {s p : Addr} {as : List Addr} {rows : List (List Int)} {w B : Nat} (h : NewTab H H' p as rows w B) (e : ExB s H' H2) (hs : ∃ o, H s = some o) : NewTab H H2 p as rows w B := by
  obtain ⟨o, ho⟩ := hs
  have n1 : p ≠ s := fun z => by
    have := h.p0
    rw [z, ho] at this
    cases this
  have n2 : ∀ a ∈ as, a ≠ s := fun a ha z => by
    have := h.a0 a ha
    rw [z, ho] at this
    cases this
  exact ⟨h.p0, h.a0, h.nd, h.np, ⟨e _ _ n1 h.tab.1, rows_but h.tab.2 fun a ha o' g => e a o' (n2 a ha) g⟩, h.ok⟩
theorem NewTab.back {H0 H H' : Hp} {s p : Addr} {as : List Addr} {rows : List (List Int)} {w B : Nat} (h : NewTab H H' p as rows w B) (e : ExB s H0 H) (hs : ∃ o, H s = some o) : NewTab H0 H' p as rows w B :=
  ⟨fresh_B e h.p0 hs, fun a ha => fresh_B e (h.a0 a ha) hs, h.nd, h.np, h.tab, h.ok⟩
theorem NewTab.mono {H H' : Hp} {p : Addr} {as : List Addr} {rows : List (List Int)} {w B B' : Nat} (h : NewTab H H' p as rows w B) (hb : B ≤ B') : NewTab H H' p as rows w B' :=
  ⟨h.p0, h.a0, h.nd, h.np, h.tab, fun r hr => ⟨(h.ok r hr).1, fun y hy => Nat.le_trans ((h.ok r hr).2 y hy) hb⟩⟩
/-- found.append(a new row) -/
theorem NewTab.app {H H' H2 : Hp} {p r : Addr} {as : List Addr} {rows : List (List Int)} {row : List Int} {w B : Nat} (h : NewTab H H' p as rows w B) (e0 : ∀ a, H' a = none → H a = none) (e : Ex H' H2) (nr : H' r = none) (hr : H2 r = some (.lst (row.map V.int))) (hl : row.length = w) (hb : ∀ y ∈ row, y.natAbs ≤ B) :
    NewTab H (upd H2 p (.lst (as.map V.ref ++ [.ref r]))) p (as ++ [r]) (rows ++ [row]) w B := by
  have nrp : r ≠ p := fun z => by
    rw [z, h.tab.1] at nr
    cases nr
  have nra : r ∉ as := fun ha => by
    obtain ⟨x, _, hx⟩ := paired_mem h.tab.2 ha
    rw [nr] at hx
    cases hx
  refine ⟨h.p0, fun a ha => ?_, ?_, ?_, ⟨?_, ?_⟩, fun x hx => ?_⟩
  · rcases List.mem_append.mp ha with q | q
    · exact h.a0 a q
    · have : a = r := by simpa using q
      rw [this]
      exact e0 r nr
  · refine List.nodup_append.mpr ⟨h.nd, by simp, fun a ha b hb z => ?_⟩
    have : b = r := by simpa using hb
    exact nra (by rw [← this, ← z]; exact ha)
  · intro ha
    rcases List.mem_append.mp ha with q | q
    · exact h.np q
    · exact nrp (by simpa using q : p = r).symm
  · rw [upd_same, List.map_append]
    rfl
  · refine paired_snoc (rows_but h.tab.2 fun a ha o g => ?_) ?_
    · rw [upd_ne (fun z => h.np (by rw [← z]; exact ha))]
      exact e a o g
    · rw [upd_ne nrp]
      exact hr
  · rcases List.mem_append.mp hx with q | q
    · exact h.ok x q
    · have : x = row := by simpa using q
      rw [this]
      exact ⟨hl, hb⟩
theorem NewTab.new {H : Hp} {H1 : Hp} {p : Addr} {w B : Nat} (h : H p = none) (h1 : H1 p = some (.lst [])) : NewTab H H1 p [] [] w B := ⟨h, fun a ha => by simp at ha, List.nodup_nil, by simp, ⟨h1, .nil⟩, fun r hr => by simp at hr⟩
theorem noneB {s : Addr} {H H' : Hp} (e : ExB s H H') (hs : ∃ o, H' s = some o) : ∀ a, H' a = none → H a = none := fun a h => fresh_B e h hs
theorem ev_chain {r r' : R2} {ta tb tc : TE} {σ : L2.St} {H : Hp} {x y z : V} {b c : Bool} (ha : Ev ta σ H x) (hb : Ev tb σ H y) (hc : Ev tc σ H z) (h1 : RV r x y H (.bl b)) (h2 : RV r' y z H (.bl c)) : Ev (tChain r r' ta tb tc) σ H (.bl (b && c)) := fun H1 e Q q =>
  ha H1 e _ fun H2 e2 => hb H2 (e.trans e2) _ fun H3 e3 => h1 H3 ((e.trans e2).trans e3) _ fun H4 e4 => ⟨b, rfl, by
    cases b with
    | true =>
      show tc σ H4 _
      exact hc H4 (((e.trans e2).trans e3).trans e4) _ fun H5 e5 => h2 H5 ((((e.trans e2).trans e3).trans e4).trans e5) Q fun H6 e6 => q H6 ((((e2.trans e3).trans e4).trans e5).trans e6)
    | false =>
      show Q (.bl false) H4
      exact q H4 ((e2.trans e3).trans e4)⟩
theorem ev_int1 {ta : TE} {σ : L2.St} {H : Hp} {b : Bool} (h : Ev ta σ H (.bl b)) : Ev (tCB (fun xs H Q => (∃ i, xs = [V.int i] ∧ Q (V.int i) H) ∨ ∃ k, xs = [V.bl k] ∧ Q (V.int (if k = true then 1 else 0)) H) (tCons ta tNil)) σ H (.int (if b = true then 1 else 0)) := fun H1 e Q q =>
  h H1 e _ fun H2 e2 => .inr ⟨b, rfl, q H2 e2⟩
/-- [e for i in range(m)], e whole numbers -/
theorem el_rng {ta : TA} {te : TE} {vs : List Nat} {j m : Nat} {σ : L2.St} {H : Hp} (f : Nat → Int) (h : EvA ta σ H [.int (m : Int)]) (hm : m ≤ 1000) (hw : ∀ x, wipe ((wipe σ vs).set j (some x)) vs = wipe σ vs)
    (he : ∀ (i : Nat) H1, Ex H H1 → i < m → Ev te ((wipe σ vs).set j (some (.int (i : Int)))) H1 (.int (f i))) : EvL (tLc (iRng1 ta) (gName j) tYes te vs) σ H (((List.range m).map f).map V.int) := by
  have g := el_lcR1 (t := tYes) (te := te) (j := j) (vs := vs) (σ := σ) (H := H) (n := (m : Int)) (ta := ta) (fun _ => true) (fun o => .int (f o)) h (by omega) hw (fun o H1 e ho Hx ex Qx qx => qx Hx (Ex.refl _)) (fun o H1 e ho hf => he o H1 e (by omega))
  have eg : given (m : Int).toNat (fun _ => true) (fun o => V.int (f o)) = ((List.range m).map f).map V.int := by
    unfold given
    rw [Int.toNat_natCast, List.filter_eq_self.mpr (fun _ _ => rfl), List.map_map]
    rfl
  rw [eg] at g
  exact g
/-- [f(row) for row in rows] -/
theorem el_col {K : PySem.W.Frag} {n : Nat} {te : TE} {vs : List Nat} {j : Nat} {σ : L2.St} {H : Hp} {a : Addr} {bs : List Addr} {qs : List (List Int)} (f : List Int → Int) (hσ : σ[n]? = some (some (.ref a))) (hx : H a = some (.lst (bs.map V.ref))) (hE : RowsAt H bs qs) (hz : qs.length ≤ 1000)
    (hw : ∀ u, wipe ((wipe σ vs).set j (some u)) vs = wipe σ vs)
    (he : ∀ b r H1, r ∈ qs → H b = some (.lst (r.map V.int)) → Ex H H1 → Ev te ((wipe σ vs).set j (some (.ref b))) H1 (.int (f r))) : EvL (tLc (iList K (tVar n)) (gName j) tYes te vs) σ H ((qs.map f).map V.int) := fun H1 e1 Q q => by
  have hx1 := e1 _ _ hx
  have el : bs.length = qs.length := Paired.length hE
  refine ⟨_, hσ, a, rfl, ⟨_, SqL.of hx1⟩, fun D hD => ?_⟩
  refine lc_list (K := K) (a := a) (xs := bs.map V.ref) (fun i H' => Ex H1 H' ∧ H' D = some (.lst (((qs.map f).take i).map V.int))) ⟨Ex.new hD, upd_same⟩ (fun i H' _ p => SqL.of (p.1 _ _ hx1)) (fun i x H' gx p => ?_) (fun H' p => ?_)
  · obtain ⟨p1, p2⟩ := p
    rw [List.getElem?_map] at gx
    obtain ⟨b, hb, rfl⟩ := Option.map_eq_some_iff.mp gx
    obtain ⟨ed, hed, hr⟩ := paired_get hE hb
    refine ⟨hw _, ?_⟩
    show te _ _ _
    refine he b ed H (List.mem_of_getElem? hed) hr (Ex.refl H) _ (e1.trans p1) _ fun H4 e4 => ?_
    refine ⟨_, e4 _ _ p2, ?_, Ex.mut (p1.trans e4) hD, ?_⟩
    · rw [List.length_map, List.length_take, List.length_map]
      exact small1000 (by omega)
    · have hzz : (qs.map f)[i]? = some (f ed) := by rw [List.getElem?_map, hed]; rfl
      rw [upd_same, take_snoc hzz, List.map_append]
      rfl
  · obtain ⟨p1, p2⟩ := p
    rw [List.take_of_length_le (by rw [List.length_map, List.length_map]; omega)] at p2
    exact q D H' hD p1 p2
/-- [a number drawn for i in range(m)] -/
theorem lc_draw {ta : TA} {te : TE} {vs : List Nat} {j m : Nat} {σ : L2.St} {H : Hp} {Q : VK} {s : Addr} {n : Int} (P : Int → Prop) (h : EvA ta σ H [.int (m : Int)]) (hm : m ≤ 1000) (hs : SrcAt H s n) (hw : ∀ u, wipe ((wipe σ vs).set j (some u)) vs = wipe σ vs)
    (he : ∀ (i : Nat) H1, ExB s H H1 → i < m → SrcAt H1 s (n + i) → ∀ Q1 : VK, (∀ x H2, P x → ExB s H1 H2 → SrcAt H2 s (n + i + 1) → Q1 (.int x) H2) → te ((wipe σ vs).set j (some (.int (i : Int)))) H1 Q1)
    (k : ∀ (D : Addr) (ns : List Int) (H2 : Hp), H D = none → ExB s H H2 → SrcAt H2 s (n + m) → H2 D = some (.lst (ns.map V.int)) → ns.length = m → (∀ x ∈ ns, P x) → Q (.ref D) H2) : tLc (iRng1 ta) (gName j) tYes te vs σ H Q := by
  refine h H (Ex.refl H) _ fun H1 e1 => ⟨(m : Int), rfl, by omega, by omega, fun D hD => ?_⟩
  have hDH : H D = none := fresh_back e1 hD
  have hDs : D ≠ s := (hs.ex e1).ne hD
  refine lc_range (lo := 0) (n := (m : Int).toNat) (fun i H' => ∃ ns, ExB s H H' ∧ SrcAt H' s (n + i) ∧ H' D = some (.lst (ns.map V.int)) ∧ ns.length = i ∧ ∀ x ∈ ns, P x) ⟨[], ExB.of (e1.trans (Ex.new hD)), (hs.ex (e1.trans (Ex.new hD))).le (by omega), upd_same, rfl, fun x hx => by simp at hx⟩ (fun i H' hi p => ?_) (fun H' p => ?_)
  · obtain ⟨ns, p1, p2, p3, p4, p5⟩ := p
    have e0 : (0 : Int) + (i : Int) = (i : Int) := Int.zero_add _
    refine ⟨hw _, ?_⟩
    show te ((wipe σ vs).set j (some (.int ((0 : Int) + (i : Int))))) H' _
    rw [e0]
    refine he i H' p1 (by omega) p2 _ fun x H2 hx e2 s2 => ?_
    refine ⟨_, e2 _ _ hDs p3, small1000 (by rw [List.length_map]; omega), ns ++ [x], ?_, ?_, ?_, ?_, ?_⟩
    · refine fun b o nb hb => ?_
      rw [upd_ne (ne_of_none hb hDH)]
      exact e2 _ _ nb (p1 _ _ nb hb)
    · obtain ⟨a1, a2, a3, a4, a5, a6, a7, a8⟩ := s2
      exact ⟨a1, a2, a3, by rw [upd_ne hDs.symm]; exact a4, a5, a6, a7, by omega⟩
    · rw [upd_same, List.map_append]
      rfl
    · rw [List.length_append, p4]
      rfl
    · intro y hy
      rcases List.mem_append.mp hy with q | q
      · exact p5 y q
      · have : y = x := by simpa using q
        rw [this]
        exact hx
  · obtain ⟨ns, p1, p2, p3, p4, p5⟩ := p
    have em : (m : Int).toNat = m := by omega
    rw [em] at p4 p2
    exact k D ns H' hDH p1 p2 p3 p4 p5
/-- the same over a list of whole numbers -/
theorem lc_drawL {K : PySem.W.Frag} {tl te : TE} {vs : List Nat} {j : Nat} {σ : L2.St} {H : Hp} {Q : VK} {s a : Addr} {n : Int} {xs : List Int} (P : Int → Prop) (h : Ev tl σ H (.ref a)) (hx : H a = some (.lst (xs.map V.int))) (has : a ≠ s) (hm : xs.length ≤ 1000) (hs : SrcAt H s n) (hw : ∀ u, wipe ((wipe σ vs).set j (some u)) vs = wipe σ vs)
    (he : ∀ (i : Nat) (y : Int) H1, ExB s H H1 → i < xs.length → SrcAt H1 s (n + i) → ∀ Q1 : VK, (∀ x H2, P x → ExB s H1 H2 → SrcAt H2 s (n + i + 1) → Q1 (.int x) H2) → te ((wipe σ vs).set j (some (.int y))) H1 Q1)
    (k : ∀ (D : Addr) (ns : List Int) (H2 : Hp), H D = none → ExB s H H2 → SrcAt H2 s (n + xs.length) → H2 D = some (.lst (ns.map V.int)) → ns.length = xs.length → (∀ x ∈ ns, P x) → Q (.ref D) H2) : tLc (iList K tl) (gName j) tYes te vs σ H Q := by
  refine h H (Ex.refl H) _ fun H1 e1 => ⟨a, rfl, ⟨_, SqL.of (e1 _ _ hx)⟩, fun D hD => ?_⟩
  have hDH : H D = none := fresh_back e1 hD
  have hDs : D ≠ s := (hs.ex e1).ne hD
  refine lc_list (K := K) (a := a) (xs := xs.map V.int) (fun i H' => ∃ ns, ExB s H H' ∧ SrcAt H' s (n + i) ∧ H' D = some (.lst (ns.map V.int)) ∧ ns.length = i ∧ ∀ x ∈ ns, P x) ⟨[], ExB.of (e1.trans (Ex.new hD)), (hs.ex (e1.trans (Ex.new hD))).le (by omega), upd_same, rfl, fun x hx => by simp at hx⟩ (fun i H' _ ⟨_, p1, _⟩ => SqL.of (p1 _ _ has hx)) (fun i y H' gy p => ?_) (fun H' p => ?_)
  · obtain ⟨ns, p1, p2, p3, p4, p5⟩ := p
    rw [List.getElem?_map] at gy
    obtain ⟨y', hy', rfl⟩ := Option.map_eq_some_iff.mp gy
    have hi := (List.getElem?_eq_some_iff.mp hy').1
    refine ⟨hw _, ?_⟩
    show te _ H' _
    refine he i y' H' p1 hi p2 _ fun x H2 hx' e2 s2 => ?_
    refine ⟨_, e2 _ _ hDs p3, small1000 (by rw [List.length_map]; omega), ns ++ [x], ?_, ?_, ?_, ?_, ?_⟩
    · refine fun b o nb hb => ?_
      rw [upd_ne (ne_of_none hb hDH)]
      exact e2 _ _ nb (p1 _ _ nb hb)
    · obtain ⟨a1, a2, a3, a4, a5, a6, a7, a8⟩ := s2
      exact ⟨a1, a2, a3, by rw [upd_ne hDs.symm]; exact a4, a5, a6, a7, by omega⟩
    · rw [upd_same, List.map_append]
      rfl
    · rw [List.length_append, p4]
      rfl
    · intro z hz
      rcases List.mem_append.mp hz with q | q
      · exact p5 z q
      · have : z = x := by simpa using q
        rw [this]
        exact hx'
  · obtain ⟨ns, p1, p2, p3, p4, p5⟩ := p
    rw [List.length_map] at p4 p2
    exact k D ns H' hDH p1 p2 p3 p4 p5
theorem rows_set {H : Hp} {v : List V} {x : Addr} : ∀ {as : List Addr} {rows : List (List Int)} {k : Nat} {row : List Int}, RowsAt H as rows → as.Nodup → as[k]? = some x → v = row.map V.int → RowsAt (upd H x (.lst v)) as (rows.set k row)
  | _, _, _, _, .nil, _, h, _ => by simp at h
  | a :: as, r :: rows, 0, row, .cons g t, nd, h, hv => by
    have e : a = x := Option.some.inj h
    subst e
    have h1 := List.nodup_cons.mp nd
    refine .cons (by rw [upd_same, hv]) (rows_but t fun b hb o q => ?_)
    rw [upd_ne (fun z => h1.1 (by rw [← z]; exact hb))]
    exact q
  | a :: as, r :: rows, k + 1, row, .cons g t, nd, h, hv => by
    have h1 := List.nodup_cons.mp nd
    have hx : as[k]? = some x := h
    refine .cons ?_ (rows_set t h1.2 hx hv)
    rw [upd_ne (fun z => h1.1 (by rw [z]; exact List.mem_of_getElem? hx))]
    exact g
theorem NewTab.set {H H' : Hp} {p x : Addr} {as : List Addr} {rows : List (List Int)} {w B k j : Nat} {row : List Int} {y : Int} (h : NewTab H H' p as rows w B) (hx : as[k]? = some x) (hr : rows[k]? = some row) (hy : y.natAbs ≤ B) : NewTab H (upd H' x (.lst ((row.map V.int).set j (.int y)))) p as (rows.set k (row.set j y)) w B := by
  have npx : p ≠ x := fun z => h.np (by rw [z]; exact List.mem_of_getElem? hx)
  have o := h.ok row (List.mem_of_getElem? hr)
  refine ⟨h.p0, h.a0, h.nd, h.np, ⟨?_, rows_set h.tab.2 h.nd hx (by rw [List.map_set])⟩, fun r hr' => ?_⟩
  · rw [upd_ne npx]
    exact h.tab.1
  · rcases List.mem_or_eq_of_mem_set hr' with q | q
    · exact h.ok r q
    · rw [q]
      refine ⟨by rw [List.length_set]; exact o.1, fun z hz => ?_⟩
      rcases List.mem_or_eq_of_mem_set hz with q2 | q2
      · exact o.2 z q2
      · rw [q2]
        exact hy
section
variable {prog : Program} {w : World} {A : Around} {E : Value → Shared → Prop} {s : Shared}
theorem slice_rev2 {sl : Addr} {vl vu vs : Value} {Q : Int × Int × Nat → Shared → Prop} (hs : s.heap.IsSliceOf sl vl vu vs) (pl : IsPart vl none) (pu : IsPart vu none) (ps : IsPart vs (some (-1)))
    (h : Q (1, -1, 2) s) : wpAny (model prog w) A (Builtin.Slice.sliceApplied (.ref sl) (pure ((2 : Nat) : Int))) Q E s := by
  obtain ⟨os, hos, hcs, hds⟩ := id hs
  unfold Builtin.Slice.sliceApplied Builtin.Slice.sliceFields
  refine wpAny_bind (wpAny_bind (wpAny_field hos hds (x := vl) rfl (wpAny_bind (wpAny_field hos hds (x := vu) rfl (wpAny_bind (wpAny_field hos hds (x := vs) rfl (wpAny_pure ?_)))))))
  refine wpAny_bind (slicePart_ ps ?_)
  show wpAny _ _ (if ((-1 : Int) == 0) = true then _ else _) _ _ s
  rw [if_neg (by decide)]
  refine wpAny_bind (slicePart_ pl (wpAny_bind (slicePart_ pu (wpAny_bind (wpAny_pure ?_)))))
  exact wpAny_pure h
theorem item_rev2 {t sl : Addr} {x y vl vu vs : Value} {Q : Value → Shared → Prop} (ht : IsTup s.heap t #[x, y]) (hs : s.heap.IsSliceOf sl vl vu vs) (pl : IsPart vl none) (pu : IsPart vu none) (ps : IsPart vs (some (-1)))
    (h : Q (.ref s.heap.objs.size) { s with heap := s.heap.push { cls := .type "tuple", data := .seq #[y, x] } }) : wpAny (model prog w) A (getItem (.ref t) (.ref sl)) Q E s := by
  have htake : sizeOk (.seq (#[y, x] : Array Value)) := by
    show 2 ≤ sizeLine
    decide
  obtain ⟨os, hos, hcs, hds⟩ := id hs
  have hTs : s.TypeIs (.ref sl) "slice" := ⟨os, hos, hcs⟩
  unfold getItem
  try with_reducible refine wpAny_holding ?_
  first | refine wpAny_bind (wpAny_pure ?_) | skip
  refine wpAny_bind (wpAny_sequenceKey ht.typeIs (by decide) ?_)
  refine wpAny_bind (wpAny_callSpecial?_slot (name := Str.ofString "__getitem__") ht.typeIs PyProof.Rows.slot_tuple_getitem
    (wpAny_call_entry PyProof.Rows.slot_tuple_getitem ht.typeIs entry_tuple_getitem ?_ (args_tuple_getitem _ _)))
  show wpAny _ _ (Builtin.Tuple.tupleItemsOf (.ref t) >>= _) _ _ s
  refine wpAny_bind (tupleItemsOf_ ht ?_)
  refine wpAny_bind (wpAny_typeOf hTs ?_)
  rw [if_pos (by decide)]
  refine wpAny_bind (slice_rev2 hs pl pu ps ?_)
  show wpAny _ _ (if (((1 : Int) == 0 && (-1 : Int) == 1 && (2 : Nat) == 2) = true) then _ else _) _ _ s
  rw [if_neg (by decide)]
  first
    | exact wpAny_bind (m := Builtin.Tuple.tupleExact _) (wpAny_newObj_type (wpAny_pure ⟨_, rfl, wpAny_pure h⟩) htake)
    | exact wpAny_bind (m := Builtin.Tuple.tupleExact _) (wpAny_newObj_type (wpAny_bind (wpAny_pure (wpAny_pure ⟨_, rfl, wpAny_pure h⟩))) htake)
    | exact wpAny_bind (wpAny_bind (m := Builtin.Tuple.tupleExact _) (wpAny_newObj_type (wpAny_pure (wpAny_pure ⟨_, rfl, wpAny_pure h⟩)) htake))
    | exact wpAny_bind (wpAny_bind (m := Builtin.Tuple.tupleExact _) (wpAny_newObj_type (wpAny_pure ⟨_, rfl, wpAny_pure h⟩) htake))
end
section
variable {X : Cx}
/-- t[::-1], t a pair -/
def tRevT (K : PySem.W.Frag) (te : TE) : TE := fun σ H Q => te σ H fun v H1 => ∃ a x y, v = .ref a ∧ SqT K H1 a [x, y] ∧ ∀ p, H1 p = none → Q (.ref p) (upd H1 p (.tup [y, x]))
theorem pe_revT {e : Expr} {te : TE} {k : Nat} {p1 p2 p3 pos : Pos} (he : PE X e te) : PE X (.Subscript e (.Slice none none (some (.UnaryOp .USub (.Constant (.int 1) k p1) p2)) p3) pos) (tRevT X.K te) := by
  refine ⟨fun pins s σ H Q I h => ?_⟩
  refine Subscript_ (thn (he.run pins s σ H _ I h) fun v s1 ⟨z, H1, I1, r1, q1⟩ => ?_)
  obtain ⟨a, x, y, ex, hx, q⟩ := q1
  subst ex
  cases r1
  have hst : PO X (some (.UnaryOp .USub (.Constant (.int 1) k p1) p2)) (tPart (tUn (rU fun i => .int (-i)) (tC (.int 1)))) := po_some (pe_un un_neg pe_int)
  refine wpAny_Slice (thn (po_none.run pins s1 σ H1 (fun o H2 => o = none ∧ H2 = H1) I1 ⟨rfl, rfl⟩) fun vl s2 ⟨l, H2, I2, pl, el, e2⟩ => ?_)
  subst el e2
  refine thn (po_none.run pins s2 σ H2 (fun o H3 => o = none ∧ H3 = H2) I2 ⟨rfl, rfl⟩) fun vu s3 ⟨u, H3, I3, pu, eu, e3⟩ => ?_
  subst eu e3
  refine thn (hst.run pins s3 σ H3 (fun o H4 => o = some (-1) ∧ H4 = H3) I3 ⟨1, rfl, -1, rfl, rfl, rfl⟩) fun vs s4 ⟨o, H4, I4, ps, eo, e4⟩ => ?_
  subst eo e4
  have I5 : Inv X pins σ H4 { s4 with heap := s4.heap.push { cls := .type "slice", data := .fields #[vl, vu, vs] } } := I4.kept (t' := s4.toks) fun b ob q => Heap.get?_push_of_some _ q
  obtain ⟨its, r, ht, hz⟩ := I5.tuple hx
  obtain ⟨ua, ub, rfl, ra, rb⟩ := vals2 r
  show wpAny (model X.prog X.w) X.A (subscriptTail e (.Slice none none (some (.UnaryOp .USub (.Constant (.int 1) k p1) p2)) p3) (.ref a) (.ref s4.heap.objs.size)) (EP X pins σ Q) X.xe { s4 with heap := s4.heap.push { cls := .type "slice", data := .fields #[vl, vu, vs] } }
  refine tail_any (ops := [.ref a, .ref s4.heap.objs.size]) ht.typeIs (PyProof.Rows.slot_tuple_getitem.lookup) ?_ (by with_unfolding_all rfl)
  refine item_rev2 ht (Heap.IsSliceOf.new _ vl vu vs) pl pu ps ?_
  refine ⟨.ref _, _, I5.laid (t' := s4.toks) (o := .tup [y, x]) (fun b ob q => Heap.get?_push_of_some _ q) (Nat.le_refl _) ?_, rfl, q _ (I5.hok.fresh (Nat.le_refl _))⟩
  exact ⟨by show 2 ≤ sizeLine; decide, [ub, ua], .cons rb (.cons ra .nil), IsTup.new _ _⟩
end

theorem mem_dims {rows : List (List Int)} {w B : Nat} (h : ∀ r ∈ rows, r.length = w ∧ ∀ y ∈ r, y.natAbs ≤ B) {r : List Int} (hr : r ∈ rows) : r.length = w := (h r hr).1
/-- a table as the program takes it: 1 to 8 rows of 1 to 8 -/
structure TabOk (H : Hp) (p : Addr) (as : List Addr) (rows : List (List Int)) (m w : Nat) : Prop where
  tab : Tab H p as rows
  m_ : rows.length = m
  w_ : ∀ r ∈ rows, r.length = w
  b : 1 ≤ m ∧ m ≤ 8 ∧ 1 ≤ w ∧ w ≤ 8
theorem TabOk.ex {H H' : Hp} {p : Addr} {as : List Addr} {rows : List (List Int)} {m w : Nat} (h : TabOk H p as rows m w) (e : Ex H H') : TabOk H' p as rows m w := ⟨h.tab.ex e, h.m_, h.w_, h.b⟩
theorem TabOk.al {H : Hp} {p : Addr} {as : List Addr} {rows : List (List Int)} {m w : Nat} (h : TabOk H p as rows m w) : as.length = m := by rw [Paired.length h.tab.2, h.m_]
theorem TabOk.row0 {H : Hp} {p : Addr} {as : List Addr} {rows : List (List Int)} {m w : Nat} (h : TabOk H p as rows m w) : ∃ a0 r0, as[0]? = some a0 ∧ rows[0]? = some r0 ∧ H a0 = some (.lst (r0.map V.int)) ∧ r0.length = w ∧ atI (as.map V.ref) 0 = some (.ref a0) := by
  have hb := h.b
  have hl := h.al
  obtain ⟨a0, ha0⟩ : ∃ a0, as[0]? = some a0 := ⟨_, List.getElem?_eq_getElem (by omega)⟩
  obtain ⟨r0, hr0, hh⟩ := paired_get h.tab.2 ha0
  exact ⟨a0, r0, ha0, hr0, hh, h.w_ r0 (List.mem_of_getElem? hr0), atI_nat (j := 0) (by rw [List.getElem?_map, ha0]; rfl)⟩
theorem all_true (n : Nat) : (List.replicate n true).all id = true := by
  induction n with
  | zero => rfl
  | succ n ih => rw [List.replicate_succ, List.all_cons, ih]; rfl
/-- [f(x) for x in xs], each True -/
theorem el_yes {K : PySem.W.Frag} {n j : Nat} {a : Addr} {xs : List V} {te : TE} {vs : List Nat} {σ : L2.St} {H : Hp} (hσ : σ[n]? = some (some (.ref a))) (hx : H a = some (.lst xs)) (hl : xs.length ≤ 1000)
    (hs : ∀ x H', x ∈ xs → Ex H H' → Ev te ((wipe σ vs).set j (some x)) H' (.bl true)) (hw : ∀ x, wipe ((wipe σ vs).set j (some x)) vs = wipe σ vs) : EvL (tLc (iList K (tVar n)) (gName j) tYes te vs) σ H ((List.replicate xs.length true).map V.bl) := by
  intro H0 e0 Q0 q0
  have hx0 := e0 _ _ hx
  refine ⟨_, hσ, a, rfl, ⟨_, SqL.of hx0⟩, fun D hD => ?_⟩
  refine lc_list (K := K) (a := a) (xs := xs) (fun i H' => Ex H0 H' ∧ H' D = some (.lst ((List.replicate i true).map V.bl))) ⟨Ex.new hD, upd_same⟩ (fun i H' _ p => SqL.of (p.1 _ _ hx0)) (fun i x H' gx p => ?_) (fun H' p => ?_)
  · obtain ⟨p1, p2⟩ := p
    have hi := (List.getElem?_eq_some_iff.mp gx).1
    refine ⟨hw _, ?_⟩
    show te _ _ _
    refine hs x H (List.mem_of_getElem? gx) (Ex.refl H) _ (e0.trans p1) _ fun H4 e4 => ?_
    refine ⟨_, e4 _ _ p2, ?_, Ex.mut (p1.trans e4) hD, ?_⟩
    · rw [List.length_map, List.length_replicate]
      exact small1000 (by omega)
    · rw [upd_same, List.replicate_succ', List.map_append]
      rfl
  · obtain ⟨p1, p2⟩ := p
    exact q0 D H' hD p1 p2
theorem ev_all {K : PySem.W.Frag} {ta : TE} {n : Nat} {σ : L2.St} {H : Hp} (h : EvL ta σ H ((List.replicate n true).map V.bl)) : Ev (tCB (rAll K) (tCons ta tNil)) σ H (.bl true) := fun H1 e Q q =>
  h H1 e _ fun p H2 _ e2 hp => ⟨p, _, rfl, SqL.of hp, by rw [all_true]; exact q H2 e2⟩
theorem ev_fn {sp : Sp} {E : XK} {ta : TA} {σ : L2.St} {H : Hp} {vs : List V} {z : V} (h : EvA ta σ H vs) (hs : ∀ H1, Ex H H1 → ∀ Q : VK, (∀ H2, Ex H1 H2 → Q z H2) → sp vs H1 Q E) : Ev (tCall sp [] E ta) σ H z := fun H1 e Q q =>
  h H1 e _ fun H2 e2 => by
    rw [List.append_nil]
    exact hs H2 (e.trans e2) Q fun H3 e3 => q H3 (e2.trans e3)
theorem ev_isi {K : PySem.W.Frag} {ta tb : TE} {σ : L2.St} {H : Hp} {x : V} {n : String} {t : String} {b : Bool} (ha : Ev ta σ H x) (hb : Ev tb σ H (.ty n)) (ht : ∀ H1, Ex H H1 → TyX K H1 x (.type t)) (hk : kitB t n = some b) : Ev (tCB (rIsi K) (tCons ta (tCons tb tNil))) σ H (.bl b) := fun H1 e Q q =>
  ha H1 e _ fun H2 e2 => hb H2 (e.trans e2) _ fun H3 e3 => ⟨x, .ty n, _, _, b, rfl, .ty n, ht H3 ((e.trans e2).trans e3), kit_ty hk, q H3 (e2.trans e3)⟩
theorem rv_le {i j : Int} {H : Hp} : RV (rI0 fun i j => .bl (decide (i ≤ j))) (.int i) (.int j) H (.bl (decide (i ≤ j))) := rv_I0
/-- a rising list of places below n -/
def Rising (n : Int) (ns : List Int) : Prop := (∀ x ∈ ns, 0 ≤ x ∧ x < n) ∧ ns.Pairwise (· < ·)

/-- [[..] for y in ys], ys whole numbers: new rows -/
theorem lc_rowsL {K : PySem.W.Frag} {nn : Nat} {te : TE} {vs : List Nat} {j : Nat} {σ : L2.St} {H : Hp} {Q : VK} {a : Addr} {ys : List Int} (F : Int → List Int) (hσ : σ[nn]? = some (some (.ref a))) (hx : H a = some (.lst (ys.map V.int))) (hm : ys.length ≤ 1000) (hw : ∀ u, wipe ((wipe σ vs).set j (some u)) vs = wipe σ vs)
    (he : ∀ y H1, y ∈ ys → Ex H H1 → EvL te ((wipe σ vs).set j (some (.int y))) H1 ((F y).map V.int))
    (k : ∀ p as H2, H p = none → (∀ a ∈ as, H a = none) → as.Nodup → p ∉ as → Ex H H2 → Tab H2 p as (ys.map F) → Q (.ref p) H2) : tLc (iList K (tVar nn)) (gName j) tYes te vs σ H Q := by
  refine ⟨_, hσ, a, rfl, ⟨_, SqL.of hx⟩, fun D hD => ?_⟩
  refine lc_list (K := K) (a := a) (xs := ys.map V.int) (fun i H' => ∃ as, Ex H H' ∧ H' D = some (.lst (as.map V.ref)) ∧ RowsAt H' as ((ys.take i).map F) ∧ (∀ a ∈ as, H a = none) ∧ as.Nodup ∧ D ∉ as) ⟨[], Ex.new hD, upd_same, .nil, fun a ha => by simp at ha, List.nodup_nil, by simp⟩ (fun i H' _ ⟨_, p1, _⟩ => SqL.of (p1 _ _ hx)) (fun i x H' gx p => ?_) (fun H' p => ?_)
  · obtain ⟨as, p1, p2, p3, p4, p5, p6⟩ := p
    rw [List.getElem?_map] at gx
    obtain ⟨y, hy, rfl⟩ := Option.map_eq_some_iff.mp gx
    have hi := (List.getElem?_eq_some_iff.mp hy).1
    have el : as.length = i := by rw [Paired.length p3, List.length_map, List.length_take]; omega
    refine ⟨hw _, ?_⟩
    show te _ H' _
    refine he y H' (List.mem_of_getElem? hy) p1 H' (Ex.refl _) _ fun r H4 nr e4 hr => ?_
    have nrD : r ≠ D := fun z => by
      rw [z, p2] at nr
      cases nr
    refine ⟨_, e4 _ _ p2, ?_, as ++ [r], Ex.mut (p1.trans e4) hD, ?_, ?_, ?_, ?_, ?_⟩
    · rw [List.length_map, el]
      exact small1000 (by omega)
    · rw [upd_same, List.map_append]
      rfl
    · rw [take_snoc hy, List.map_append]
      refine paired_snoc (rows_but p3 fun b hb o g => ?_) ?_
      · rw [upd_ne (fun z => p6 (by rw [← z]; exact hb))]
        exact e4 _ _ g
      · rw [upd_ne nrD]
        exact hr
    · intro b hb
      rcases List.mem_append.mp hb with h | h
      · exact p4 b h
      · rw [show b = r by simpa using h]
        exact fresh_back p1 nr
    · refine List.nodup_append.mpr ⟨p5, by simp, fun b hb c hc z => ?_⟩
      have : c = r := by simpa using hc
      have hb' : r ∈ as := by rw [← this, ← z]; exact hb
      obtain ⟨x, _, hx'⟩ := paired_mem p3 hb'
      rw [nr] at hx'
      cases hx'
    · intro hb
      rcases List.mem_append.mp hb with h | h
      · exact p6 h
      · exact nrD (by simpa using h : D = r).symm
  · obtain ⟨as, p1, p2, p3, p4, p5, p6⟩ := p
    rw [List.length_map, List.take_length] at p3
    exact k D as H' hD p4 p5 p6 p1 ⟨p2, p3⟩
/-- [f(y) for y in ys], ys whole numbers -/
theorem el_mapI {K : PySem.W.Frag} {n : Nat} {te : TE} {vs : List Nat} {j : Nat} {σ : L2.St} {H : Hp} {a : Addr} {qs : List Int} (f : Int → Int) (hσ : σ[n]? = some (some (.ref a))) (hx : H a = some (.lst (qs.map V.int))) (hz : qs.length ≤ 1000)
    (hw : ∀ u, wipe ((wipe σ vs).set j (some u)) vs = wipe σ vs)
    (he : ∀ y H1, y ∈ qs → Ex H H1 → Ev te ((wipe σ vs).set j (some (.int y))) H1 (.int (f y))) : EvL (tLc (iList K (tVar n)) (gName j) tYes te vs) σ H ((qs.map f).map V.int) := fun H1 e1 Q q => by
  have hx1 := e1 _ _ hx
  refine ⟨_, hσ, a, rfl, ⟨_, SqL.of hx1⟩, fun D hD => ?_⟩
  refine lc_list (K := K) (a := a) (xs := qs.map V.int) (fun i H' => Ex H1 H' ∧ H' D = some (.lst (((qs.map f).take i).map V.int))) ⟨Ex.new hD, upd_same⟩ (fun i H' _ p => SqL.of (p.1 _ _ hx1)) (fun i x H' gx p => ?_) (fun H' p => ?_)
  · obtain ⟨p1, p2⟩ := p
    rw [List.getElem?_map] at gx
    obtain ⟨b, hb, rfl⟩ := Option.map_eq_some_iff.mp gx
    refine ⟨hw _, ?_⟩
    show te _ _ _
    refine he b H (List.mem_of_getElem? hb) (Ex.refl H) _ (e1.trans p1) _ fun H4 e4 => ?_
    refine ⟨_, e4 _ _ p2, ?_, Ex.mut (p1.trans e4) hD, ?_⟩
    · rw [List.length_map, List.length_take, List.length_map]
      exact small1000 (by omega)
    · have hzz : (qs.map f)[i]? = some (f b) := by rw [List.getElem?_map, hb]; rfl
      rw [upd_same, take_snoc hzz, List.map_append]
      rfl
  · obtain ⟨p1, p2⟩ := p
    rw [List.take_of_length_le (by rw [List.length_map, List.length_map]; omega)] at p2
    exact q D H' hD p1 p2
theorem TabOk.row {H : Hp} {p : Addr} {as : List Addr} {rows : List (List Int)} {m w : Nat} (h : TabOk H p as rows m w) {i : Int} (h0 : 0 ≤ i) (h1 : i < m) : ∃ a r, atI (as.map V.ref) i = some (.ref a) ∧ rows[i.toNat]? = some r ∧ H a = some (.lst (r.map V.int)) ∧ r.length = w := by
  have hl := h.al
  obtain ⟨a, ha⟩ : ∃ a, as[i.toNat]? = some a := ⟨_, List.getElem?_eq_getElem (by omega)⟩
  obtain ⟨r, hr, hh⟩ := paired_get h.tab.2 ha
  exact ⟨a, r, at_of (j := i.toNat) (by omega) (by rw [List.getElem?_map, ha]; rfl), hr, hh, h.w_ r (List.mem_of_getElem? hr)⟩
theorem atI_rowI {ns : List Int} {i : Int} (h0 : 0 ≤ i) (h : i < ns.length) : atI (ns.map V.int) i = some (.int (ns[i.toNat]?.getD 0)) := by
  have e : i = ((i.toNat : Nat) : Int) := by omega
  have h2 := atI_row (ns := ns) (kk := i.toNat) (by omega)
  rw [← e] at h2
  exact h2

/-- [[..] for x, row in zip(xs, rows)]: new rows -/
theorem lc_rowsZ {K : PySem.W.Frag} {ta : TA} {te : TE} {vs : List Nat} {j1 j2 : Nat} {σ : L2.St} {H : Hp} {Q : VK} {a b : Addr} {xs : List Int} {as : List Addr} {rows : List (List Int)} (F : Int → List Int → List Int) (h : EvA ta σ H [.ref a, .ref b]) (hx : H a = some (.lst (xs.map V.int))) (ht : Tab H b as rows) (hl : xs.length = rows.length) (hz : xs.length ≤ 1000)
    (hw : ∀ u v, wipe (((wipe σ vs).set j1 (some u)).set j2 (some v)) vs = wipe σ vs)
    (he : ∀ x c r H1, x ∈ xs → r ∈ rows → H c = some (.lst (r.map V.int)) → Ex H H1 → EvL te (((wipe σ vs).set j1 (some (.int x))).set j2 (some (.ref c))) H1 ((F x r).map V.int))
    (k : ∀ p bs H2, H p = none → (∀ a ∈ bs, H a = none) → bs.Nodup → p ∉ bs → Ex H H2 → Tab H2 p bs (List.zipWith F xs rows) → Q (.ref p) H2) : tLc (iZip K ta) (g2 K j1 j2) tYes te vs σ H Q := by
  refine h H (Ex.refl H) _ fun H1 e1 => ⟨a, b, _, _, rfl, SqL.of (e1 _ _ hx), SqL.of (e1 _ _ ht.1), fun D hD => ?_⟩
  have hDH : H D = none := fresh_back e1 hD
  have el0 : as.length = rows.length := Paired.length ht.2
  refine lc_zip (xs := xs.map V.int) (ys := as.map V.ref) (by rw [List.length_map, List.length_map, el0]; exact hl) (fun i H' => ∃ bs, Ex H1 H' ∧ H' D = some (.lst (bs.map V.ref)) ∧ RowsAt H' bs ((List.zipWith F xs rows).take i) ∧ (∀ a ∈ bs, H a = none) ∧ bs.Nodup ∧ D ∉ bs) ⟨[], Ex.new hD, upd_same, .nil, fun a ha => by simp at ha, List.nodup_nil, by simp⟩ (fun i H' ⟨_, p1, _⟩ => ⟨SqL.of ((e1.trans p1) _ _ hx), SqL.of ((e1.trans p1) _ _ ht.1)⟩) (fun i x y T H' gx gy p nT => ?_) (fun H' p => ?_)
  · obtain ⟨bs, p1, p2, p3, p4, p5, p6⟩ := p
    rw [List.getElem?_map] at gx gy
    obtain ⟨x', hx', rfl⟩ := Option.map_eq_some_iff.mp gx
    obtain ⟨c, hc, rfl⟩ := Option.map_eq_some_iff.mp gy
    obtain ⟨r, hr, hh⟩ := paired_get ht.2 hc
    have hi := (List.getElem?_eq_some_iff.mp hx').1
    have el : bs.length = i := by rw [Paired.length p3, List.length_take, List.length_zipWith]; omega
    have xT : Ex H' (upd H' T (.tup [.int x', .ref c])) := Ex.new nT
    refine ⟨T, _, rfl, SqT.of upd_same, rfl, _, _, rfl, _, _, rfl, rfl, hw _ _, ?_⟩
    show te _ _ _
    refine he x' c r H (List.mem_of_getElem? hx') (List.mem_of_getElem? hr) hh (Ex.refl H) _ ((e1.trans p1).trans xT) _ fun q H4 nq e4 hq => ?_
    have nqD : q ≠ D := fun z => by
      rw [z, xT _ _ p2] at nq
      cases nq
    have nqH' : H' q = none := fresh_back xT nq
    refine ⟨_, e4 _ _ (xT _ _ p2), ?_, bs ++ [q], Ex.mut ((p1.trans xT).trans e4) hD, ?_, ?_, ?_, ?_, ?_⟩
    · rw [List.length_map, el]
      exact small1000 (by omega)
    · rw [upd_same, List.map_append]
      rfl
    · have hzz : (List.zipWith F xs rows)[i]? = some (F x' r) := by rw [List.getElem?_zipWith, hx', hr]
      rw [take_snoc hzz]
      refine paired_snoc (rows_but p3 fun b hb o g => ?_) ?_
      · rw [upd_ne (fun z => p6 (by rw [← z]; exact hb))]
        exact e4 _ _ (xT _ _ g)
      · rw [upd_ne nqD]
        exact hq
    · intro b hb
      rcases List.mem_append.mp hb with h | h
      · exact p4 b h
      · rw [show b = q by simpa using h]
        exact fresh_back (e1.trans p1) nqH'
    · refine List.nodup_append.mpr ⟨p5, by simp, fun b hb c' hc' z => ?_⟩
      have : c' = q := by simpa using hc'
      have hb' : q ∈ bs := by rw [← this, ← z]; exact hb
      obtain ⟨y, _, hy⟩ := paired_mem p3 hb'
      rw [nqH'] at hy
      cases hy
    · intro hb
      rcases List.mem_append.mp hb with h | h
      · exact p6 h
      · exact nqD (by simpa using h : D = q).symm
  · obtain ⟨bs, p1, p2, p3, p4, p5, p6⟩ := p
    rw [List.take_of_length_le (by rw [List.length_zipWith, List.length_map]; omega)] at p3
    exact k D bs H' hDH p4 p5 p6 (e1.trans p1) ⟨p2, p3⟩
theorem flat_ints (ns : List Int) : (ns.map V.int).all flatV = true := by
  rw [List.all_eq_true]
  intro x hx
  obtain ⟨i, _, rfl⟩ := List.mem_map.mp hx
  rfl
/-- -1 at the picked places, else 1 -/
def sgnAt (ns : List Int) (kk : Nat) : Int := if inV (.int (kk : Int)) (ns.map V.int) = true then -1 else 1
theorem sgnAt_two (ns : List Int) (kk : Nat) : sgnAt ns kk = 1 ∨ sgnAt ns kk = -1 := by
  unfold sgnAt
  split
  · exact .inr rfl
  · exact .inl rfl
def sgns (ns : List Int) (m : Nat) : List Int := (List.range m).map (sgnAt ns)
theorem sgns_mem {ns : List Int} {m : Nat} {x : Int} (h : x ∈ sgns ns m) : x = 1 ∨ x = -1 := by
  obtain ⟨kk, _, rfl⟩ := List.mem_map.mp h
  exact sgnAt_two ns kk
def signedOf (rows : List (List Int)) (ris cis : List Int) (m w : Nat) : List (List Int) := List.zipWith (fun s r => List.zipWith (fun c y => s * c * y) (sgns cis w) r) (sgns ris m) rows
theorem bd_sgn {x : Int} (h : x = 1 ∨ x = -1) : Bd 2 x := by
  rcases h with rfl | rfl <;> (unfold Bd; decide)
/-! ### fractions -/
def gcdI (t b : Int) : Int := ((Nat.gcd t.natAbs b.natAbs : Nat) : Int)
/-- the divisor that fraction takes -/
def comI (t b : Int) : Int := if b < 0 then -(gcdI t b) else gcdI t b
theorem gcdI_pos {t b : Int} (h : b ≠ 0) : 0 < gcdI t b := by
  unfold gcdI
  have : 0 < Nat.gcd t.natAbs b.natAbs := Nat.gcd_pos_of_pos_right _ (by omega)
  omega
theorem comI_ne {t b : Int} (h : b ≠ 0) : comI t b ≠ 0 := by
  have := gcdI_pos (t := t) h
  unfold comI
  split <;> omega
theorem gcdI_le {t b : Int} (h : b ≠ 0) : (gcdI t b).natAbs ≤ b.natAbs := by
  unfold gcdI
  rw [Int.natAbs_natCast]
  exact Nat.gcd_le_right _ (by omega)
theorem comI_bd {t b : Int} {n : Nat} (h : b ≠ 0) (g : Bd n b) : Bd n (comI t b) := by
  have e : (comI t b).natAbs = (gcdI t b).natAbs := by
    unfold comI
    split
    · exact Int.natAbs_neg _
    · rfl
  exact Bd.abs g (by rw [e]; exact gcdI_le h)
/-- a value that is_fraction is asked of, and its answer -/
inductive FracV (K : PySem.W.Frag) (H : Hp) : V → Bool → Prop where
  | two {p : Addr} {t b : Int} (e : H p = some (.tup [.int t, .int b])) : FracV K H (.ref p) (decide (1 ≤ b) && decide (gcdI t b = 1))
  | odd1 {p : Addr} {x y : V} {t : String} (e : H p = some (.tup [x, y])) (h : TyX K H x (.type t)) (k : tyOk t) (n : t ≠ "int") : FracV K H (.ref p) false
  | odd2 {p : Addr} {t : Int} {y : V} {u : String} (e : H p = some (.tup [.int t, y])) (h : TyX K H y (.type u)) (k : tyOk u) (n : u ≠ "int") : FracV K H (.ref p) false
  | len {p : Addr} {xs : List V} (e : H p = some (.tup xs)) (n : xs.length ≠ 2) : FracV K H (.ref p) false
  | no {x : V} {t : String} (h : TyX K H x (.type t)) (k : tyOk t) (n : t ≠ "tuple") : FracV K H x false

theorem great_at (k : Int) (h0 : 0 ≤ k) (h1 : k < 4) : ∃ g : Int, atI [V.int 7, V.int 1000, V.int (10 ^ (12 : Int).toNat), V.int (10 ^ (39 : Int).toNat)] k = some (.int g) ∧ 0 < g ∧ Bd 130 g := by
  have hk : k = 0 ∨ k = 1 ∨ k = 2 ∨ k = 3 := by omega
  rcases hk with rfl | rfl | rfl | rfl <;> exact ⟨_, rfl, by decide +kernel, by unfold Bd; decide +kernel⟩
theorem gcdI_dvd_l (t b : Int) : gcdI t b ∣ t := Int.gcd_dvd_left ..
theorem gcdI_dvd_r (t b : Int) : gcdI t b ∣ b := Int.gcd_dvd_right ..
theorem gcdI_mul (m a b : Int) : gcdI (m * a) (m * b) = (m.natAbs : Int) * gcdI a b := by
  unfold gcdI
  rw [Int.natAbs_mul, Int.natAbs_mul, Nat.gcd_mul_left, Int.natCast_mul]
/-- what low tells is in lowest terms -/
theorem low_terms {t b : Int} (h : 0 < b) : 0 < b / gcdI t b ∧ gcdI (t / gcdI t b) (b / gcdI t b) = 1 ∧ (t / gcdI t b).natAbs ≤ t.natAbs ∧ (b / gcdI t b).natAbs ≤ b.natAbs := by
  have gp := gcdI_pos (t := t) (show b ≠ 0 by omega)
  obtain ⟨x, hx⟩ := gcdI_dvd_l t b
  obtain ⟨y, hy⟩ := gcdI_dvd_r t b
  generalize hg : gcdI t b = g at gp hx hy ⊢
  have e1 : t / g = x := by rw [hx]; exact Int.mul_ediv_cancel_left _ (by omega)
  have e2 : b / g = y := by rw [hy]; exact Int.mul_ediv_cancel_left _ (by omega)
  rw [e1, e2]
  have hy0 : 0 < y := by
    rw [hy] at h
    exact Int.pos_of_mul_pos_right h gp |> fun z => z
  refine ⟨hy0, ?_, ?_, ?_⟩
  · have e3 := gcdI_mul g x y
    rw [← hx, ← hy, hg] at e3
    have e4 : (g.natAbs : Int) = g := by omega
    rw [e4] at e3
    have e5 : g * 1 = g * gcdI x y := by rw [Int.mul_one]; exact e3
    exact (Int.eq_of_mul_eq_mul_left (by omega) e5).symm
  · rw [hx, Int.natAbs_mul]
    exact Nat.le_mul_of_pos_left _ (by omega)
  · rw [hy, Int.natAbs_mul]
    exact Nat.le_mul_of_pos_left _ (by omega)
/-- fraction and low agree -/
theorem frac_low {t b : Int} (h : 0 < b) : t.fdiv (comI t b) = t / gcdI t b ∧ b.fdiv (comI t b) = b / gcdI t b := by
  have e : comI t b = gcdI t b := by
    unfold comI
    rw [if_neg (by omega)]
  have gp := gcdI_pos (t := t) (show b ≠ 0 by omega)
  rw [e]
  exact ⟨Int.fdiv_eq_ediv_of_nonneg _ (by omega), Int.fdiv_eq_ediv_of_nonneg _ (by omega)⟩
theorem gcdI_neg_neg (t b : Int) : gcdI (-t) (-b) = gcdI t b := by
  unfold gcdI
  rw [Int.natAbs_neg, Int.natAbs_neg]
theorem frac_low_neg {t b : Int} (h : b < 0) : t.fdiv (comI t b) = (-t) / gcdI (-t) (-b) ∧ b.fdiv (comI t b) = (-b) / gcdI (-t) (-b) := by
  have e : comI t b = -(gcdI t b) := by
    unfold comI
    rw [if_pos h]
  have gp := gcdI_pos (t := t) (show b ≠ 0 by omega)
  rw [e, gcdI_neg_neg]
  obtain ⟨x, hx⟩ := gcdI_dvd_l t b
  obtain ⟨y, hy⟩ := gcdI_dvd_r t b
  generalize gcdI t b = g at gp hx hy ⊢
  have aux : ∀ z w : Int, z = g * w → z.fdiv (-g) = (-z) / g := by
    intro z w hz
    have e1 : z = (-g) * (-w) := by rw [hz, Int.neg_mul_neg]
    have e2 : -z = g * (-w) := by rw [hz, Int.mul_neg]
    have e3 : z.fdiv (-g) = -w := by rw [e1]; exact Int.mul_fdiv_cancel_left _ (by omega)
    rw [e3, e2, Int.mul_ediv_cancel_left _ (by omega)]
  exact ⟨aux t x hx, aux b y hy⟩
theorem frac_share {m a b : Int} (hm : m ≠ 0) (hb : 0 < b) (hg : gcdI a b = 1) : (m * a).fdiv (comI (m * a) (m * b)) = a ∧ (m * b).fdiv (comI (m * a) (m * b)) = b := by
  have e : comI (m * a) (m * b) = m := by
    unfold comI
    rw [gcdI_mul, hg, Int.mul_one]
    by_cases h : m < 0
    · rw [if_pos (Int.mul_neg_of_neg_of_pos h hb)]
      omega
    · rw [if_neg (by have := Int.mul_pos (show 0 < m by omega) hb; omega)]
      omega
  rw [e]
  exact ⟨Int.mul_fdiv_cancel_left _ hm, Int.mul_fdiv_cancel_left _ hm⟩
theorem frac_one (a : Int) : a.fdiv (comI a 1) = a ∧ (1 : Int).fdiv (comI a 1) = 1 := by
  have e : comI a 1 = 1 := by
    unfold comI gcdI
    rw [if_neg (by decide)]
    show ((Nat.gcd a.natAbs 1 : Nat) : Int) = 1
    rw [Nat.gcd_one_right]
    rfl
  rw [e]
  exact ⟨Int.fdiv_one a, rfl⟩

theorem paired_get {α β : Type} {R : α → β → Prop} : ∀ {xs : List α} {ys : List β} {i : Nat} {x : α}, Paired R xs ys → xs[i]? = some x → ∃ y, ys[i]? = some y ∧ R x y
  | _, _, _, _, .nil, h => by simp at h
  | _, _, 0, _, .cons r _, h => ⟨_, rfl, by
      have e := Option.some.inj h
      subst e
      exact r⟩
  | _, _, i + 1, _, .cons _ t, h => paired_get (i := i) t h
theorem tyx_ex {K : PySem.W.Frag} {H H' : Hp} (e : Ex H H') {x : V} {t : String} (k : tyOk t) (h : TyX K H x (.type t)) : TyX K H' x (.type t) := by
    cases h with
    | base b =>
      cases b with
      | non => exact .base .non
      | bl y => exact .base (.bl y)
      | int i => exact .base (.int i)
      | str y => exact .base (.str y)
      | flt y => exact .base (.flt y)
      | lst h => exact .base (.lst (e _ _ h))
      | frz h => exact .base (.frz (e _ _ h))
      | tup h => exact .base (.tup (e _ _ h))
      | dK h => exact .base (.dK (e _ _ h))
      | dT h => exact .base (.dT (e _ _ h))
    | byt y => exact .byt y
    | set h => exact .set (e _ _ h)
    | kList h c => exact .kList h c
    | kTuple h c => exact .kTuple h c
    | kDict h c => exact .kDict h c
    | fTuple h => exact .fTuple (e _ _ h)
    | fDict h => exact .fDict (e _ _ h)
theorem FracV.ex {K : PySem.W.Frag} {H H' : Hp} {x : V} {r : Bool} (e : Ex H H') (f : FracV K H x r) : FracV K H' x r := by
  cases f with
  | two h => exact .two (e _ _ h)
  | odd1 h a k n => exact .odd1 (e _ _ h) (tyx_ex e k a) k n
  | odd2 h a k n => exact .odd2 (e _ _ h) (tyx_ex e k a) k n
  | len h n => exact .len (e _ _ h) n
  | no a k n => exact .no (tyx_ex e k a) k n
/-- what is_whole is asked of, and its answer -/
def WhoV (K : PySem.W.Frag) (H : Hp) (x : V) (r : Bool) : Prop := ∃ t, TyX K H x (.type t) ∧ tyOk t ∧ r = (t == "int")
theorem dp_bools {K : PySem.W.Frag} {H : Hp} : ∀ bs : List Bool, DpAll K H (bs.map V.bl) (bs.map PyData.bool)
  | [] => .nil
  | b :: r => .cons (.bl b) (dp_bools r)
theorem sgn_at (c : Int) : atI [V.int 1, V.int (-1)] (if decide (c < 0) = true then 1 else 0) = some (.int (if c < 0 then -1 else 1)) := by
  by_cases h : c < 0
  · rw [decide_eq_true h, if_pos rfl, if_pos h]
    rfl
  · rw [decide_eq_false h, if_neg Bool.false_ne_true, if_neg h]
    rfl
theorem turn_at (f : Int) (h0 : 0 ≤ f) (h1 : f < 2) : ∃ t : Int, atI [V.int 1, V.int (-1)] f = some (.int t) ∧ t ≠ 0 ∧ Bd 2 t := by
  have : f = 0 ∨ f = 1 := by omega
  rcases this with rfl | rfl <;> exact ⟨_, rfl, by decide, by unfold Bd; decide⟩
theorem c_tup {ta : TA} {σ : L2.St} {H : Hp} {Q : VK} {vs : List V} (h : EvA ta σ H vs) (hl : vs.length ≤ 100000) (k : ∀ p H2, H p = none → Ex H H2 → H2 p = some (.tup vs) → Q (.ref p) H2) : tTup ta σ H Q := eu_tup h hl H (Ex.refl H) Q k
theorem c_lst {ta : TA} {σ : L2.St} {H : Hp} {Q : VK} {vs : List V} (h : EvA ta σ H vs) (hl : vs.length ≤ 100000) (k : ∀ p H2, H p = none → Ex H H2 → H2 p = some (.lst vs) → Q (.ref p) H2) : tLst ta σ H Q := el_lst h hl H (Ex.refl H) Q k
/-- [f(x) for x in xs], the answers rs -/
theorem t_ask {K : PySem.W.Frag} {n j : Nat} {a : Addr} {xs : List V} {rs : List Bool} {R : V → Bool → Prop} {te : TE} {vs : List Nat} {σ : L2.St} {H : Hp} {Q : VK} (hσ : σ[n]? = some (some (.ref a))) (hx : H a = some (.lst xs)) (hl : xs.length ≤ 1000) (hR : Paired R xs rs)
    (hs : ∀ x r H', Ex H H' → R x r → ∀ Q : VK, Q (.bl r) H' → te ((wipe σ vs).set j (some x)) H' Q) (hw : ∀ x, wipe ((wipe σ vs).set j (some x)) vs = wipe σ vs)
    (hd : ∀ D H', H D = none → Ex H H' → H' D = some (.lst (rs.map V.bl)) → Q (.ref D) H') : tLc (iList K (tVar n)) (gName j) tYes te vs σ H Q := by
  refine ⟨_, hσ, a, rfl, ⟨_, SqL.of hx⟩, fun D hD => ?_⟩
  refine lc_list (K := K) (a := a) (xs := xs) (fun i H' => Ex H H' ∧ H' D = some (.lst ((rs.take i).map V.bl))) ⟨Ex.new hD, upd_same⟩ (fun i H' _ h => SqL.of (h.1 _ _ hx)) (fun i x H' hi h => ?_) (fun H' h => ?_)
  · obtain ⟨e, hD'⟩ := h
    obtain ⟨r, hr, f⟩ := paired_get hR hi
    refine ⟨hw x, ?_⟩
    show te ((wipe σ vs).set j (some x)) H' _
    refine hs x r H' e f _ ⟨_, hD', ?_, Ex.mut e hD, ?_⟩
    · rw [List.length_map, List.length_take]
      have h1 := (List.getElem?_eq_some_iff.mp hi).1
      exact small1000 (by omega)
    · rw [upd_same, List.take_add_one, hr, List.map_append]
      rfl
  · obtain ⟨e, hD'⟩ := h
    have el : xs.length = rs.length := Paired.length hR
    rw [el, List.take_length] at hD'
    exact hd D H' hD e hD'
theorem el_ask {K : PySem.W.Frag} {n j : Nat} {a : Addr} {xs : List V} {rs : List Bool} {R : V → Bool → Prop} {te : TE} {vs : List Nat} {σ : L2.St} {H : Hp} (hσ : σ[n]? = some (some (.ref a))) (hx : H a = some (.lst xs)) (hl : xs.length ≤ 1000) (hR : Paired R xs rs)
    (hs : ∀ x r H', Ex H H' → R x r → ∀ Q : VK, Q (.bl r) H' → te ((wipe σ vs).set j (some x)) H' Q) (hw : ∀ x, wipe ((wipe σ vs).set j (some x)) vs = wipe σ vs) : EvL (tLc (iList K (tVar n)) (gName j) tYes te vs) σ H (rs.map V.bl) :=
  fun H1 e Q q => t_ask hσ (e _ _ hx) hl hR (fun x r H' e' f => hs x r H' (e.trans e') f) hw q
theorem rv_neB {K : PySem.W.Frag} {p q : Addr} {bs : List Bool} {H : Hp} (hp : SqL K H p (bs.map V.bl)) (hq : SqL K H q (bs.map V.bl)) (hs : SeqAt.shaped (.list (bs.map PyData.bool)) = true) : RV (rNeD K) (.ref p) (.ref q) H (.bl false) := fun H1 e Q k =>
  ⟨_, _, .lst (ex_l e hp) (dp_bools bs), .lst (ex_l e hq) (dp_bools bs), hs, hs, by
    rw [SeqAt.eqv_refl _ (SeqAt.canLay_of_shaped hs)]
    exact k H1 (Ex.refl _)⟩
theorem el_cat {σ : L2.St} {H : Hp} {ta tb : TE} {xs ys : List V} (ha : EvL ta σ H xs) (hb : EvL tb σ H ys) (hz : xs.length + ys.length ≤ 100000) : EvL (tOp rCat ta tb) σ H (xs ++ ys) := fun H1 e Q q =>
  ha H1 e _ fun p H2 _ e2 hp => hb H2 (e.trans e2) _ fun r H3 _ e3 hr => ⟨p, r, xs, ys, rfl, rfl, e3 _ _ hp, hr, sz_of hz, fun u hu => q u _ (fresh_back (e2.trans e3) hu) ((e2.trans e3).trans (Ex.new hu)) upd_same⟩
theorem el_rep {σ : L2.St} {H : Hp} {ta tb : TE} {xs : List V} {k : Int} (ha : EvL ta σ H xs) (hb : Ev tb σ H (.int k)) (h0 : 0 ≤ k ∧ k ≤ 100000) (hz : xs.length * k.toNat ≤ 100000) : EvL (tOp rRep ta tb) σ H (List.replicate k.toNat xs).flatten := fun H1 e Q q =>
  ha H1 e _ fun p H2 _ e2 hp => hb H2 (e.trans e2) _ fun H3 e3 => ⟨p, k, xs, rfl, rfl, e3 _ _ hp, by omega, by omega, sz_of hz, fun u hu => q u _ (fresh_back (e2.trans e3) hu) ((e2.trans e3).trans (Ex.new hu)) upd_same⟩
theorem tcons_c {v : V} {r : TA} {σ : L2.St} {H : Hp} {Q : List V → Hp → Prop} (h : r σ H fun xs H2 => Q (v :: xs) H2) : tCons (tC v) r σ H Q := h
theorem due_eq {b c : Int} (X : Int) (hb : 0 < b) (hc : c ≠ 0) :
    (X * (if c < 0 then -1 else 1)) / gcdI (X * (if c < 0 then -1 else 1)) (b * (if (if c < 0 then -c else c) > 1 then (if c < 0 then -c else c) else 1)) = X.fdiv (comI X (b * c)) ∧
    (b * (if (if c < 0 then -c else c) > 1 then (if c < 0 then -c else c) else 1)) / gcdI (X * (if c < 0 then -1 else 1)) (b * (if (if c < 0 then -c else c) > 1 then (if c < 0 then -c else c) else 1)) = (b * c).fdiv (comI X (b * c)) := by
  have e : (if (if c < 0 then -c else c) > 1 then (if c < 0 then -c else c) else 1) = (if c < 0 then -c else c) := by
    split <;> split <;> omega
  rw [e]
  by_cases h : c < 0
  · rw [if_pos h, if_pos h, Int.mul_neg, Int.mul_neg, Int.mul_one]
    have hn : b * c < 0 := Int.mul_neg_of_pos_of_neg hb h
    exact ⟨(frac_low_neg hn).1.symm, (frac_low_neg hn).2.symm⟩
  · rw [if_neg h, if_neg h, Int.mul_one]
    have hp : 0 < b * c := Int.mul_pos hb (by omega)
    exact ⟨(frac_low hp).1.symm, (frac_low hp).2.symm⟩
theorem max_abs (c : Int) (h : c ≠ 0) : (if (if c < 0 then -c else c) > 1 then (if c < 0 then -c else c) else 1) = (if c < 0 then -c else c) := by
  split <;> split <;> omega
/-! ### fractions as the rational numbers -/
def frV (q : Rat) : List V := [.int q.num, .int (q.den : Int)]
theorem fr_low {t b : Int} (h : 0 < b) : [V.int (t / gcdI t b), V.int (b / gcdI t b)] = frV (mkRat t b.toNat) := by
  have e : b.toNat ≠ 0 := by omega
  have g : gcdI t b = ((b.toNat.gcd t.natAbs : Nat) : Int) := by
    unfold gcdI
    rw [Nat.gcd_comm, show b.natAbs = b.toNat by omega]
  have hb : b = (b.toNat : Int) := by omega
  unfold frV
  rw [Rat.num_mkRat, Rat.den_mkRat, if_neg e, if_neg e, g, Int.natCast_ediv, ← hb]
theorem fr_com {t b : Int} (h : 0 < b) : [V.int (t.fdiv (comI t b)), V.int (b.fdiv (comI t b))] = frV (mkRat t b.toNat) := by
  have e : comI t b = gcdI t b := if_neg (by omega)
  have g := gcdI_pos (t := t) (b := b) (by omega)
  rw [e, Int.fdiv_eq_ediv_of_nonneg _ (by omega), Int.fdiv_eq_ediv_of_nonneg _ (by omega)]
  exact fr_low h
theorem den_pos (x y : Rat) : 0 < (x.den : Int) * (y.den : Int) := Int.mul_pos (Int.natCast_pos.mpr x.den_pos) (Int.natCast_pos.mpr y.den_pos)
theorem den_ne (x y : Rat) : (x.den : Int) * (y.den : Int) ≠ 0 := Int.ne_of_gt (den_pos x y)
theorem den_nat (x y : Rat) : ((x.den : Int) * (y.den : Int)).toNat = x.den * y.den := by
  rw [← Int.natCast_mul]
  exact Int.toNat_natCast _
theorem fr_plus {x y : Rat} : mkRat (x.num * (y.den : Int) + y.num * (x.den : Int)) ((x.den : Int) * (y.den : Int)).toNat = x + y := by
  rw [den_nat, ← Rat.add_def']
theorem fr_mul {x y : Rat} : mkRat (x.num * y.num) ((x.den : Int) * (y.den : Int)).toNat = x * y := by
  rw [den_nat, ← Rat.mul_def']
theorem num_one (a : Int) : (mkRat a 1).num = a := by
  rw [Rat.num_mkRat]
  simp
theorem den_one (a : Int) : (mkRat a 1).den = 1 := by
  rw [Rat.den_mkRat]
  simp
theorem fr_int {a : Int} {x : Rat} : mkRat (a * x.num) x.den = mkRat a 1 * x := by
  have h := Rat.mkRat_mul_mkRat a x.num 1 x.den
  rw [Rat.mkRat_self, Nat.one_mul] at h
  exact h.symm
def BdQ (n d : Nat) (q : Rat) : Prop := Bd n q.num ∧ Bd d (q.den : Int)
theorem BdQ.mono {n d n' d' : Nat} {q : Rat} (h : BdQ n d q) (a : n ≤ n') (b : d ≤ d') : BdQ n' d' q := ⟨h.1.mono a, h.2.mono b⟩
theorem mk_bd {n d : Nat} {t : Int} {b : Nat} (hb : b ≠ 0) (h1 : Bd n t) (h2 : Bd d (b : Int)) : BdQ n d (mkRat t b) := by
  unfold BdQ
  rw [Rat.num_mkRat, Rat.den_mkRat, if_neg hb, if_neg hb]
  constructor
  · refine h1.abs ?_
    exact Int.natAbs_ediv_le_natAbs _ _
  · refine h2.abs ?_
    rw [Int.natAbs_natCast, Int.natAbs_natCast]
    exact Nat.div_le_self _ _
theorem add_bd {n d n' d' k : Nat} {x y : Rat} (hx : BdQ n d x) (hy : BdQ n' d' y) (h1 : n + d' ≤ k) (h2 : n' + d ≤ k) : BdQ (k + 1) (d + d') (x + y) := by
  rw [Rat.add_def']
  refine mk_bd (Nat.mul_ne_zero x.den_nz y.den_nz) (((hx.1.mul hy.2).mono h1).add ((hy.1.mul hx.2).mono h2)) ?_
  rw [Int.natCast_mul]
  exact hx.2.mul hy.2
theorem times_bd {n m d : Nat} {a : Int} {x : Rat} (ha : Bd n a) (hx : BdQ m d x) : BdQ (n + m) d (mkRat a 1 * x) := by
  rw [← fr_int]
  exact mk_bd x.den_nz (ha.mul hx.1) hx.2
def terms (ns : List Int) (qs : List Rat) : List Rat := List.zipWith (fun a x => mkRat a 1 * x) ns qs
def psum (ts : List Rat) (i : Nat) : Rat := (ts.take i).foldl (· + ·) 0
def fsum (ns : List Int) (qs : List Rat) : Rat := (terms ns qs).foldl (· + ·) 0
theorem psum_succ {ts : List Rat} {i : Nat} {x : Rat} (h : ts[i]? = some x) : psum ts (i + 1) = psum ts i + x := by
  unfold psum
  rw [take_snoc h, List.foldl_append]
  rfl
theorem psum_all {ts : List Rat} {i : Nat} (h : ts.length ≤ i) : psum ts i = ts.foldl (· + ·) 0 := by
  unfold psum
  rw [List.take_of_length_le h]
theorem terms_at {ns : List Int} {qs : List Rat} {i : Nat} {n : Int} {q : Rat} (h1 : ns[i]? = some n) (h2 : qs[i]? = some q) : (terms ns qs)[i]? = some (mkRat n 1 * q) := by
  unfold terms
  rw [List.getElem?_zipWith, h1, h2]
theorem terms_bd {n m d : Nat} {ns : List Int} {qs : List Rat} (hn : ∀ y ∈ ns, Bd n y) (hq : ∀ q ∈ qs, BdQ m d q) : ∀ t ∈ terms ns qs, BdQ (n + m) d t := by
  intro t ht
  obtain ⟨i, hi⟩ := List.mem_iff_getElem?.mp ht
  unfold terms at hi
  rw [List.getElem?_zipWith] at hi
  cases h1 : ns[i]? with
  | none => rw [h1] at hi; cases hi
  | some a =>
    cases h2 : qs[i]? with
    | none => rw [h1, h2] at hi; cases hi
    | some q =>
      rw [h1, h2] at hi
      cases hi
      exact times_bd (hn a (List.mem_of_getElem? h1)) (hq q (List.mem_of_getElem? h2))
theorem psum_bd {n d : Nat} {ts : List Rat} (h : ∀ t ∈ ts, BdQ n d t) : ∀ i : Nat, BdQ (1 + i * (n + d + 1)) (1 + i * d) (psum ts i)
  | 0 => by
    unfold psum
    rw [List.take_zero, Nat.zero_mul, Nat.zero_mul]
    exact ⟨by show (0 : Nat) < _; exact Nat.two_pow_pos _, by show (1 : Nat) < 2 ^ (1 + 0); decide⟩
  | i + 1 => by
    have ih := psum_bd h i
    cases e : ts[i]? with
    | none =>
      have : psum ts (i + 1) = psum ts i := by
        have hl := List.getElem?_eq_none_iff.mp e
        rw [psum_all hl, psum_all (by omega)]
      rw [this]
      exact ih.mono (by rw [Nat.succ_mul]; omega) (by rw [Nat.succ_mul]; omega)
    | some x =>
      rw [psum_succ e]
      have e1 : i * (n + d + 1) = i * n + i * d + i := by rw [Nat.mul_add, Nat.mul_add, Nat.mul_one]
      exact (add_bd (k := i * (n + d + 1) + n + d + 1) ih (h x (List.mem_of_getElem? e)) (by omega) (by omega)).mono (by rw [Nat.succ_mul]; omega) (by rw [Nat.succ_mul]; omega)
/-- fractions in a list -/
def FrsAt (H : Hp) : List Addr → List Rat → Prop := Paired fun a q => H a = some (.tup (frV q))
def FrL (H : Hp) (p : Addr) (bs : List Addr) (qs : List Rat) : Prop := H p = some (.lst (bs.map V.ref)) ∧ FrsAt H bs qs
theorem FrsAt.ex {H H' : Hp} {bs : List Addr} {qs : List Rat} (h : FrsAt H bs qs) (e : Ex H H') : FrsAt H' bs qs := paired_imp (fun _ _ r => e _ _ r) h
theorem FrL.ex {H H' : Hp} {p : Addr} {bs : List Addr} {qs : List Rat} (h : FrL H p bs qs) (e : Ex H H') : FrL H' p bs qs := ⟨e _ _ h.1, h.2.ex e⟩
/-- [f(x) for x in xs], truths -/
theorem el_bools {K : PySem.W.Frag} {n j : Nat} {a : Addr} {xs : List V} {bs : List Bool} {te : TE} {vs : List Nat} {σ : L2.St} {H : Hp} (hσ : σ[n]? = some (some (.ref a))) (hx : H a = some (.lst xs)) (hl : xs.length ≤ 1000) (hb : xs.length = bs.length)
    (hs : ∀ (i : Nat) (x : V) (r : Bool) (H' : Hp), xs[i]? = some x → bs[i]? = some r → Ex H H' → Ev te ((wipe σ vs).set j (some x)) H' (.bl r)) (hw : ∀ x, wipe ((wipe σ vs).set j (some x)) vs = wipe σ vs) : EvL (tLc (iList K (tVar n)) (gName j) tYes te vs) σ H (bs.map V.bl) := by
  intro H0 e0 Q0 q0
  have hx0 := e0 _ _ hx
  refine ⟨_, hσ, a, rfl, ⟨_, SqL.of hx0⟩, fun D hD => ?_⟩
  refine lc_list (K := K) (a := a) (xs := xs) (fun i H' => Ex H0 H' ∧ H' D = some (.lst ((bs.take i).map V.bl))) ⟨Ex.new hD, upd_same⟩ (fun i H' _ p => SqL.of (p.1 _ _ hx0)) (fun i x H' gx p => ?_) (fun H' p => ?_)
  · obtain ⟨p1, p2⟩ := p
    have hi := (List.getElem?_eq_some_iff.mp gx).1
    have gb : bs[i]? = some bs[i] := List.getElem?_eq_getElem (by omega)
    refine ⟨hw _, ?_⟩
    show te _ _ _
    refine hs i x _ H gx gb (Ex.refl H) _ (e0.trans p1) _ fun H4 e4 => ?_
    refine ⟨_, e4 _ _ p2, ?_, Ex.mut (p1.trans e4) hD, ?_⟩
    · rw [List.length_map, List.length_take]
      exact small1000 (by omega)
    · rw [upd_same, take_snoc gb, List.map_append]
      rfl
  · obtain ⟨p1, p2⟩ := p
    rw [hb, List.take_length] at p2
    exact q0 D H' hD p1 p2
theorem all_map {bs : List Bool} : bs.all id = true ↔ ∀ b ∈ bs, b = true := by
  rw [List.all_eq_true]
  rfl
theorem ev_allB {K : PySem.W.Frag} {ta : TE} {σ : L2.St} {H : Hp} {bs : List Bool} (h : EvL ta σ H (bs.map V.bl)) : Ev (tCB (rAll K) (tCons ta tNil)) σ H (.bl (bs.all id)) := fun H1 e Q q =>
  h H1 e _ fun p H2 _ e2 hp => ⟨p, _, rfl, SqL.of hp, q H2 e2⟩
def EvQ (te : TE) (σ : L2.St) (H : Hp) (q : Rat) : Prop := ∀ H1, Ex H H1 → ∀ Q : VK, (∀ t H2, Ex H1 H2 → H2 t = some (.tup (frV q)) → Q (.ref t) H2) → te σ H1 Q
theorem fr_true {q : Rat} : (decide (1 ≤ (q.den : Int)) && decide (gcdI q.num (q.den : Int) = 1)) = true := by
  have h1 : (1 : Int) ≤ (q.den : Int) := by
    have := q.den_pos
    omega
  have h2 : gcdI q.num (q.den : Int) = 1 := by
    unfold gcdI
    rw [Int.natAbs_natCast, q.reduced.gcd_eq_one]
    rfl
  rw [decide_eq_true h1, decide_eq_true h2]
  rfl
theorem lf_rows {K : PySem.W.Frag} {nn : Nat} {te : TE} {vs : List Nat} {j : Nat} {σ : L2.St} {H : Hp} {Q : VK} {a : Addr} {as0 : List Addr} {rows : List (List Int)} (F : List Int → Rat) (hσ : σ[nn]? = some (some (.ref a))) (ht : Tab H a as0 rows) (hm : rows.length ≤ 1000) (hw : ∀ u, wipe ((wipe σ vs).set j (some u)) vs = wipe σ vs)
    (he : ∀ c r H1, r ∈ rows → H c = some (.lst (r.map V.int)) → Ex H H1 → EvQ te ((wipe σ vs).set j (some (.ref c))) H1 (F r))
    (k : ∀ p bs H2, H p = none → Ex H H2 → FrL H2 p bs (rows.map F) → Q (.ref p) H2) : tLc (iList K (tVar nn)) (gName j) tYes te vs σ H Q := by
  refine ⟨_, hσ, a, rfl, ⟨_, SqL.of ht.1⟩, fun D hD => ?_⟩
  refine lc_list (K := K) (a := a) (xs := as0.map V.ref) (fun i H' => ∃ bs, Ex H H' ∧ H' D = some (.lst (bs.map V.ref)) ∧ FrsAt H' bs ((rows.take i).map F)) ⟨[], Ex.new hD, upd_same, .nil⟩ (fun i H' _ ⟨_, p1, _⟩ => SqL.of (p1 _ _ ht.1)) (fun i x H' gx p => ?_) (fun H' p => ?_)
  · obtain ⟨bs, p1, p2, p3⟩ := p
    rw [List.getElem?_map] at gx
    obtain ⟨c0, hc0, rfl⟩ := Option.map_eq_some_iff.mp gx
    obtain ⟨y, hy, hh⟩ := paired_get ht.2 hc0
    have hi := (List.getElem?_eq_some_iff.mp hy).1
    have el : bs.length = i := by rw [Paired.length p3, List.length_map, List.length_take]; omega
    refine ⟨hw _, ?_⟩
    show te _ H' _
    refine he c0 y H' (List.mem_of_getElem? hy) hh p1 H' (Ex.refl _) _ fun r H4 e4 hr => ?_
    refine ⟨_, e4 _ _ p2, ?_, bs ++ [r], Ex.mut (p1.trans e4) hD, ?_, ?_⟩
    · rw [List.length_map, el]
      exact small1000 (by omega)
    · rw [upd_same, List.map_append]
      rfl
    · rw [take_snoc hy, List.map_append]
      have p24 := e4 _ _ p2
      refine paired_snoc (paired_imp (fun b q h => tups_U p24 _ _ (e4 _ _ h)) p3) ?_
      exact tups_U p24 _ _ hr
  · obtain ⟨bs, p1, p2, p3⟩ := p
    rw [List.length_map, Paired.length ht.2, List.take_length] at p3
    exact k D bs H' hD p1 ⟨p2, p3⟩
namespace Fq
end Fq

section
variable {P : Program} {w : World} {K : PySem.W.Frag} {mg : Str → Option Value} {base : Heap}
-- DEF is_whole

def sp_is_whole (K : PySem.W.Frag) : Sp := fun vs H Q _ => ∃ (x : V) (t : String), vs = [x] ∧ TyX K H x (.type t) ∧ tyOk t ∧ Q (.bl (t == "int")) H

theorem ok_is_whole (T : Txt K mg) : FnOk P w K mg base CX0 1 T.f_is_whole T.fd_is_whole ["thing"] (sp_is_whole K) := by
  refine Fun.ok T.F_is_whole sc_is_whole (fun vs H Q E h => ?_) (fun cdv A outer s H vs Q E hr h => ?_)
  · obtain ⟨_, _, rfl, _⟩ := h; rfl
  · refine ⟨_, (pss_one (ps_ret (pe_and (pe_callB (id := "isinstance") (r := rIsi K) call_isi (by rfl) T.n_isinstance (by decide +kernel) (pa_cons (pv 0) (pa_cons (pe_bltn (v := .ty "int") (by rfl) T.n_int (by decide +kernel) rfl) pa_nil))) (pe_one (pe_not (pe_callB (id := "isinstance") (r := rIsi K) call_isi (by rfl) T.n_isinstance (by decide +kernel) (pa_cons (pv 0) (pa_cons (pe_bltn (v := .ty "bool") (by rfl) T.n_bool (by decide +kernel) rfl) pa_nil)))))))), ?_⟩
    obtain ⟨x, t, rfl, ty, ok, q⟩ := h
    refine ⟨x, rfl, x, _, _, _, _, rfl, ClsV.ty _, ty, kit_ty (ty_int ok), _, rfl, ?_⟩
    rcases ok with rfl | rfl | rfl | rfl | rfl | rfl | rfl
    · exact iteT ⟨x, rfl, x, _, _, _, _, rfl, ClsV.ty _, ty, kit_ty (ty_bool (.inl rfl)), _, rfl, q⟩
    · exact iteT ⟨x, rfl, x, _, _, _, _, rfl, ClsV.ty _, ty, kit_ty (ty_bool (.inr (.inl rfl))), _, rfl, q⟩
    all_goals exact iteF q
-- DEF floor_of

namespace Fq
open PySem PySem.Spec PyProof.Rows
def fl (q : Rat) : Int := q.num / (q.den : Int)
def ce (q : Rat) : Int := -((-q.num) / (q.den : Int))
theorem dpos (q : Rat) : (0 : Int) < (q.den : Int) := Int.natCast_pos.mpr q.den_pos
theorem ce_le (q : Rat) : ce q ≤ fl q + 1 := by
  have hb := dpos q
  unfold ce fl
  have h1 := Int.lt_ediv_add_one_mul_self q.num hb
  have h2 : -(q.num / (q.den : Int)) - 1 ≤ (-q.num) / (q.den : Int) := Int.le_ediv_of_mul_le hb (by
    have e : (-(q.num / (q.den : Int)) - 1) * (q.den : Int) = -((q.num / (q.den : Int) + 1) * (q.den : Int)) := by
      rw [← Int.neg_mul]
      congr 1
      omega
    rw [e]
    omega)
  omega
def ch (q : Rat) : List Int := Ls.rg (fl q) (ce q + 1)
theorem ch_len (q : Rat) : (ch q).length ≤ 2 := by
  unfold ch
  rw [Ls.rg_len]
  have := ce_le q
  omega
theorem ch_mem {q : Rat} {z : Int} (h : z ∈ ch q) : z = fl q ∨ z = ce q := by
  have h1 := Ls.rg_mem h
  have h2 := ce_le q
  omega
def betw (rows : List (List Int)) (qs : List Rat) (zs : List Int) : Bool := rows.all fun r => decide (fl (fsum r qs) ≤ Ls.dot r zs) && decide (Ls.dot r zs ≤ ce (fsum r qs))
def rnd (rows : List (List Int)) (qs : List Rat) : Option (List Int) := (Ls.allL (qs.map ch)).find? (betw rows qs)
theorem bd_fl {n d : Nat} {q : Rat} (h : BdQ n d q) : Bd n (fl q) := h.1.abs (Int.natAbs_ediv_le_natAbs _ _)
theorem bd_ce {n d : Nat} {q : Rat} (h : BdQ n d q) : Bd n (ce q) := h.1.abs (by
  unfold ce
  rw [Int.natAbs_neg]
  refine Nat.le_trans (Int.natAbs_ediv_le_natAbs _ _) ?_
  rw [Int.natAbs_neg]
  exact Nat.le_refl _)
theorem ch_bd {n d : Nat} {q : Rat} {z : Int} (h : BdQ n d q) (hz : z ∈ ch q) : Bd n z := by
  rcases ch_mem hz with rfl | rfl
  · exact bd_fl h
  · exact bd_ce h
theorem ch_all {n d : Nat} : ∀ {qs : List Rat} {zs : List Int}, (∀ q ∈ qs, BdQ n d q) → Paired (fun (y : Int) (c : List Int) => y ∈ c) zs (qs.map ch) → ∀ z ∈ zs, Bd n z
  | [], _, _, .nil, z, hz => nomatch hz
  | q :: qs, _, h, .cons r t, z, hz => by
    rcases List.mem_cons.mp hz with rfl | hz
    · exact ch_bd (h q (.head _)) r
    · exact ch_all (fun q hq => h q (.tail _ hq)) t z hz
end Fq
theorem el_colF {K : PySem.W.Frag} {n : Nat} {te : TE} {vs : List Nat} {j : Nat} {σ : L2.St} {H : Hp} {a : Addr} {bs : List Addr} {qs : List Rat} (f : Rat → Int) (hσ : σ[n]? = some (some (.ref a))) (hx : H a = some (.lst (bs.map V.ref))) (hE : FrsAt H bs qs) (hz : qs.length ≤ 1000)
    (hw : ∀ u, wipe ((wipe σ vs).set j (some u)) vs = wipe σ vs)
    (he : ∀ b r H1, r ∈ qs → H b = some (.tup (frV r)) → Ex H H1 → Ev te ((wipe σ vs).set j (some (.ref b))) H1 (.int (f r))) : EvL (tLc (iList K (tVar n)) (gName j) tYes te vs) σ H ((qs.map f).map V.int) := fun H1 e1 Q q => by
  have hx1 := e1 _ _ hx
  have el : bs.length = qs.length := Paired.length hE
  refine ⟨_, hσ, a, rfl, ⟨_, SqL.of hx1⟩, fun D hD => ?_⟩
  refine lc_list (K := K) (a := a) (xs := bs.map V.ref) (fun i H' => Ex H1 H' ∧ H' D = some (.lst (((qs.map f).take i).map V.int))) ⟨Ex.new hD, upd_same⟩ (fun i H' _ p => SqL.of (p.1 _ _ hx1)) (fun i x H' gx p => ?_) (fun H' p => ?_)
  · obtain ⟨p1, p2⟩ := p
    rw [List.getElem?_map] at gx
    obtain ⟨b, hb, rfl⟩ := Option.map_eq_some_iff.mp gx
    obtain ⟨ed, hed, hr⟩ := paired_get hE hb
    refine ⟨hw _, ?_⟩
    show te _ _ _
    refine he b ed H (List.mem_of_getElem? hed) hr (Ex.refl H) _ (e1.trans p1) _ fun H4 e4 => ?_
    refine ⟨_, e4 _ _ p2, ?_, Ex.mut (p1.trans e4) hD, ?_⟩
    · rw [List.length_map, List.length_take, List.length_map]
      exact small1000 (by omega)
    · have hzz : (qs.map f)[i]? = some (f ed) := by rw [List.getElem?_map, hed]; rfl
      rw [upd_same, take_snoc hzz, List.map_append]
      rfl
  · obtain ⟨p1, p2⟩ := p
    rw [List.take_of_length_le (by rw [List.length_map, List.length_map]; omega)] at p2
    exact q D H' hD p1 p2

/-- [F(q) for q in qs], lists made of fractions -/
theorem lc_rowsF {K : PySem.W.Frag} {nn : Nat} {te : TE} {vs : List Nat} {j : Nat} {σ : L2.St} {H : Hp} {Q : VK} {a : Addr} {bs0 : List Addr} {qs : List Rat} (F : Rat → List Int) (hσ : σ[nn]? = some (some (.ref a))) (ht : FrL H a bs0 qs) (hm : qs.length ≤ 1000) (hw : ∀ u, wipe ((wipe σ vs).set j (some u)) vs = wipe σ vs)
    (he : ∀ c q H1, q ∈ qs → H1 c = some (.tup (frV q)) → Ex H H1 → EvL te ((wipe σ vs).set j (some (.ref c))) H1 ((F q).map V.int))
    (k : ∀ p as H2, H p = none → Ex H H2 → Tab H2 p as (qs.map F) → Q (.ref p) H2) : tLc (iList K (tVar nn)) (gName j) tYes te vs σ H Q := by
  refine ⟨_, hσ, a, rfl, ⟨_, SqL.of ht.1⟩, fun D hD => ?_⟩
  refine lc_list (K := K) (a := a) (xs := bs0.map V.ref) (fun i H' => ∃ as, Ex H H' ∧ H' D = some (.lst (as.map V.ref)) ∧ RowsAt H' as ((qs.take i).map F) ∧ D ∉ as) ⟨[], Ex.new hD, upd_same, .nil, fun z => nomatch z⟩ (fun i H' _ ⟨_, p1, _⟩ => SqL.of (p1 _ _ ht.1)) (fun i x H' gx p => ?_) (fun H' p => ?_)
  · obtain ⟨as, p1, p2, p3, p6⟩ := p
    rw [List.getElem?_map] at gx
    obtain ⟨c0, hc0, rfl⟩ := Option.map_eq_some_iff.mp gx
    obtain ⟨y, hy, hh⟩ := paired_get ht.2 hc0
    have hi := (List.getElem?_eq_some_iff.mp hy).1
    have el : as.length = i := by rw [Paired.length p3, List.length_map, List.length_take]; omega
    refine ⟨hw _, ?_⟩
    show te _ H' _
    refine he c0 y H' (List.mem_of_getElem? hy) (p1 _ _ hh) p1 H' (Ex.refl _) _ fun r H4 nr e4 hr => ?_
    have nrD : r ≠ D := fun z => by
      rw [z, p2] at nr
      cases nr
    refine ⟨_, e4 _ _ p2, ?_, as ++ [r], Ex.mut (p1.trans e4) hD, ?_, ?_, ?_⟩
    · rw [List.length_map, el]
      exact small1000 (by omega)
    · rw [upd_same, List.map_append]
      rfl
    · rw [take_snoc hy, List.map_append]
      refine paired_snoc (rows_but p3 fun b hb o g => ?_) ?_
      · rw [upd_ne (fun z => p6 (by rw [← z]; exact hb))]
        exact e4 _ _ g
      · rw [upd_ne nrD]
        exact hr
    · intro hb
      rcases List.mem_append.mp hb with h | h
      · exact p6 h
      · exact nrD (List.mem_singleton.mp h).symm
  · obtain ⟨as, p1, p2, p3, p6⟩ := p
    rw [List.length_map, Paired.length ht.2, List.take_length] at p3
    exact k D as H' hD p1 ⟨p2, p3⟩
/-- [(f(q), g(q)) for q in a list just made] -/
theorem lc_pairsF {K : PySem.W.Frag} {tl te : TE} {vs : List Nat} {j : Nat} {σ : L2.St} {H : Hp} {Q : VK} {qs : List Rat} (F : Rat → Int × Int) (h : ∀ Q' : VK, (∀ c cs H1, H c = none → Ex H H1 → FrL H1 c cs qs → Q' (.ref c) H1) → tl σ H Q') (hm : qs.length ≤ 1000) (hw : ∀ u, wipe ((wipe σ vs).set j (some u)) vs = wipe σ vs)
    (he : ∀ c q H1, q ∈ qs → H1 c = some (.tup (frV q)) → Ex H H1 → EvU te ((wipe σ vs).set j (some (.ref c))) H1 [.int (F q).1, .int (F q).2])
    (k : ∀ p as H2, H p = none → Ex H H2 → H2 p = some (.lst (as.map V.ref)) → EdgesAt H2 as (qs.map F) → Q (.ref p) H2) : tLc (iList K tl) (gName j) tYes te vs σ H Q := by
  refine h _ fun a bs0 H1 na e1 ht => ⟨a, rfl, ⟨_, SqL.of ht.1⟩, fun D hD => ?_⟩
  have hDH := fresh_back e1 hD
  refine lc_list (K := K) (a := a) (xs := bs0.map V.ref) (fun i H' => ∃ as, Ex H1 H' ∧ H' D = some (.lst (as.map V.ref)) ∧ EdgesAt H' as ((qs.take i).map F)) ⟨[], Ex.new hD, upd_same, .nil⟩ (fun i H' _ ⟨_, p1, _⟩ => SqL.of (p1 _ _ ht.1)) (fun i x H' gx p => ?_) (fun H' p => ?_)
  · obtain ⟨as, p1, p2, p3⟩ := p
    rw [List.getElem?_map] at gx
    obtain ⟨c0, hc0, rfl⟩ := Option.map_eq_some_iff.mp gx
    obtain ⟨y, hy, hh⟩ := paired_get ht.2 hc0
    have hi := (List.getElem?_eq_some_iff.mp hy).1
    have el : as.length = i := by rw [Paired.length p3, List.length_map, List.length_take]; omega
    refine ⟨hw _, ?_⟩
    show te _ H' _
    refine he c0 y H' (List.mem_of_getElem? hy) (p1 _ _ hh) (e1.trans p1) H' (Ex.refl _) _ fun r H4 nr e4 hr => ?_
    have p24 := e4 _ _ p2
    refine ⟨_, p24, ?_, as ++ [r], Ex.mut (p1.trans e4) hD, ?_, ?_⟩
    · rw [List.length_map, el]
      exact small1000 (by omega)
    · rw [upd_same, List.map_append]
      rfl
    · rw [take_snoc hy, List.map_append]
      refine paired_snoc (paired_imp (fun b q h => tups_U p24 _ _ (e4 _ _ h)) p3) ?_
      exact tups_U p24 _ _ hr
  · obtain ⟨as, p1, p2, p3⟩ := p
    rw [List.length_map, Paired.length ht.2, List.take_length] at p3
    exact k D as H' hDH (e1.trans p1) p2 p3
abbrev g3 (K : PySem.W.Frag) (j1 j2 j3 : Nat) : TG := gTup K 2 (gCons (gName j1) (gCons (g2 K j2 j3) gNil))
/-- [f(x, (lo, hi)) for x, (lo, hi) in zip(xs, ps)], truths -/
theorem el_zipPB {K : PySem.W.Frag} {ta : TA} {te : TE} {vs : List Nat} {j1 j2 j3 : Nat} {σ : L2.St} {H : Hp} {Q : VK} {b : Addr} {cs : List Addr} {xs : List Int} {ps : List (Int × Int)} (f : Int → Int × Int → Bool) (h : ∀ Q' : List V → Hp → Prop, (∀ a H1, H a = none → Ex H H1 → H1 a = some (.lst (xs.map V.int)) → Q' [.ref a, .ref b] H1) → ta σ H Q') (hy : H b = some (.lst (cs.map V.ref))) (hp : EdgesAt H cs ps) (hl : xs.length = ps.length) (hz : xs.length ≤ 1000)
    (hw : ∀ u v z, wipe ((((wipe σ vs).set j1 (some u)).set j2 (some v)).set j3 (some z)) vs = wipe σ vs)
    (he : ∀ x p H2, x ∈ xs → p ∈ ps → Ex H H2 → Ev te ((((wipe σ vs).set j1 (some (.int x))).set j2 (some (.int p.1))).set j3 (some (.int p.2))) H2 (.bl (f x p)))
    (k : ∀ D H2, H D = none → Ex H H2 → H2 D = some (.lst ((List.zipWith f xs ps).map V.bl)) → Q (.ref D) H2) : tLc (iZip K ta) (g3 K j1 j2 j3) tYes te vs σ H Q := by
  refine h _ fun a H1 na eH hx => ?_
  have hx1 : SqL K H1 a (xs.map V.int) := SqL.of hx
  have hy1 := eH _ _ hy
  have hp1 : EdgesAt H1 cs ps := EdgesAt.mono (fun a xs g => eH _ _ g) hp
  have el : cs.length = ps.length := Paired.length hp1
  refine ⟨a, b, _, _, rfl, hx1, SqL.of hy1, fun D hD => ?_⟩
  refine lc_zip (xs := xs.map V.int) (ys := cs.map V.ref) (by rw [List.length_map, List.length_map, el]; exact hl) (fun i H' => Ex H1 H' ∧ H' D = some (.lst (((List.zipWith f xs ps).take i).map V.bl))) ⟨Ex.new hD, upd_same⟩ (fun i H' p => ⟨ex_l p.1 hx1, SqL.of (p.1 _ _ hy1)⟩) (fun i x y T H' gx gy p nT => ?_) (fun H' p => ?_)
  · obtain ⟨p1, p2⟩ := p
    rw [List.getElem?_map] at gx gy
    obtain ⟨x', hx', rfl⟩ := Option.map_eq_some_iff.mp gx
    obtain ⟨c', hc', rfl⟩ := Option.map_eq_some_iff.mp gy
    obtain ⟨y', hy', hh⟩ := paired_get hp1 hc'
    have xT : Ex H' (upd H' T (.tup [.int x', .ref c'])) := Ex.new nT
    refine ⟨T, _, rfl, SqT.of upd_same, rfl, _, _, rfl, _, _, rfl, ⟨c', _, rfl, SqT.of (xT _ _ (p1 _ _ hh)), rfl, _, _, rfl, _, _, rfl, rfl, rfl, hw _ _ _, ?_⟩⟩
    show te _ _ _
    refine he x' y' H (List.mem_of_getElem? hx') (List.mem_of_getElem? hy') (Ex.refl _) _ (eH.trans (p1.trans xT)) _ fun H4 e4 => ?_
    refine ⟨_, e4 _ _ (xT _ _ p2), ?_, Ex.mut ((p1.trans xT).trans e4) hD, ?_⟩
    · rw [List.length_map, List.length_take]
      have := (List.getElem?_eq_some_iff.mp hx').1
      exact small1000 (by omega)
    · have hzz : (List.zipWith f xs ps)[i]? = some (f x' y') := by
        rw [List.getElem?_zipWith, hx', hy']
      rw [upd_same, take_snoc hzz, List.map_append]
      rfl
  · obtain ⟨p1, p2⟩ := p
    rw [List.take_of_length_le (by rw [List.length_zipWith, List.length_map]; omega)] at p2
    exact k D H' (fresh_back eH hD) (eH.trans p1) p2

def sp_floor_of (K : PySem.W.Frag) : Sp := fun vs H Q _ => ∃ (p : Addr) (a b : Int), vs = [.ref p] ∧ H p = some (.tup [.int a, .int b]) ∧ 0 < b ∧ Bd 1000 b ∧ Q (.int (a / b)) H

theorem ok_floor_of (T : Txt K mg) : FnOk P w K mg base CX0 1 T.f_floor_of T.fd_floor_of ["value"] (sp_floor_of K) := by
  refine Fun.ok T.F_floor_of sc_floor_of (fun vs H Q E h => ?_) (fun cdv A outer s H vs Q E hr h => ?_)
  · obtain ⟨_, _, _, rfl, _⟩ := h; rfl
  · refine ⟨_, (pss_one (ps_ret (pe_op op_fdivW (pe_ix (r := rIxT K) ix_tup (pv 0) pe_int (fun _ _ => rfl)) (pe_ix (r := rIxT K) ix_tup (pv 0) pe_int (fun _ _ => rfl))))), ?_⟩
    obtain ⟨p, a, b, rfl, hp, hb, bb, k⟩ := h
    refine ⟨_, rfl, p, _, _, _, rfl, rfl, SqT.of hp, rfl, _, rfl, p, _, _, _, rfl, rfl, SqT.of hp, rfl, _, _, rfl, rfl, Bd.divOk hb bb, k⟩
-- DEF ceiling_of

def sp_ceiling_of (K : PySem.W.Frag) : Sp := fun vs H Q _ => ∃ (p : Addr) (a b : Int), vs = [.ref p] ∧ H p = some (.tup [.int a, .int b]) ∧ 0 < b ∧ Bd 1000 b ∧ Q (.int (-((-a) / b))) H

theorem ok_ceiling_of (T : Txt K mg) : FnOk P w K mg base CX0 1 T.f_ceiling_of T.fd_ceiling_of ["value"] (sp_ceiling_of K) := by
  refine Fun.ok T.F_ceiling_of sc_ceiling_of (fun vs H Q E h => ?_) (fun cdv A outer s H vs Q E hr h => ?_)
  · obtain ⟨_, _, _, rfl, _⟩ := h; rfl
  · refine ⟨_, (pss_one (ps_ret (pe_un un_neg (pe_op op_fdivW (pe_un un_neg (pe_ix (r := rIxT K) ix_tup (pv 0) pe_int (fun _ _ => rfl))) (pe_ix (r := rIxT K) ix_tup (pv 0) pe_int (fun _ _ => rfl)))))), ?_⟩
    obtain ⟨p, a, b, rfl, hp, hb, bb, k⟩ := h
    refine ⟨_, rfl, p, _, _, _, rfl, rfl, SqT.of hp, rfl, _, rfl, _, rfl, p, _, _, _, rfl, rfl, SqT.of hp, rfl, _, _, rfl, rfl, Bd.divOk hb bb, _, rfl, k⟩
-- DEF is_long

def sp_is_long (K : PySem.W.Frag) : Sp := fun vs H Q _ => ∃ (a : Addr) (xs : List V) (n : Int), vs = [.ref a, .int n] ∧ H a = some (.lst xs) ∧ (xs.length : Int) = n ∧ ∀ H', Ex H H' → Q (.bl true) H'

theorem ok_is_long (T : Txt K mg) : FnOk P w K mg base CX0 1 T.f_is_long T.fd_is_long ["thing", "many"] (sp_is_long K) := by
  refine Fun.ok T.F_is_long sc_is_long (fun vs H Q E h => ?_) (fun cdv A outer s H vs Q E hr h => ?_)
  · obtain ⟨_, _, _, rfl, _⟩ := h; rfl
  · refine ⟨_, (pss_one (ps_ret (pe_and (pe_callB (id := "isinstance") (r := rIsi K) call_isi (by rfl) T.n_isinstance (by decide +kernel) (pa_cons (pv 0) (pa_cons (pe_bltn (v := .ty "list") (by rfl) T.n_list (by decide +kernel) rfl) pa_nil))) (pe_one (pe_cmpR op_eq (pe_callB (id := "len") (r := rLenS K) call_len_seq (by rfl) T.n_len PySem.boot_len (pa_cons (pv 0) pa_nil)) (pv 1) (nomark _)))))), ?_⟩
    obtain ⟨a, xs, n, rfl, ha, hl, k⟩ := h
    exact s_ret (ev_andV (a := true) (b := true) (ev_isi (t := "list") (b := true) (ev_var rfl) ev_c (fun H1 e => .base (.lst (e _ _ ha))) (by decide +kernel)) (fun _ => ev_is (ev_op (ev_len (ev_var rfl) (SqL.of ha)) (ev_var rfl) (rv_eq rfl)) (by rw [hl]; exact congrArg V.bl (decide_eq_true rfl)))) fun H' e => k H' e
-- DEF all_lists
structure TN (s : Addr) (H : Hp) (p : Addr) (as : List Addr) (rows : List (List Int)) : Prop where
  tab : Tab H p as rows
  ps : p ≠ s
  ass : ∀ a ∈ as, a ≠ s
theorem TN.ex {s : Addr} {H H' : Hp} {p : Addr} {as : List Addr} {rows : List (List Int)} (h : TN s H p as rows) (e : Ex H H') : TN s H' p as rows := ⟨h.tab.ex e, h.ps, h.ass⟩
theorem TN.exB {s : Addr} {H H' : Hp} {p : Addr} {as : List Addr} {rows : List (List Int)} (h : TN s H p as rows) (e : ExB s H H') : TN s H' p as rows := ⟨⟨e _ _ h.ps h.tab.1, rows_but h.tab.2 fun a ha o g => e a o (h.ass a ha) g⟩, h.ps, h.ass⟩
theorem TN.of {s : Addr} {n : Int} {H0 H : Hp} {p : Addr} {as : List Addr} {rows : List (List Int)} (hs : SrcAt H0 s n) (hp : H0 p = none) (ha : ∀ a ∈ as, H0 a = none) (h : Tab H p as rows) : TN s H p as rows := ⟨h, hs.ne hp, fun a q => hs.ne (ha a q)⟩
theorem dp_rows {K : PySem.W.Frag} {H : Hp} : ∀ {as : List Addr} {rows : List (List Int)}, RowsAt H as rows → DpAll K H (as.map V.ref) (rows.map fun r => PyData.list (r.map PyData.int))
  | _, _, .nil => .nil
  | _, _, .cons h t => .cons (.lst (SqL.of h) (dpAll_ints _)) (dp_rows t)
theorem canLay_rows : ∀ rows : List (List Int), PyData.canLayAll0 (rows.map fun r => PyData.list (r.map PyData.int)) = true
  | [] => rfl
  | r :: rs => by
    show (PyData.canLayAll0 (r.map PyData.int) && PyData.canLayAll0 (rs.map fun r => PyData.list (r.map PyData.int))) = true
    rw [canLay_ints, canLay_rows rs]
    rfl
theorem depth_rows : ∀ rows : List (List Int), PyData.depthAll (rows.map fun r => PyData.list (r.map PyData.int)) ≤ 1
  | [] => Nat.zero_le _
  | r :: rs => by
    show max (PyData.depthAll (r.map PyData.int) + 1) (PyData.depthAll (rs.map fun r => PyData.list (r.map PyData.int))) ≤ 1
    have := depth_rows rs
    rw [depth_ints]
    omega
theorem rv_neT {K : PySem.W.Frag} {H : Hp} {p q : Addr} {as bs : List Addr} {rows : List (List Int)} (hp : Tab H p as rows) (hq : Tab H q bs rows) : RV (rNeD K) (.ref p) (.ref q) H (.bl false) := fun H1 e Q k => by
  have sh : SeqAt.shaped (.list (rows.map fun r => PyData.list (r.map PyData.int))) = true := shaped_list (canLay_rows rows) (Nat.le_trans (depth_rows rows) (by decide))
  refine ⟨_, _, .lst (SqL.of (e _ _ hp.1)) (dp_rows (hp.2.ex e)), .lst (SqL.of (e _ _ hq.1)) (dp_rows (hq.2.ex e)), sh, sh, ?_⟩
  rw [SeqAt.eqv_refl _ (SeqAt.canLay_of_shaped sh)]
  exact k H1 (Ex.refl _)
theorem cutV_ints (ns : List Int) (lo hi : Option Int) : ∃ zs : List Int, cutV (ns.map V.int) lo hi = zs.map V.int := by
  refine ⟨(ns.drop (HT.sIx (ns.map V.int).length 0 lo)).take (HT.sIx (ns.map V.int).length (ns.map V.int).length hi - HT.sIx (ns.map V.int).length 0 lo), ?_⟩
  unfold cutV
  rw [List.map_take, List.map_drop]
theorem paired_app {α β : Type} {R : α → β → Prop} : ∀ {xs : List α} {ys : List β} {xs2 : List α} {ys2 : List β}, Paired R xs ys → Paired R xs2 ys2 → Paired R (xs ++ xs2) (ys ++ ys2)
  | _, _, _, _, .nil, h => h
  | _, _, _, _, .cons a t, h => .cons a (paired_app t h)
theorem paired_take {α β : Type} {R : α → β → Prop} : ∀ {xs : List α} {ys : List β} (n : Nat), Paired R xs ys → Paired R (xs.take n) (ys.take n)
  | _, _, 0, _ => by rw [List.take_zero, List.take_zero]; exact .nil
  | _, _, n + 1, .nil => by rw [List.take_nil, List.take_nil]; exact .nil
  | _, _, n + 1, .cons a t => .cons a (paired_take n t)
theorem lc_rowsT {K : PySem.W.Frag} {nn : Nat} {te : TE} {vs : List Nat} {j : Nat} {σ : L2.St} {H : Hp} {Q : VK} {a : Addr} {as0 : List Addr} {rows : List (List Int)} (F : List Int → List Int) (hσ : σ[nn]? = some (some (.ref a))) (ht : Tab H a as0 rows) (hm : rows.length ≤ 1000) (hw : ∀ u, wipe ((wipe σ vs).set j (some u)) vs = wipe σ vs)
    (he : ∀ c r H1, r ∈ rows → H c = some (.lst (r.map V.int)) → Ex H H1 → EvL te ((wipe σ vs).set j (some (.ref c))) H1 ((F r).map V.int))
    (k : ∀ p as H2, H p = none → (∀ a ∈ as, H a = none) → as.Nodup → p ∉ as → Ex H H2 → Tab H2 p as (rows.map F) → Q (.ref p) H2) : tLc (iList K (tVar nn)) (gName j) tYes te vs σ H Q := by
  refine ⟨_, hσ, a, rfl, ⟨_, SqL.of ht.1⟩, fun D hD => ?_⟩
  refine lc_list (K := K) (a := a) (xs := as0.map V.ref) (fun i H' => ∃ as, Ex H H' ∧ H' D = some (.lst (as.map V.ref)) ∧ RowsAt H' as ((rows.take i).map F) ∧ (∀ a ∈ as, H a = none) ∧ as.Nodup ∧ D ∉ as) ⟨[], Ex.new hD, upd_same, .nil, fun a ha => by simp at ha, List.nodup_nil, by simp⟩ (fun i H' _ ⟨_, p1, _⟩ => SqL.of (p1 _ _ ht.1)) (fun i x H' gx p => ?_) (fun H' p => ?_)
  · obtain ⟨as, p1, p2, p3, p4, p5, p6⟩ := p
    rw [List.getElem?_map] at gx
    obtain ⟨c0, hc0, rfl⟩ := Option.map_eq_some_iff.mp gx
    obtain ⟨y, hy, hh⟩ := paired_get ht.2 hc0
    have hi := (List.getElem?_eq_some_iff.mp hy).1
    have el : as.length = i := by rw [Paired.length p3, List.length_map, List.length_take]; omega
    refine ⟨hw _, ?_⟩
    show te _ H' _
    refine he c0 y H' (List.mem_of_getElem? hy) hh p1 H' (Ex.refl _) _ fun r H4 nr e4 hr => ?_
    have nrD : r ≠ D := fun z => by
      rw [z, p2] at nr
      cases nr
    refine ⟨_, e4 _ _ p2, ?_, as ++ [r], Ex.mut (p1.trans e4) hD, ?_, ?_, ?_, ?_, ?_⟩
    · rw [List.length_map, el]
      exact small1000 (by omega)
    · rw [upd_same, List.map_append]
      rfl
    · rw [take_snoc hy, List.map_append]
      refine paired_snoc (rows_but p3 fun b hb o g => ?_) ?_
      · rw [upd_ne (fun z => p6 (by rw [← z]; exact hb))]
        exact e4 _ _ g
      · rw [upd_ne nrD]
        exact hr
    · intro b hb
      rcases List.mem_append.mp hb with h | h
      · exact p4 b h
      · rw [show b = r by simpa using h]
        exact fresh_back p1 nr
    · refine List.nodup_append.mpr ⟨p5, by simp, fun b hb c hc z => ?_⟩
      have : c = r := by simpa using hc
      have hb' : r ∈ as := by rw [← this, ← z]; exact hb
      obtain ⟨x, _, hx'⟩ := paired_mem p3 hb'
      rw [nr] at hx'
      cases hx'
    · intro hb
      rcases List.mem_append.mp hb with h | h
      · exact p6 h
      · exact nrD (by simpa using h : D = r).symm
  · obtain ⟨as, p1, p2, p3, p4, p5, p6⟩ := p
    rw [List.length_map, Paired.length ht.2, List.take_length] at p3
    exact k D as H' hD p4 p5 p6 p1 ⟨p2, p3⟩
theorem el_catVL {ta tb : TE} {σ : L2.St} {H : Hp} {a : Addr} {xs ys : List V} (ha : Ev ta σ H (.ref a)) (h : H a = some (.lst xs)) (hb : EvL tb σ H ys) (hz : xs.length + ys.length ≤ 100000) : EvL (tOp rCat ta tb) σ H (xs ++ ys) := fun H1 e Q q =>
  ha H1 e _ fun H2 e2 => hb H2 (e.trans e2) _ fun r H3 nr e3 hr => ⟨a, r, xs, ys, rfl, rfl, ((e.trans e2).trans e3) _ _ h, hr, sz_of hz, fun l nl => q l _ (fresh_back (e2.trans e3) nl) ((e2.trans e3).trans (Ex.new nl)) upd_same⟩

/-- [F(r, z) for r in rows for z in zs]: new lists -/
theorem lc2_grow {K : PySem.W.Frag} {n1 n2 j j1 : Nat} {te : TE} {vs vs1 : List Nat} {σ : L2.St} {H : Hp} {Q : VK} {p q : Addr} {as : List Addr} {rows : List (List Int)} {zs : List Int} (F : List Int → Int → List Int)
    (h1 : σ[n1]? = some (some (.ref p))) (ht : Tab H p as rows) (h2 : ∀ u, ((wipe σ vs).set j (some u))[n2]? = some (some (.ref q))) (hq : H q = some (.lst (zs.map V.int))) (hm : rows.length * zs.length ≤ 50000)
    (hw : ∀ u, wipe ((wipe σ vs).set j (some u)) vs = wipe σ vs) (hw1 : ∀ u v, wipe ((wipe ((wipe σ vs).set j (some u)) vs1).set j1 (some v)) vs1 = wipe ((wipe σ vs).set j (some u)) vs1)
    (he : ∀ c r z H1, r ∈ rows → z ∈ zs → H1 c = some (.lst (r.map V.int)) → Ex H H1 → EvL te ((wipe ((wipe σ vs).set j (some (.ref c))) vs1).set j1 (some (.int z))) H1 ((F r z).map V.int))
    (k : ∀ D bs H2, H D = none → (∀ b ∈ bs, H b = none) → bs.Nodup → D ∉ bs → Ex H H2 → Tab H2 D bs (rows.flatMap fun r => zs.map (F r)) → Q (.ref D) H2) :
    tLc2 (iList K (tVar n1)) (gName j) tYes (iList K (tVar n2)) (gName j1) tYes te vs vs1 σ H Q := by
  refine ⟨_, h1, p, rfl, ⟨_, SqL.of ht.1⟩, fun D hD => ?_⟩
  let Inv (rs : List (List Int)) (G : Hp) : Prop := ∃ bs, Ex H G ∧ G D = some (.lst (bs.map V.ref)) ∧ RowsAt G bs rs ∧ (∀ b ∈ bs, H b = none) ∧ bs.Nodup ∧ D ∉ bs
  have len : ∀ {rs : List (List Int)} {G : Hp} {bs : List Addr}, RowsAt G bs rs → bs.length = rs.length := fun h => Paired.length h
  refine ⟨fun i m G => m = rows.length - i ∧ i ≤ rows.length ∧ Inv ((rows.take i).flatMap fun r => zs.map (F r)) G, ⟨rows.length, by simp, Nat.zero_le _, [], Ex.new hD, upd_same, .nil, fun b hb => (nomatch hb), List.nodup_nil, fun z => nomatch z⟩, ?_⟩
  rintro i m G ⟨rfl, hi, bs, b1, b2, b3, b4, b5, b6⟩
  have al : as.length = rows.length := Paired.length ht.2
  by_cases hlt : i < rows.length
  rotate_left
  · have e : i = rows.length := by omega
    subst e
    rw [List.take_length] at b3
    exact .inl ⟨⟨_, SqL.of (b1 _ _ ht.1), by rw [List.length_map]; omega⟩, k D bs G hD b4 b5 b6 b1 ⟨b2, b3⟩⟩
  have ha : as[i]? = some as[i] := List.getElem?_eq_getElem (by omega)
  obtain ⟨r, hr, hh⟩ := paired_get ht.2 ha
  have hx : (as.map V.ref)[i]? = some (.ref as[i]) := by rw [List.getElem?_map, ha]; rfl
  refine .inr ⟨⟨_, _, SqL.of (b1 _ _ ht.1), hx⟩, Inv ((rows.take (i + 1)).flatMap fun r => zs.map (F r)), fun G' g' => ⟨rows.length - (i + 1), by omega, rfl, hlt, g'⟩, fun x G' y => ?_⟩
  obtain ⟨rfl, y⟩ := y
  have ex := y _ (SqL.of (b1 _ _ ht.1))
  rw [hx] at ex
  cases ex
  refine ⟨hw _, ?_⟩
  dsimp only [tYes]
  rw [if_pos rfl]
  refine ⟨_, h2 _, q, rfl, ⟨_, SqL.of (b1 _ _ hq)⟩, ?_⟩
  refine ⟨fun jj kk G => kk = zs.length - jj ∧ jj ≤ zs.length ∧ Inv (((rows.take i).flatMap fun r => zs.map (F r)) ++ (zs.take jj).map (F r)) G, ⟨zs.length, by simp, Nat.zero_le _, bs, b1, b2, by rw [List.take_zero, List.map_nil, List.append_nil]; exact b3, b4, b5, b6⟩, ?_⟩
  rintro jj kk G2 ⟨rfl, hj, cs, c1, c2, c3, c4, c5, c6⟩
  by_cases hlt2 : jj < zs.length
  rotate_left
  · have e : jj = zs.length := by omega
    subst e
    rw [List.take_length] at c3
    refine .inl ⟨⟨_, SqL.of (c1 _ _ hq), by rw [List.length_map]; omega⟩, cs, c1, c2, ?_, c4, c5, c6⟩
    rw [take_snoc hr, List.flatMap_append, List.flatMap_cons, List.flatMap_nil, List.append_nil]
    exact c3
  have hz : zs[jj]? = some zs[jj] := List.getElem?_eq_getElem hlt2
  have hx2 : (zs.map V.int)[jj]? = some (.int zs[jj]) := by rw [List.getElem?_map, hz]; rfl
  refine .inr ⟨⟨_, _, SqL.of (c1 _ _ hq), hx2⟩, Inv (((rows.take i).flatMap fun r => zs.map (F r)) ++ (zs.take (jj + 1)).map (F r)), fun G' g' => ⟨zs.length - (jj + 1), by omega, rfl, hlt2, g'⟩, fun x G' y => ?_⟩
  obtain ⟨rfl, y⟩ := y
  have ex := y _ (SqL.of (c1 _ _ hq))
  rw [hx2] at ex
  cases ex
  refine ⟨hw1 _ _, ?_⟩
  rw [if_pos rfl]
  refine he as[i] r zs[jj] _ (List.mem_of_getElem? hr) (List.getElem_mem hlt2) (c1 _ _ hh) c1 _ (Ex.refl _) _ fun u G3 nu e3 hu => ?_
  have nuD : u ≠ D := fun z => by
    rw [z, c2] at nu
    cases nu
  have lc : cs.length ≤ 50000 := by
    rw [len c3, List.length_append, List.length_map, List.length_take, List.length_flatMap]
    have : ((rows.take i).map fun r => (zs.map (F r)).length).sum = i * zs.length := by
      have : ((rows.take i).map fun r => (zs.map (F r)).length) = List.replicate i zs.length := by
        rw [List.eq_replicate_iff]
        refine ⟨by rw [List.length_map, List.length_take]; omega, fun b hb => ?_⟩
        obtain ⟨r, _, rfl⟩ := List.mem_map.mp hb
        rw [List.length_map]
      rw [this, List.sum_replicate_nat]
    rw [this]
    have h3 : (i + 1) * zs.length ≤ rows.length * zs.length := Nat.mul_le_mul_right _ hlt
    rw [Nat.add_mul, Nat.one_mul] at h3
    omega
  refine ⟨_, e3 _ _ c2, by rw [List.length_map]; exact sz_lt (by omega), cs ++ [u], Ex.mut (c1.trans e3) hD, ?_, ?_, ?_, ?_, ?_⟩
  · rw [upd_same, List.map_append]
    rfl
  · rw [take_snoc hz, List.map_append, ← List.append_assoc]
    refine paired_snoc (rows_but c3 fun b hb o g => ?_) ?_
    · rw [upd_ne (fun z => c6 (by rw [← z]; exact hb))]
      exact e3 _ _ g
    · rw [upd_ne nuD]
      exact hu
  · intro b hb
    rcases List.mem_append.mp hb with h | h
    · exact c4 b h
    · rw [List.mem_singleton.mp h]
      exact fresh_back c1 nu
  · refine List.nodup_append.mpr ⟨c5, by simp, fun b hb c hc z => ?_⟩
    have : c = u := by simpa using hc
    have hb' : u ∈ cs := by rw [← this, ← z]; exact hb
    obtain ⟨x, _, hx'⟩ := paired_mem c3 hb'
    rw [nu] at hx'
    cases hx'
  · intro hb
    rcases List.mem_append.mp hb with h | h
    · exact c6 h
    · exact nuD (List.mem_singleton.mp h).symm
def sp_all_lists (K : PySem.W.Frag) : Sp := fun vs H Q _ => ∃ (p : Addr) (cs : List Addr) (choices : List (List Int)) (b : Nat), vs = [.ref p] ∧ Tab H p cs choices ∧ (∀ c ∈ choices, c.length ≤ b) ∧ 1 ≤ b ∧ b ^ choices.length ≤ 5000 ∧ b ≤ 10 ∧ choices.length ≤ 20 ∧
  ∀ q bs H', H q = none → (∀ a ∈ bs, H a = none) → bs.Nodup → q ∉ bs → Ex H H' → Tab H' q bs (Ls.allL choices) → Q (.ref q) H'

theorem ok_all_lists (T : Txt K mg) : FnOk P w K mg base CX0 1 T.f_all_lists T.fd_all_lists ["choices"] (sp_all_lists K) := by
  refine Fun.ok T.F_all_lists sc_all_lists (fun vs H Q E h => ?_) (fun cdv A outer s H vs Q E hr h => ?_)
  · obtain ⟨_, _, _, _, rfl, _⟩ := h; rfl
  · refine ⟨_, (pss_cut (ps_set (i := 1) sc_all_lists.nd rfl (by first | exact Or.inl rfl | exact Or.inr rfl) (pe_lst (pa_cons (pe_lst pa_nil) pa_nil)))
      (pss_cons (ps_for PassesOwn.never rfl (pi_list (pv 0)) (pg_name (i := 2) sc_all_lists.nd rfl (by first | exact Or.inl rfl | exact Or.inr rfl))
        (pss_one (ps_setLc2 (i := 1) (own := [("ahead", 3), ("one", 4)]) (vs1 := [4]) (wi := iList K _) (g := gName 3) (tt := tYes) (wi1 := iList K _) (g1 := gName 4) (tt1 := tYes) rfl sc_all_lists.nd rfl rfl (sw_true rfl rfl rfl (by decide +kernel)) (pi_list (pv 1)) (blkOk_by (N := ["choices", "told", "some", "ahead", "one"]) (sc := (defScope s_all_lists)) (by decide +kernel)) (by decide) (fun _ _ _ _ _ => pg_name (i := 3) sc_all_lists.nd rfl (Or.inl rfl)) (fun _ _ _ _ _ => pts_nil) (fun _ _ _ _ _ => (pi_list (pv 2))) (fun _ _ _ _ _ => pg_name (i := 4) sc_all_lists.nd rfl (Or.inl rfl)) (fun _ _ _ _ _ => pts_nil) (fun _ _ _ _ _ => (pe_op op_cat (pv 3) (pe_lst (pa_cons (pv 4) pa_nil)))))))
      (pss_one (ps_ret (pv 1))))), ?_⟩
    obtain ⟨p, cs, choices, b, rfl, hT, hc, b1, hb, b10, c20, k⟩ := h
    have cl : cs.length = choices.length := Paired.length hT.2
    refine ⟨fun σ' H' => ∃ (q : Addr) (bs : List Addr), σ' = [some (.ref p), some (.ref q), none, none, none] ∧ Ex H H' ∧ H q = none ∧ (∀ a ∈ bs, H a = none) ∧ bs.Nodup ∧ q ∉ bs ∧ Tab H' q bs [[]], ?_, ?_⟩
    · refine ⟨Nat.zero_le _, fun l nl => ⟨(by show 1 ≤ sizeLine; decide), fun t nt => ⟨t, [l], rfl, (Ex.new nl).trans (Ex.new nt), fresh_back (Ex.new nl) nt, fun a ha => by rw [List.mem_singleton.mp ha]; exact nl, by simp, fun z => ?_, upd_same, .cons (Ex.new nt _ _ upd_same) .nil⟩⟩⟩
      rw [List.mem_singleton.mp z, upd_same] at nt
      cases nt
    rintro σ' H1 ⟨q, bs, rfl, e1, nq, nbs, nd, qb, hq⟩
    refine q_forL (xs := cs.map V.ref) (ev_var (i := 0) rfl) (SqL.of (e1 _ _ hT.1)) (fun i σ' H' => ∃ (q : Addr) (bs : List Addr) (y2 : Option V), σ' = [some (.ref p), some (.ref q), y2, none, none] ∧ Ex H H' ∧ H q = none ∧ (∀ a ∈ bs, H a = none) ∧ bs.Nodup ∧ q ∉ bs ∧ Tab H' q bs (Ls.allL (choices.take i))) (fun H2 e2 => ⟨q, bs, _, rfl, e1.trans e2, nq, nbs, nd, qb, hq.ex e2⟩) (fun i σ' H' _ ⟨_, _, _, _, h, _⟩ => SqL.of (h _ _ hT.1)) (fun i x σ' H2 hx hP => ?_) (fun σ' H2 hP => ?_)
    · obtain ⟨q, bs, y2, rfl, e2, nq, nbs, nd, qb, hq⟩ := hP
      rw [List.getElem?_map] at hx
      obtain ⟨c, hc', rfl⟩ := Option.map_eq_some_iff.mp hx
      obtain ⟨zs, hz, hh⟩ := paired_get hT.2 hc'
      have hi := (List.getElem?_eq_some_iff.mp hz).1
      have l1 : (Ls.allL (choices.take i)).length ≤ 5000 := by
        have := Ls.allL_len (b := b) (cs := choices.take i) fun c h => hc c (List.mem_of_mem_take h)
        refine Nat.le_trans this (Nat.le_trans (Nat.pow_le_pow_right b1 ?_) hb)
        rw [List.length_take]
        omega
      show tAsg _ (gName 1) _ [some (.ref p), some (.ref q), some (.ref c), none, none] H2
      refine lc2_grow (K := K) (n1 := 1) (n2 := 2) (σ := [some (.ref p), some (.ref q), some (.ref c), none, none]) (vs := [3, 4]) (vs1 := [4]) (j := 3) (j1 := 4) (F := fun r z => r ++ [z]) rfl hq (fun u => rfl) (e2 _ _ hh) ?_ (fun u => rfl) (fun u v => rfl) (fun c r z H3 hr hz hc e3 => ?_) (fun D ds H3 nD nds ndd Dd e3 h3 => ⟨D, ds, _, rfl, e2.trans e3, fresh_back e2 nD, fun a ha => fresh_back e2 (nds a ha), ndd, Dd, ?_⟩)
      · have l2 := hc zs (List.mem_of_getElem? hz)
        exact Nat.le_trans (Nat.mul_le_mul l1 (Nat.le_trans l2 b10)) (by decide)
      · rw [List.map_append]
        refine el_catVL (ev_var rfl) hc (el_lst (vs := [.int z]) (ea_cons (ev_var rfl) ea_nil) (Nat.le_of_ble_eq_true rfl)) ?_
        have l3 := Paired.length (Ls.allL_each _ _ rfl r hr)
        rw [List.length_map, l3, List.length_take]
        show _ + 1 ≤ 100000
        omega
      · rw [take_snoc hz, Ls.allL_snoc]
        exact h3
    · obtain ⟨q, bs, y2, rfl, e2, nq, nbs, nd, qb, hq⟩ := hP
      rw [List.length_map, cl, List.take_length] at hq
      exact ⟨_, rfl, k q bs H2 nq nbs nd qb e2 hq⟩
-- DEF row_totals

theorem ev_sumL {K : PySem.W.Frag} {ta : TE} {σ : L2.St} {H : Hp} {ns : List Int} (h : EvL ta σ H (ns.map V.int)) : Ev (tCB (rSum K) (tCons ta tNil)) σ H (.int ns.sum) := fun H1 e Q q => h H1 e _ fun p H2 _ e2 hp => ⟨p, ns, rfl, SqL.of hp, q H2 e2⟩
theorem ev_allL {K : PySem.W.Frag} {ta : TE} {σ : L2.St} {H : Hp} {bs : List Bool} (h : EvL ta σ H (bs.map V.bl)) : Ev (tCB (rAll K) (tCons ta tNil)) σ H (.bl (bs.all id)) := fun H1 e Q q => h H1 e _ fun p H2 _ e2 hp => ⟨p, bs, rfl, SqL.of hp, q H2 e2⟩

def sp_row_totals (K : PySem.W.Frag) : Sp := fun vs H Q _ => ∃ (p q : Addr) (as : List Addr) (rows : List (List Int)) (zs : List Int), vs = [.ref p, .ref q] ∧ Tab H p as rows ∧ rows.length ≤ 8 ∧ (∀ r ∈ rows, r.length = zs.length ∧ ∀ y ∈ r, Bd 110 y) ∧ zs.length ≤ 8 ∧ H q = some (.lst (zs.map V.int)) ∧ (∀ z ∈ zs, Bd 110 z) ∧
  ∀ d H', H d = none → Ex H H' → H' d = some (.lst ((Ls.totals rows zs).map V.int)) → Q (.ref d) H'

theorem ok_row_totals (T : Txt K mg) : FnOk P w K mg base CX0 1 T.f_row_totals T.fd_row_totals ["table", "numbers"] (sp_row_totals K) := by
  refine Fun.ok T.F_row_totals sc_row_totals (fun vs H Q E h => ?_) (fun cdv A outer s H vs Q E hr h => ?_)
  · obtain ⟨_, _, _, _, _, rfl, _⟩ := h; rfl
  · refine ⟨_, (pss_one (ps_ret (pe_lc (own := [("row", 2)]) (wi := iList K _) (g := gName 2) (tt := tYes) rfl sc_row_totals.nd (pi_list (pv 0)) (blkOk_by (N := ["table", "numbers", "row", "entry", "number"]) (sc := (defScope s_row_totals)) (by decide +kernel)) (fun _ _ _ _ _ => pg_name (i := 2) sc_row_totals.nd rfl (Or.inl rfl)) (fun _ _ _ _ _ => pts_nil) (fun _ _ _ _ _ => (pe_callB (id := "sum") (r := rSum K) (cr_sum rfl) (by rfl) T.n_sum (by decide +kernel) (pa_cons (pe_lc (own := [("entry", 3), ("number", 4)]) (wi := iZip K _) (g := gTup K 2 (gCons (gName 3) (gCons (gName 4) gNil))) (tt := tYes) rfl sc_row_totals.nd (pi_zip (by rfl) T.n_zip (pa_cons (pv 2) (pa_cons (pv 1) pa_nil))) (blkOk_by (N := ["table", "numbers", "row", "entry", "number"]) (sc := (relS ({ kind := .function, names := [(".0", .local), ("row", .local), ("sum", .globalImplicit), ("zip", .globalImplicit), ("numbers", .free)], isGenerator := false, isCoroutine := false } : Scope) (defScope s_row_totals))) (by decide +kernel)) (fun _ _ _ _ _ => (pg_tup rfl (pgs_cons (pg_name (i := 3) sc_row_totals.nd rfl (Or.inl rfl)) (pgs_cons (pg_name (i := 4) sc_row_totals.nd rfl (Or.inl rfl)) pgs_nil)))) (fun _ _ _ _ _ => pts_nil) (fun _ _ _ _ _ => (pe_op op_mulW (pv 3) (pv 4)))) pa_nil)))))), ?_⟩
    obtain ⟨p, q, as, rows, zs, rfl, hT, m8, hr, z8, hq, hz, k⟩ := h
    refine s_retL (el_col (K := K) (n := 0) (f := fun r => Ls.dot r zs) rfl hT.1 hT.2 (by omega) (fun u => rfl) fun b r H1 hr' hb e1 => ?_) fun d H1 nd e1 hd => k d H1 nd e1 hd
    refine ev_sumL (el_zip (K := K) (f := (· * ·)) (ea_cons (ev_var rfl) (ea_cons (ev_var rfl) ea_nil)) (SqL.of (e1 _ _ hb)) (SqL.of (e1 _ _ hq)) (hr r hr').1 (by have := (hr r hr').1; omega) (fun u v => rfl) fun x y H2 hx hy e2 => ?_)
    exact ev_op (ev_var rfl) (ev_var rfl) (rv_I (((hr r hr').2 x hx).mulOk (hz y hy)))
-- DEF _law_source_of

def sp__law_source_of (K : PySem.W.Frag) : Sp := fun vs H Q _ => ∃ c : Int, vs = [.int c] ∧ ∀ (s : Addr) (H' : Hp), H s = none → Ex H H' → SrcAt H' s 0 → Q (.ref s) H'

theorem ok__law_source_of (T : Txt K mg) : FnOk P w K mg base CX0 1 T.f__law_source_of T.fd__law_source_of ["_law_cell"] (sp__law_source_of K) := by
  refine Fun.ok T.F__law_source_of sc__law_source_of (fun vs H Q E h => ?_) (fun cdv A outer s H vs Q E hr h => ?_)
  · obtain ⟨_, rfl, _⟩ := h; rfl
  · refine ⟨_, (pss_one (ps_ret (pe_lst (pa_cons (pe_op op_mul (pv 0) (pe_callTy (T := "int") call_int1 (by rfl) T.n_int (by decide +kernel) (pa_cons (pe_cmpR op_ge (pv 0) (pe_op op_pow pe_int pe_int) (nomark _)) pa_nil))) (pa_cons (pe_op op_mod (pv 0) pe_int) (pa_cons pe_int pa_nil)))))), ?_⟩
    obtain ⟨c, rfl, k⟩ := h
    refine ⟨_, rfl, _, rfl, _, _, rfl, rfl, ⟨by decide, by decide, by decide⟩, _, _, rfl, rfl, .inr ⟨_, rfl, _, _, rfl, rfl, .inr ?_, ?_⟩⟩
    · split <;> exact ⟨by decide, by decide⟩
    refine ⟨_, rfl, _, _, rfl, rfl, (by show (0 : Int) < 2147483647; decide), (by show 3 ≤ sizeLine; decide), fun s hs => ?_⟩
    exact k s _ hs (Ex.new hs) ⟨_, _, _, upd_same, Int.emod_nonneg _ (by decide), Int.emod_lt_of_pos _ (by decide), Int.le_refl _, Int.le_refl _⟩
-- DEF _law_next

def sp__law_next (K : PySem.W.Frag) : Sp := fun vs H Q _ => ∃ (s : Addr) (m n : Int), vs = [.ref s, .int m] ∧ SrcAt H s n ∧ n ≤ 1000000000 ∧ 0 < m ∧ Bd 8000 m ∧
  ∀ (f : Int) (H' : Hp), 0 ≤ f → f < m → ExB s H H' → SrcAt H' s (n + 1) → Q (.int f) H'

theorem ok__law_next (T : Txt K mg) : FnOk P w K mg base CX0 1 T.f__law_next T.fd__law_next ["_law_source", "_law_many"] (sp__law_next K) := by
  refine Fun.ok T.F__law_next sc__law_next (fun vs H Q E h => ?_) (fun cdv A outer s H vs Q E hr h => ?_)
  · obtain ⟨_, _, _, rfl, _⟩ := h; rfl
  · refine ⟨_, (pss_cons (ps_if (pt_cmpR op_gt (pe_ix (r := rIxL K) ix_list (pv 0) pe_int (fun _ _ => rfl)) pe_int (nomark _))
        (pss_cons (ps_set (i := 2) sc__law_next.nd rfl (by first | exact Or.inl rfl | exact Or.inr rfl) (pe_op op_mod (pe_ix (r := rIxL K) ix_list (pv 0) pe_int (fun _ _ => rfl)) (pv 1)))
          (pss_cons (ps_asg (pe_op op_fdivW (pe_ix (r := rIxL K) ix_list (pv 0) pe_int (fun _ _ => rfl)) (pv 1)) (pg_sub (pv 0) pe_int set_list))
          (pss_one (ps_ret (pv 2)))))
        pss_nil)
      (pss_cons (ps_asg (pe_op op_add (pe_ix (r := rIxL K) ix_list (pv 0) pe_int (fun _ _ => rfl)) pe_int) (pg_sub (pv 0) pe_int set_list))
      (pss_cons (ps_set (i := 3) sc__law_next.nd rfl (by first | exact Or.inl rfl | exact Or.inr rfl) (pe_ix (r := rIxL K) ix_list (pe_lst (pa_cons pe_int (pa_cons pe_int (pa_cons pe_int (pa_cons pe_int (pa_cons pe_int (pa_cons pe_int (pa_cons pe_int pa_nil)))))))) (pe_op op_mod (pe_ix (r := rIxL K) ix_list (pv 0) pe_int (fun _ _ => rfl)) pe_int) (fun _ _ => rfl)))
      (pss_cons (ps_set (i := 4) sc__law_next.nd rfl (by first | exact Or.inl rfl | exact Or.inr rfl) (pe_op op_mod (pe_op op_pow (pe_op op_add (pe_op op_add (pe_ix (r := rIxL K) ix_list (pv 0) pe_int (fun _ _ => rfl)) (pe_op op_mul pe_int (pe_ix (r := rIxL K) ix_list (pv 0) pe_int (fun _ _ => rfl)))) pe_int) pe_int) (pv 3)))
      (pss_cons (ps_set (i := 4) sc__law_next.nd rfl (by first | exact Or.inl rfl | exact Or.inr rfl) (pe_op op_mod (pe_op op_mul (pe_op op_add (pv 4) (pe_ix (r := rIxL K) ix_list (pv 0) pe_int (fun _ _ => rfl))) (pe_op op_add (pe_op op_fdiv (pv 4) pe_int) pe_int)) (pv 3)))
      (pss_one (ps_ret (pe_op op_mod (pe_op op_fdiv (pv 4) pe_int) (pv 1))))))))), ?_⟩
    obtain ⟨s, m, n, rfl, ⟨p, u, r, hs, hu0, hu1, hr0, hr1⟩, hn, hm, bm, k⟩ := h
    refine ⟨_, rfl, s, _, _, _, rfl, rfl, SqL.of hs, rfl, _, _, rfl, rfl, _, rfl, ?_⟩
    refine ite2 (fun hp => ?_) (fun _ => ?_)
    · refine ⟨_, rfl, s, _, _, _, rfl, rfl, SqL.of hs, rfl, _, rfl, _, _, rfl, rfl, hm, ?_⟩
      refine ⟨_, rfl, s, _, _, _, rfl, rfl, SqL.of hs, rfl, _, rfl, _, _, rfl, rfl, Bd.divOk hm (bm.mono (by decide : 8000 ≤ 9000)), ?_⟩
      refine ⟨_, rfl, s, _, _, 0, rfl, rfl, hs, rfl, ?_⟩
      refine ⟨_, rfl, ?_⟩
      exact k _ _ (Int.emod_nonneg _ (by omega)) (Int.emod_lt_of_pos _ hm) (ExB.upd _ _ _) ⟨_, _, _, upd_same, hu0, hu1, hr0, by omega⟩
    · refine ⟨_, rfl, s, _, _, _, rfl, rfl, SqL.of hs, rfl, _, _, rfl, rfl, ?_⟩
      refine ⟨_, rfl, s, _, _, 2, rfl, rfl, hs, rfl, ?_⟩
      have hs2 : upd H s (.lst [.int p, .int u, .int (r + 1)]) s = some (.lst [.int p, .int u, .int (r + 1)]) := upd_same
      show tSeq _ _ _ _ (upd H s (.lst [.int p, .int u, .int (r + 1)]))
      generalize hH : upd H s (.lst [.int p, .int u, .int (r + 1)]) = H2 at hs2 ⊢
      refine ⟨(by show 7 ≤ sizeLine; decide), fun l hl => ?_⟩
      have nls : s ≠ l := ne_of_none hs2 hl
      have hs3 : upd H2 l (.lst [V.int 2147483647, V.int 2147483629, V.int 2147483587, V.int 2147483579, V.int 2147483563, V.int 2147483549, V.int 2147483543]) s = some (.lst [.int p, .int u, .int (r + 1)]) := by
        rw [upd_ne nls]
        exact hs2
      obtain ⟨pr, hpr, hp0, hp1⟩ := prime_at (r + 1) (by omega)
      refine ⟨_, rfl, s, _, _, _, rfl, rfl, SqL.of hs3, rfl, _, _, rfl, rfl, (by show (0 : Int) < 7; decide), l, _, _, _, rfl, rfl, SqL.of upd_same, hpr, ?_⟩
      have eH : ExB s H2 (upd H2 l (.lst [V.int 2147483647, V.int 2147483629, V.int 2147483587, V.int 2147483579, V.int 2147483563, V.int 2147483549, V.int 2147483543])) := ExB.of (Ex.new hl)
      generalize upd H2 l (.lst [V.int 2147483647, V.int 2147483629, V.int 2147483587, V.int 2147483579, V.int 2147483563, V.int 2147483549, V.int 2147483543]) = H3 at hs3 eH ⊢
      -- figure
      refine ⟨_, rfl, s, _, _, _, rfl, rfl, SqL.of hs3, rfl, _, rfl, s, _, _, _, rfl, rfl, SqL.of hs3, rfl, _, _, rfl, rfl, .inl ⟨by decide, by decide⟩, _, _, rfl, rfl, _, _, rfl, rfl, _, _, rfl, rfl, ⟨by decide, by decide, ?_⟩, ?_⟩
      · show (u + 7919 * (r + 1) + 1).natAbs < 2 ^ 64
        omega
      refine ⟨_, rfl, _, _, rfl, rfl, hp0, ?_⟩
      have f0 : 0 ≤ (u + 7919 * (r + 1) + 1) ^ (5 : Int).toNat % pr := Int.emod_nonneg _ (by omega)
      have f1 : (u + 7919 * (r + 1) + 1) ^ (5 : Int).toNat % pr < pr := Int.emod_lt_of_pos _ hp0
      show tSeq _ _ _ [some (.ref s), some (.int m), _, some (.int pr), some (.int ((u + 7919 * (r + 1) + 1) ^ (5 : Int).toNat % pr))] _
      generalize (u + 7919 * (r + 1) + 1) ^ (5 : Int).toNat % pr = f at f0 f1 ⊢
      refine ⟨_, rfl, _, rfl, s, _, _, _, rfl, rfl, SqL.of hs3, rfl, _, _, rfl, rfl, ?_⟩
      refine ⟨_, rfl, _, _, rfl, rfl, ⟨by decide, by decide⟩, _, _, rfl, rfl, _, _, rfl, rfl, .inl ?_, ?_⟩
      · constructor <;> omega
      refine ⟨_, rfl, _, _, rfl, rfl, hp0, ?_⟩
      refine ⟨_, rfl, _, _, rfl, rfl, ⟨by decide, by decide⟩, _, rfl, _, _, rfl, rfl, hm, ?_⟩
      refine k _ _ (Int.emod_nonneg _ (by omega)) (Int.emod_lt_of_pos _ hm) (ExB.trans ?_ eH) ⟨_, _, _, hs3, hu0, hu1, by omega, by omega⟩
      rw [← hH]
      exact ExB.upd _ _ _
-- DEF _law_cell_at

def sp__law_cell_at (K : PySem.W.Frag) : Sp := fun vs H Q _ => ∃ (a : Addr) (ns : List Int) (k : Int), vs = [.ref a, .int k] ∧ SqL K H a (ns.map V.int) ∧ 0 ≤ k ∧ ∀ c : Int, Q (.int c) H

theorem ok__law_cell_at (T : Txt K mg) : FnOk P w K mg base CX0 1 T.f__law_cell_at T.fd__law_cell_at ["_law_script", "_law_k"] (sp__law_cell_at K) := by
  refine Fun.ok T.F__law_cell_at sc__law_cell_at (fun vs H Q E h => ?_) (fun cdv A outer s H vs Q E hr h => ?_)
  · obtain ⟨_, _, _, rfl, _⟩ := h; rfl
  · refine ⟨_, (pss_cons (ps_if (pt_cmpR op_lt (pv 1) (pe_callB (id := "len") (r := rLenS K) call_len_seq (by rfl) T.n_len PySem.boot_len (pa_cons (pv 0) pa_nil)) (nomark _))
        (pss_one (ps_ret (pe_ix (r := rIxL K) ix_list (pv 0) (pv 1) (fun _ _ => rfl))))
        pss_nil)
      (pss_one (ps_ret pe_int))), ?_⟩
    obtain ⟨a, ns, k, rfl, hS, hk, q⟩ := h
    refine ⟨_, rfl, _, rfl, a, _, rfl, .inl hS, _, _, rfl, rfl, _, rfl, ?_⟩
    refine ite2 (fun hp => ?_) (fun _ => q 0)
    have hlt : k < ((ns.map V.int).length : Int) := of_decide_eq_true hp
    rw [List.length_map] at hlt
    have hn : k.toNat < ns.length := by omega
    have g : (ns.map V.int)[k.toNat]? = some (.int ns[k.toNat]) := by
      rw [List.getElem?_map, List.getElem?_eq_getElem hn]
      rfl
    refine ⟨_, rfl, _, rfl, a, _, k, _, rfl, rfl, hS, at_of (j := k.toNat) (by omega) g, ?_⟩
    exact q _
-- DEF _law_net

def sp__law_net (K : PySem.W.Frag) : Sp := fun vs H Q _ => ∃ (pE pA : Addr) (as bs : List Addr) (es qs : List (Int × Int)) (m : Nat), vs = [.ref pE, .ref pA] ∧ es.length = m ∧ 1 ≤ m ∧ m ≤ 8 ∧ H pE = some (.lst (as.map V.ref)) ∧ EdgesAt H as es ∧ H pA = some (.lst (bs.map V.ref)) ∧ EdgesAt H bs qs ∧ qs.length ≤ 8 ∧
  (∀ e ∈ es, 0 ≤ e.1 ∧ e.1 ≤ m ∧ 0 ≤ e.2 ∧ e.2 ≤ m) ∧ (∀ e ∈ qs, 0 ≤ e.1 ∧ e.1 ≤ m ∧ 0 ≤ e.2 ∧ e.2 ≤ m) ∧ Conn es m ∧
  ∀ (rs : List Addr) (rows : List (List Int)) (p : Addr) (H' : Hp), H p = none → (∀ a ∈ rs, H a = none) → rs.Nodup → p ∉ rs → Ex H H' → Tab H' p rs rows → rows.length = m → (∀ r ∈ rows, r.length = qs.length ∧ ∀ y ∈ r, y.natAbs ≤ 100) → Q (.ref p) H'

theorem ok__law_net (T : Txt K mg) : FnOk P w K mg base CX0 1 T.f__law_net T.fd__law_net ["_law_ends_here", "_law_arcs"] (sp__law_net K) := by
  refine Fun.ok T.F__law_net sc__law_net (fun vs H Q E h => ?_) (fun cdv A outer s H vs Q E hr h => ?_)
  · obtain ⟨_, _, _, _, _, _, _, rfl, _⟩ := h; rfl
  · refine ⟨_, (pss_cons (ps_set (i := 2) sc__law_net.nd rfl (by first | exact Or.inl rfl | exact Or.inr rfl) (pe_disp (pps_cons (pe_ix (r := rIxT K) ix_tup (pe_ix (r := rIxL K) ix_list (pv 0) pe_int (fun _ _ => rfl)) pe_int (fun _ _ => rfl)) (pe_op op_rep (pe_lst (pa_cons pe_int pa_nil)) (pe_callB (id := "len") (r := rLenS K) call_len_seq (by rfl) T.n_len PySem.boot_len (pa_cons (pv 0) pa_nil))) pps_nil) (by rfl) (by rfl) (fun z => by cases z) (by decide)))
      (pss_cons (ps_while PassesOwn.never (pt_cmpR op_le (pe_callB (id := "len") call_lenD (by rfl) T.n_len PySem.boot_len (pa_cons (pv 2) pa_nil)) (pe_callB (id := "len") (r := rLenS K) call_len_seq (by rfl) T.n_len PySem.boot_len (pa_cons (pv 0) pa_nil)) (nomark _))
        (pss_one (ps_for PassesOwn.never rfl (pi_enum (by rfl) T.n_enumerate (pa_cons (pv 0) pa_nil)) (pg_tup rfl (pgs_cons (pg_name (i := 3) sc__law_net.nd rfl (by first | exact Or.inl rfl | exact Or.inr rfl)) (pgs_cons (pg_tup rfl (pgs_cons (pg_name (i := 4) sc__law_net.nd rfl (by first | exact Or.inl rfl | exact Or.inr rfl)) (pgs_cons (pg_name (i := 5) sc__law_net.nd rfl (by first | exact Or.inl rfl | exact Or.inr rfl)) pgs_nil))) pgs_nil)))
            (pss_cons (ps_setLc (i := 6) (own := [("_law_other", 7)]) (g := gName 7) (tt := tYes) rfl sc__law_net.nd rfl rfl (sw_true rfl rfl rfl (by decide +kernel)) (pi_range1 (by rfl) T.n_range (pa_cons (pe_callB (id := "len") (r := rLenS K) call_len_seq (by rfl) T.n_len PySem.boot_len (pa_cons (pv 0) pa_nil)) pa_nil)) (blkOk_by (N := ["_law_ends_here", "_law_arcs", "_law_far", "_law_k", "_law_begin", "_law_goal", "_law_step", "_law_other", "_law_a", "_law_b"]) (sc := (defScope s__law_net)) (by decide +kernel)) (fun _ _ _ _ _ => pg_name (i := 7) sc__law_net.nd rfl (Or.inl rfl)) (fun _ _ _ _ _ => pts_nil) (fun _ _ _ _ _ => (pe_callTy (T := "int") call_int1 (by rfl) T.n_int (by decide +kernel) (pa_cons (pe_cmpR op_eq (pv 3) (pv 7) (nomark _)) pa_nil))))
              (pss_one (ps_if (PW.pt (pw_and (pt_cmp (pc_din (hu_of hr) (pv 4) (pv 2))) (pw_and1 (pt_cmp (pc_dnotin (hu_of hr) (pv 5) (pv 2))))))
                (pss_one (ps_dput (hu_of hr) (pv 2) (pv 5) (pe_lc (own := [("_law_a", 8), ("_law_b", 9)]) (wi := iZip K _) (g := gTup K 2 (gCons (gName 8) (gCons (gName 9) gNil))) (tt := tYes) rfl sc__law_net.nd (pi_zip (by rfl) T.n_zip (pa_cons (pe_dget (hu_of hr) (pv 2) (pv 4) (fun _ _ => rfl)) (pa_cons (pv 6) pa_nil))) (blkOk_by (N := ["_law_ends_here", "_law_arcs", "_law_far", "_law_k", "_law_begin", "_law_goal", "_law_step", "_law_other", "_law_a", "_law_b"]) (sc := (defScope s__law_net)) (by decide +kernel)) (fun _ _ _ _ _ => (pg_tup rfl (pgs_cons (pg_name (i := 8) sc__law_net.nd rfl (Or.inl rfl)) (pgs_cons (pg_name (i := 9) sc__law_net.nd rfl (Or.inl rfl)) pgs_nil)))) (fun _ _ _ _ _ => pts_nil) (fun _ _ _ _ _ => (pe_op op_add (pv 8) (pv 9)))) rfl))
                (pss_one (ps_if (PW.pt (pw_and (pt_cmp (pc_din (hu_of hr) (pv 5) (pv 2))) (pw_and1 (pt_cmp (pc_dnotin (hu_of hr) (pv 4) (pv 2))))))
                    (pss_one (ps_dput (hu_of hr) (pv 2) (pv 4) (pe_lc (own := [("_law_a", 8), ("_law_b", 9)]) (wi := iZip K _) (g := gTup K 2 (gCons (gName 8) (gCons (gName 9) gNil))) (tt := tYes) rfl sc__law_net.nd (pi_zip (by rfl) T.n_zip (pa_cons (pe_dget (hu_of hr) (pv 2) (pv 5) (fun _ _ => rfl)) (pa_cons (pv 6) pa_nil))) (blkOk_by (N := ["_law_ends_here", "_law_arcs", "_law_far", "_law_k", "_law_begin", "_law_goal", "_law_step", "_law_other", "_law_a", "_law_b"]) (sc := (defScope s__law_net)) (by decide +kernel)) (fun _ _ _ _ _ => (pg_tup rfl (pgs_cons (pg_name (i := 8) sc__law_net.nd rfl (Or.inl rfl)) (pgs_cons (pg_name (i := 9) sc__law_net.nd rfl (Or.inl rfl)) pgs_nil)))) (fun _ _ _ _ _ => pts_nil) (fun _ _ _ _ _ => (pe_op op_sub (pv 8) (pv 9)))) rfl))
                    pss_nil))))))))
      (pss_one (ps_ret (pe_lc (own := [("_law_k", 3)]) (g := gName 3) (tt := tYes) rfl sc__law_net.nd (pi_range1 (by rfl) T.n_range (pa_cons (pe_callB (id := "len") (r := rLenS K) call_len_seq (by rfl) T.n_len PySem.boot_len (pa_cons (pv 0) pa_nil)) pa_nil)) (blkOk_by (N := ["_law_ends_here", "_law_arcs", "_law_far", "_law_k", "_law_begin", "_law_goal", "_law_step", "_law_other", "_law_a", "_law_b"]) (sc := (defScope s__law_net)) (by decide +kernel)) (fun _ _ _ _ _ => pg_name (i := 3) sc__law_net.nd rfl (Or.inr rfl)) (fun _ _ _ _ _ => pts_nil) (fun _ _ _ _ _ => (pe_lc (own := [("_law_begin", 4), ("_law_goal", 5)]) (wi := iList K _) (g := gTup K 2 (gCons (gName 4) (gCons (gName 5) gNil))) (tt := tYes) rfl sc__law_net.nd (pi_list (pv 1)) (blkOk_by (N := ["_law_ends_here", "_law_arcs", "_law_far", "_law_k", "_law_begin", "_law_goal", "_law_step", "_law_other", "_law_a", "_law_b"]) (sc := (relS ({ kind := .function, names := [(".0", .local), ("_law_k", .cell), ("_law_arcs", .free), ("_law_far", .free)], isGenerator := false, isCoroutine := false } : Scope) (defScope s__law_net))) (by decide +kernel)) (fun _ _ _ _ _ => (pg_tup rfl (pgs_cons (pg_name (i := 4) sc__law_net.nd rfl (Or.inl rfl)) (pgs_cons (pg_name (i := 5) sc__law_net.nd rfl (Or.inl rfl)) pgs_nil)))) (fun _ _ _ _ _ => pts_nil) (fun _ _ _ _ _ => (pe_op op_sub (pe_ix (r := rIxL K) ix_list (pe_dget (hu_of hr) (pv 2) (pv 5) (fun _ _ => rfl)) (pv 3) (fun _ _ => rfl)) (pe_ix (r := rIxL K) ix_list (pe_dget (hu_of hr) (pv 2) (pv 4) (fun _ _ => rfl)) (pv 3) (fun _ _ => rfl))))))))))), ?_⟩
    obtain ⟨pE, pA, as, bs, es, qs, m, rfl, hes, hm1, hm8, hE, hEE, hA, hAE, hq8, he0, hq0, hC, k⟩ := h
    have hal : as.length = m := by rw [Paired.length hEE, hes]
    -- far
    obtain ⟨a0, as', rfl⟩ : ∃ a0 as', as = a0 :: as' := by
      cases as with
      | nil => simp at hal; omega
      | cons a r => exact ⟨a, r, rfl⟩
    obtain ⟨e0, es', rfl, h00⟩ : ∃ e0 es', es = e0 :: es' ∧ H a0 = some (.tup [.int e0.1, .int e0.2]) := by
      cases hEE with
      | cons g t => exact ⟨_, _, rfl, g⟩
    have hE0 := he0 e0 (List.mem_cons_self ..)
    refine fun d nd => ?_
    have x0 : Ex H (upd H d (.dK [])) := Ex.new nd
    refine ⟨_, rfl, pE, _, 0, _, rfl, rfl, SqL.of (x0 _ _ hE), atI_nat (j := 0) rfl, a0, _, 0, _, rfl, rfl, SqT.of (x0 _ _ h00), rfl, ?_⟩
    refine ⟨Nat.le_of_ble_eq_true rfl, fun z1 nz1 => ?_⟩
    have x1 : Ex (upd H d (.dK [])) (upd (upd H d (.dK [])) z1 (.lst [.int 0])) := Ex.new nz1
    refine ⟨_, rfl, pE, _, rfl, .inl (SqL.of ((x0.trans x1) _ _ hE)), z1, _, _, rfl, rfl, upd_same, ?_, ?_, ?_, fun z2 nz2 => ?_⟩
    · rw [List.length_map, hal]; omega
    · rw [List.length_map, hal]; omega
    · rw [List.length_map, hal]
      exact sz_of (by simp; omega)
    have zz : (List.replicate (((a0 :: as').map V.ref).length : Int).toNat [V.int 0]).flatten = (List.replicate m 0).map V.int := by
      rw [List.length_map, hal, Int.toNat_natCast]
      exact rep_flat m
    rw [zz]
    have x2 : Ex (upd (upd H d (.dK [])) z1 (.lst [.int 0])) (upd (upd (upd H d (.dK [])) z1 (.lst [.int 0])) z2 (.lst ((List.replicate m 0).map V.int))) := Ex.new nz2
    have hd2 := (x1.trans x2) _ _ (upd_same (H := H) (a := d) (o := .dK []))
    refine ⟨hd2, [(Sum.inl e0.1, .ref z2)], rfl, Nat.le_of_ble_eq_true rfl, ?_⟩
    have xa := (x0.trans x1).trans x2
    have hz2 : upd (upd (upd H d (.dK [])) z1 (.lst [.int 0])) z2 (.lst ((List.replicate m 0).map V.int)) z2 = some (.lst ((List.replicate m 0).map V.int)) := upd_same
    generalize upd (upd (upd H d (.dK [])) z1 (.lst [.int 0])) z2 (.lst ((List.replicate m 0).map V.int)) = H2 at hd2 xa hz2 ⊢
    clear x0 x1 x2 nz1 nz2 zz
    have z2d : z2 ≠ d := ne_of hz2 hd2 (by intro z; cases z)
    have F0 : FarOk (upd H2 d (.dK (mergeK [] [(Sum.inl e0.1, .ref z2)]))) d m [(Sum.inl e0.1, .ref z2)] [e0.1] := by
      refine ⟨upd_same, rfl, by simp, fun x hx => ?_, fun x v hv => ?_⟩
      · have : x = e0.1 := by simpa using hx
        rw [this]
        exact ⟨hE0.1, hE0.2.1⟩
      · have hx : x = e0.1 ∧ v = .ref z2 := by
          by_cases h : (Sum.inl e0.1 : Key) = Sum.inl x
          · rw [valV_pos (p := (Sum.inl e0.1, V.ref z2)) h] at hv
            exact ⟨(Sum.inl.inj h).symm, (Option.some.inj hv).symm⟩
          · have : valV [((Sum.inl e0.1 : Key), V.ref z2)] (Sum.inl x : Key) = none := by simp [valV, List.find?_cons, h]
            rw [this] at hv
            cases hv
        obtain ⟨_, rfl⟩ := hx
        refine ⟨z2, List.replicate m 0, rfl, ?_, List.length_replicate, fun y hy => ?_⟩
        · rw [upd_ne z2d]
          exact hz2
        · rw [List.eq_of_mem_replicate hy]
          exact Nat.zero_le _
    have XB : ExB d H (upd H2 d (.dK (mergeK [] [(Sum.inl e0.1, .ref z2)]))) := Ex.updB xa
    have ndl : ∀ {b : Addr} {o : HO}, H b = some o → b ≠ d := fun g => ne_of_none g nd
    generalize upd H2 d (.dK (mergeK [] [(Sum.inl e0.1, .ref z2)])) = H3 at F0 XB
    clear hz2 hd2 xa
    -- the loop
    refine ⟨fun μ σ H' => ∃ (y3 y4 y5 y6 y7 y8 y9 : Option V) (kvs : List (Key × V)) (L : List Int), σ = [some (.ref pE), some (.ref pA), some (.ref d), y3, y4, y5, y6, y7, y8, y9] ∧ μ = m + 1 - L.length ∧ ExB d H H' ∧ FarOk H' d m kvs L ∧ 1 ≤ L.length,
      ⟨m, _, _, _, _, _, _, _, _, _, rfl, rfl, XB, F0, Nat.le_refl 1⟩, ?_⟩
    rintro μ σ H4 ⟨y3, y4, y5, y6, y7, y8, y9, kvs, L, rfl, rfl, e4, F4, hL1⟩
    refine ⟨_, rfl, d, kvs, rfl, F4.at_, _, rfl, pE, _, rfl, .inl (SqL.of (e4 _ _ (ndl hE) hE)), _, _, rfl, rfl, _, rfl, ?_⟩
    rw [F4.len, List.length_map, hal]
    refine ite2 (fun hc => ?_) (fun hc => ?_)
    · have hLm : L.length ≤ m := by have := of_decide_eq_true hc; omega
      refine ⟨fun σ' H' => ∃ (y3 y4 y5 y6 y7 y8 y9 : Option V) (kvs' : List (Key × V)) (L' : List Int), σ' = [some (.ref pE), some (.ref pA), some (.ref d), y3, y4, y5, y6, y7, y8, y9] ∧ L.length < L'.length ∧ ExB d H H' ∧ FarOk H' d m kvs' L',
        fun σ' H' ⟨z3, z4, z5, z6, z7, z8, z9, kvs', L', a1, a2, a3, a4⟩ => ⟨m + 1 - L'.length, by omega, z3, z4, z5, z6, z7, z8, z9, kvs', L', a1, rfl, a3, a4, by omega⟩, ?_⟩
      refine ⟨_, rfl, pE, _, rfl, SqL.of (e4 _ _ (ndl hE) hE), for_enum (xs := (a0 :: as').map V.ref) (fun i σ' H' => ∃ (y3 y4 y5 y6 y7 y8 y9 : Option V) (kvs' : List (Key × V)) (L' : List Int), σ' = [some (.ref pE), some (.ref pA), some (.ref d), y3, y4, y5, y6, y7, y8, y9] ∧ ExB d H H' ∧ FarOk H' d m kvs' L' ∧
        (L.length < L'.length ∨ (L' = L ∧ ∀ j, j < i → ∀ e, (e0 :: es')[j]? = some e → (e.1 ∈ L ↔ e.2 ∈ L)))) ?_ (fun i σ' H' ⟨_, _, _, _, _, _, _, _, _, _, x, _, _⟩ => SqL.of (x _ _ (ndl hE) hE)) ?_ ?_⟩
      · exact ⟨_, _, _, _, _, _, _, _, _, rfl, e4, F4, .inr ⟨rfl, fun j hj => absurd hj (Nat.not_lt_zero _)⟩⟩
      · rintro i x T σ' H5 hi ⟨z3, z4, z5, z6, z7, z8, z9, kvs', L', rfl, e5, F5, hor⟩ nT
        rw [List.getElem?_map] at hi
        obtain ⟨ai, hai, rfl⟩ := Option.map_eq_some_iff.mp hi
        obtain ⟨ei, hei, hti⟩ := paired_get hEE hai
        have xT : Ex H5 (upd H5 T (.tup [.int (i : Nat), .ref ai])) := Ex.new nT
        have mi := he0 ei (List.mem_of_getElem? hei)
        refine ⟨T, _, rfl, SqT.of upd_same, rfl, _, _, rfl, _, _, rfl, ⟨ai, _, rfl, SqT.of (xT _ _ (e5 _ _ (ndl hti) hti)), rfl, _, _, rfl, _, _, rfl, rfl, rfl, ?_⟩⟩
        have F6 := F5.ex xT
        have e6 : ExB d H (upd H5 T (.tup [.int (i : Nat), .ref ai])) := e5.trans (ExB.of xT)
        generalize upd H5 T (.tup [.int (i : Nat), .ref ai]) = H6 at F6 e6 ⊢
        -- step
        have Est : EvL (tLc (iRng1 (tCons (tCB (rLenS K) (tCons (tVar 0) tNil)) tNil)) (gName 7) tYes (tCB (fun xs H Q => (∃ i, xs = [V.int i] ∧ Q (V.int i) H) ∨ ∃ k, xs = [V.bl k] ∧ Q (V.int (if k = true then 1 else 0)) H) (tCons (tOp rEq (tVar 3) (tVar 7)) tNil)) [7])
            [some (.ref pE), some (.ref pA), some (.ref d), some (.int (i : Nat)), some (.int ei.1), some (.int ei.2), z6, z7, z8, z9] H6 (((List.range m).map fun o => if decide (V.int (i : Nat) = V.int (o : Nat)) = true then (1 : Int) else 0).map V.int) := by
          have g := el_lcR1 (t := tYes) (te := tCB (fun xs H Q => (∃ i, xs = [V.int i] ∧ Q (V.int i) H) ∨ ∃ k, xs = [V.bl k] ∧ Q (V.int (if k = true then 1 else 0)) H) (tCons (tOp rEq (tVar 3) (tVar 7)) tNil)) (j := 7) (vs := [7]) (σ := [some (.ref pE), some (.ref pA), some (.ref d), some (.int (i : Nat)), some (.int ei.1), some (.int ei.2), z6, z7, z8, z9]) (H := H6) (n := (m : Int)) (ta := tCons (tCB (rLenS K) (tCons (tVar 0) tNil)) tNil)
            (fun _ => true) (fun o => .int (if decide (V.int (i : Nat) = V.int (o : Nat)) = true then 1 else 0)) (ea_cons (ev_is (ev_len (ev_var rfl) (SqL.of (e6 _ _ (ndl hE) hE))) (by rw [List.length_map, hal])) ea_nil) (by omega) (fun x => rfl) (fun o H1 e ho Hx ex Qx qx => qx Hx (Ex.refl _)) (fun o H1 e ho hf H2 e2 Q2 q2 => ⟨_, rfl, _, rfl, rfl, .inr ⟨_, rfl, q2 H2 (Ex.refl _)⟩⟩)
          have eg : given (m : Int).toNat (fun _ => true) (fun o => V.int (if decide (V.int (i : Nat) = V.int (o : Nat)) = true then 1 else 0)) = ((List.range m).map fun o => if decide (V.int (i : Nat) = V.int (o : Nat)) = true then (1 : Int) else 0).map V.int := by
            unfold given
            rw [Int.toNat_natCast, List.filter_eq_self.mpr (fun _ _ => rfl), List.map_map]
            rfl
          rw [eg] at g
          exact g
        refine q_asgL Est fun st H7 _ e7 hst => ?_
        have F7 := F6.ex e7
        have e07 := e6.trans (ExB.of e7)
        have stb : ∀ y ∈ (List.range m).map fun o => if decide (V.int (i : Nat) = V.int (o : Nat)) = true then (1 : Int) else 0, y = 0 ∨ y = 1 := by
          intro y hy
          obtain ⟨o, _, rfl⟩ := List.mem_map.mp hy
          split
          · exact .inr rfl
          · exact .inl rfl
        have stl : ((List.range m).map fun o => if decide (V.int (i : Nat) = V.int (o : Nat)) = true then (1 : Int) else 0).length = m := by
          rw [List.length_map, List.length_range]
        generalize ((List.range m).map fun o => if decide (V.int (i : Nat) = V.int (o : Nat)) = true then (1 : Int) else 0) = sl at hst stb stl
        -- the ifs
        have nxt : ∀ H', ExB d H H' → FarOk H' d m kvs' L' → (ei.1 ∈ L' ↔ ei.2 ∈ L') → ∃ (y3 y4 y5 y6 y7 y8 y9 : Option V) (kvs' : List (Key × V)) (L' : List Int), [some (V.ref pE), some (.ref pA), some (.ref d), some (.int (i : Nat)), some (.int ei.1), some (.int ei.2), some (.ref st), z7, z8, z9] = [some (.ref pE), some (.ref pA), some (.ref d), y3, y4, y5, y6, y7, y8, y9] ∧ ExB d H H' ∧ FarOk H' d m kvs' L' ∧
            (L.length < L'.length ∨ (L' = L ∧ ∀ j, j < i + 1 → ∀ e, (e0 :: es')[j]? = some e → (e.1 ∈ L ↔ e.2 ∈ L))) := by
          intro H' x1 x2 x3
          refine ⟨_, _, _, _, _, _, _, kvs', L', rfl, x1, x2, ?_⟩
          rcases hor with h | ⟨rfl, h⟩
          · exact .inl h
          · refine .inr ⟨rfl, fun j hj e he => ?_⟩
            by_cases hji : j < i
            · exact h j hji e he
            · have : j = i := by omega
              subst this
              rw [hei] at he
              have := Option.some.inj he
              rw [← this]
              exact x3
        have grow : ∀ (x : Int) (a : Addr) (ns : List Int) (H' : Hp), ExB d H H' → FarOk H' d m kvs' L' → x ∉ L' → 0 ≤ x ∧ x ≤ m → H' a = some (.lst (ns.map V.int)) → ns.length = m → (∀ y ∈ ns, y.natAbs ≤ L'.length + 1) → ∃ (y3 y4 y5 y6 y7 y8 y9 : Option V) (kvs2 : List (Key × V)) (L2 : List Int), [some (V.ref pE), some (.ref pA), some (.ref d), some (.int (i : Nat)), some (.int ei.1), some (.int ei.2), some (.ref st), z7, z8, z9] = [some (.ref pE), some (.ref pA), some (.ref d), y3, y4, y5, y6, y7, y8, y9] ∧ ExB d H (upd H' d (.dK (putK kvs' (Sum.inl x) (.ref a)))) ∧ FarOk (upd H' d (.dK (putK kvs' (Sum.inl x) (.ref a)))) d m kvs2 L2 ∧
            (L.length < L2.length ∨ (L2 = L ∧ ∀ j, j < i + 1 → ∀ e, (e0 :: es')[j]? = some e → (e.1 ∈ L ↔ e.2 ∈ L))) := by
          intro x a ns H' x1 x2 x3 x4 x5 x6 x7
          refine ⟨_, _, _, _, _, _, _, _, L' ++ [x], rfl, x1.trans (ExB.upd _ _ _), x2.put x3 x4 x5 x6 x7, .inl ?_⟩
          rw [List.length_append]
          simp only [List.length_cons, List.length_nil]
          rcases hor with h | ⟨rfl, _⟩ <;> omega
        have hkv : kvs'.length < sizeLine := small1000 (by have := F7.len; have := F7.le; omega)
        show tIfS _ _ _ _ [some (V.ref pE), some (.ref pA), some (.ref d), some (.int (i : Nat)), some (.int ei.1), some (.int ei.2), some (.ref st), z7, z8, z9] H7
        refine ⟨_, rfl, _, rfl, d, _, rfl, DGet.k (k := Sum.inl ei.1) F7.at_, _, rfl, ?_⟩
        rw [F7.some_ ei.1]
        have snd : (∀ H', Ex H7 H' → ei.1 ∉ L' ∨ ei.2 ∈ L' → tIfS (tAnd (tB (tDIn (tVar 5) (tVar 2))) (tB (tDNotIn (tVar 4) (tVar 2)))) (sDPut (tVar 2) (tVar 4) (tLc (iZip K (tCons (tDGet (tVar 2) (tVar 5)) (tCons (tVar 6) tNil))) (g2 K 8 9) tYes (tOp (rI0 fun i j => V.int (i - j)) (tVar 8) (tVar 9)) [8, 9])) tNext
            { nx := fun σ' H' => ∃ (y3 y4 y5 y6 y7 y8 y9 : Option V) (kvs' : List (Key × V)) (L' : List Int), σ' = [some (.ref pE), some (.ref pA), some (.ref d), y3, y4, y5, y6, y7, y8, y9] ∧ ExB d H H' ∧ FarOk H' d m kvs' L' ∧ (L.length < L'.length ∨ (L' = L ∧ ∀ j, j < i + 1 → ∀ e, (e0 :: es')[j]? = some e → (e.1 ∈ L ↔ e.2 ∈ L))), rt := Q,
              bk := fun σ' H' => ∃ (y3 y4 y5 y6 y7 y8 y9 : Option V) (kvs' : List (Key × V)) (L' : List Int), σ' = [some (.ref pE), some (.ref pA), some (.ref d), y3, y4, y5, y6, y7, y8, y9] ∧ L.length < L'.length ∧ ExB d H H' ∧ FarOk H' d m kvs' L',
              ct := fun σ' H' => ∃ (y3 y4 y5 y6 y7 y8 y9 : Option V) (kvs' : List (Key × V)) (L' : List Int), σ' = [some (.ref pE), some (.ref pA), some (.ref d), y3, y4, y5, y6, y7, y8, y9] ∧ ExB d H H' ∧ FarOk H' d m kvs' L' ∧ (L.length < L'.length ∨ (L' = L ∧ ∀ j, j < i + 1 → ∀ e, (e0 :: es')[j]? = some e → (e.1 ∈ L ↔ e.2 ∈ L))) }
            [some (V.ref pE), some (.ref pA), some (.ref d), some (.int (i : Nat)), some (.int ei.1), some (.int ei.2), some (.ref st), z7, z8, z9] H') := by
          intro H' x1 hno
          have F8 := F7.ex x1
          have e8 := e07.trans (ExB.of x1)
          refine ⟨_, rfl, _, rfl, d, _, rfl, DGet.k (k := Sum.inl ei.2) F8.at_, _, rfl, ?_⟩
          rw [F8.some_ ei.2]
          by_cases h2 : ei.2 ∈ L'
          · rw [decide_eq_true h2]
            refine iteT ?_
            refine ⟨_, rfl, _, rfl, d, _, rfl, DGet.k (k := Sum.inl ei.1) F8.at_, _, rfl, ?_⟩
            rw [F8.some_ ei.1]
            by_cases h1 : ei.1 ∈ L'
            · rw [decide_eq_true h1]
              exact iteF (nxt _ e8 F8 ⟨fun _ => h2, fun _ => h1⟩)
            · rw [decide_eq_false h1]
              refine iteT ?_
              obtain ⟨ar, ns, hv, har, hnl, hnb⟩ := F8.get h2
              refine el_zip (K := K) (f := fun i j => i - j) (xs := ns) (ys := sl) (ea_cons (ev_dget rfl rfl F8.at_ hv) (ea_cons (ev_var rfl) ea_nil)) (SqL.of har) (SqL.of (x1 _ _ hst)) (by rw [hnl, stl]) (by omega) (fun u v => rfl) (fun x y H1 _ _ _ => ev_op (ev_var rfl) (ev_var rfl) rv_I0) H' (Ex.refl _) _ fun r H9 nr e9 hr => ?_
              have F9 := F8.ex e9
              refine ⟨_, rfl, _, rfl, d, _, rfl, DPut.k (k := Sum.inl ei.1) F9.at_ hkv, ?_⟩
              refine grow _ r _ H9 (e8.trans (ExB.of e9)) F9 h1 ⟨mi.1, mi.2.1⟩ hr (by rw [List.length_zipWith]; omega) fun y hy => ?_
              obtain ⟨u, v, hu, hv', rfl⟩ : ∃ u v, u ∈ ns ∧ v ∈ sl ∧ u - v = y := by
                obtain ⟨j, hj⟩ := List.getElem?_of_mem hy
                rw [List.getElem?_zipWith] at hj
                cases h3 : ns[j]? with
                | none => rw [h3] at hj; simp at hj
                | some u =>
                  cases h4 : sl[j]? with
                  | none => rw [h3, h4] at hj; simp at hj
                  | some v =>
                    rw [h3, h4] at hj
                    exact ⟨u, v, List.mem_of_getElem? h3, List.mem_of_getElem? h4, Option.some.inj hj⟩
              have b1 := hnb u hu
              rcases stb v hv' with rfl | rfl <;> omega
          · rw [decide_eq_false h2]
            refine iteF ?_
            have h1 : ei.1 ∉ L' := hno.resolve_right h2
            exact nxt _ e8 F8 ⟨fun z => absurd z h1, fun z => absurd z h2⟩
        by_cases h1 : ei.1 ∈ L'
        · rw [decide_eq_true h1]
          refine iteT ?_
          refine ⟨_, rfl, _, rfl, d, _, rfl, DGet.k (k := Sum.inl ei.2) F7.at_, _, rfl, ?_⟩
          rw [F7.some_ ei.2]
          by_cases h2 : ei.2 ∈ L'
          · rw [decide_eq_true h2]
            exact iteF (snd H7 (Ex.refl _) (.inr h2))
          · rw [decide_eq_false h2]
            refine iteT ?_
            obtain ⟨ar, ns, hv, har, hnl, hnb⟩ := F7.get h1
            refine el_zip (K := K) (f := fun i j => i + j) (xs := ns) (ys := sl) (ea_cons (ev_dget rfl rfl F7.at_ hv) (ea_cons (ev_var rfl) ea_nil)) (SqL.of har) (SqL.of hst) (by rw [hnl, stl]) (by omega) (fun u v => rfl) (fun x y H1 _ _ _ => ev_op (ev_var rfl) (ev_var rfl) rv_I0) H7 (Ex.refl _) _ fun r H9 nr e9 hr => ?_
            have F9 := F7.ex e9
            refine ⟨_, rfl, _, rfl, d, _, rfl, DPut.k (k := Sum.inl ei.2) F9.at_ hkv, ?_⟩
            refine grow _ r _ H9 (e07.trans (ExB.of e9)) F9 h2 ⟨mi.2.2.1, mi.2.2.2⟩ hr (by rw [List.length_zipWith]; omega) fun y hy => ?_
            obtain ⟨u, v, hu, hv', rfl⟩ : ∃ u v, u ∈ ns ∧ v ∈ sl ∧ u + v = y := by
              obtain ⟨j, hj⟩ := List.getElem?_of_mem hy
              rw [List.getElem?_zipWith] at hj
              cases h3 : ns[j]? with
              | none => rw [h3] at hj; simp at hj
              | some u =>
                cases h4 : sl[j]? with
                | none => rw [h3, h4] at hj; simp at hj
                | some v =>
                  rw [h3, h4] at hj
                  exact ⟨u, v, List.mem_of_getElem? h3, List.mem_of_getElem? h4, Option.some.inj hj⟩
            have b1 := hnb u hu
            rcases stb v hv' with rfl | rfl <;> omega
        · rw [decide_eq_false h1]
          exact iteF (snd H7 (Ex.refl _) (.inl h1))
      · rintro σ' H5 ⟨z3, z4, z5, z6, z7, z8, z9, kvs', L', rfl, e5, F5, hor⟩
        refine ⟨z3, z4, z5, z6, z7, z8, z9, kvs', L', rfl, ?_, e5, F5⟩
        rcases hor with h | ⟨rfl, h⟩
        · exact h
        · exfalso
          rw [List.length_map, hal] at h
          obtain ⟨x0, hx0⟩ : ∃ x0, x0 ∈ L' := by
            cases L' with
            | nil => simp at hL1
            | cons x r => exact ⟨x, List.mem_cons_self ..⟩
          have hS := hC (fun x => decide (x ∈ L')) (fun e he => by
            obtain ⟨j, hj⟩ := List.getElem?_of_mem he
            have := h j (by have := (List.getElem?_eq_some_iff.mp hj).1; omega) e hj
            by_cases q : e.1 ∈ L'
            · rw [decide_eq_true q, decide_eq_true (this.mp q)]
            · rw [decide_eq_false q, decide_eq_false (fun z => q (this.mpr z))])
          have hall : ∀ x ∈ numsTo (m + 1), x ∈ L' := by
            intro x hx
            have hx := mem_numsTo.mp hx
            have i0 := F5.inn x0 hx0
            have := hS x x0 (by omega) (by omega) i0.1 i0.2
            rw [decide_eq_true hx0] at this
            exact of_decide_eq_true this
          have := nodup_sub (nodup_nums (m + 1)) hall
          rw [numsTo_length] at this
          omega
    · have hLm : m < L.length := by
        have : ¬ ((L.length : Int) ≤ (m : Int)) := fun z => hc (decide_eq_true z)
        omega
      have hall := F4.all hLm
      have hEl := e4 _ _ (ndl hE) hE
      have hAl := e4 _ _ (ndl hA) hA
      have hAE4 : EdgesAt H4 bs qs := EdgesAt.mono (fun a xs g => e4 _ _ (ndl g) g) hAE
      -- the rows
      refine lc_rows (m := m) (F := fun kk => qs.map fun e => (valN H4 kvs e.2 kk) - (valN H4 kvs e.1 kk)) (ea_cons (ev_is (ev_len (ev_var rfl) (SqL.of hEl)) (by rw [List.length_map, hal])) ea_nil) (by omega) (fun u => rfl) ?_ ?_
      · intro kk H5 x5 hkk
        refine el_pairs (K := K) (f := fun e => (valN H4 kvs e.2 kk) - (valN H4 kvs e.1 kk)) rfl (x5 _ _ hAl) (EdgesAt.mono (tups_E x5) hAE4) (by omega) (fun u v => rfl) fun e H6 he x6 => ?_
        have mq := hq0 e he
        obtain ⟨a1, n1, v1, g1, l1, b1⟩ := F4.get (hall e.1 mq.1 mq.2.1)
        obtain ⟨a2, n2, v2, g2, l2, b2⟩ := F4.get (hall e.2 mq.2.2.1 mq.2.2.2)
        have x46 := x5.trans x6
        rw [valN_eq v1 g1, valN_eq v2 g2]
        refine ev_op (ev_op (ev_dget rfl rfl (x46 _ _ F4.at_) v2) (ev_var rfl) (rv_ixL (SqL.of (x46 _ _ g2)) (atI_row (by omega)))) (ev_op (ev_dget rfl rfl (x46 _ _ F4.at_) v1) (ev_var rfl) (rv_ixL (SqL.of (x46 _ _ g1)) (atI_row (by omega)))) rv_I0
      · intro p rs H5 np nrs ndr npr x5 ht
        have hH : ∀ {a : Addr}, H4 a = none → H a = none := fun {a} g => fresh_B e4 g ⟨_, F4.at_⟩
        refine k rs _ p H5 (hH np) (fun a ha => hH (nrs a ha)) ndr npr (fun b o g => (e4.trans (ExB.of x5)) b o (ndl g) g) ht (by rw [List.length_map, List.length_range]) fun r hr => ?_
        obtain ⟨kk, hkk, rfl⟩ := List.mem_map.mp hr
        refine ⟨by rw [List.length_map], fun y hy => ?_⟩
        obtain ⟨e, he, rfl⟩ := List.mem_map.mp hy
        have mq := hq0 e he
        have hkk := List.mem_range.mp hkk
        obtain ⟨a1, n1, v1, g1, l1, b1⟩ := F4.get (hall e.1 mq.1 mq.2.1)
        obtain ⟨a2, n2, v2, g2, l2, b2⟩ := F4.get (hall e.2 mq.2.2.1 mq.2.2.2)
        rw [valN_eq v1 g1, valN_eq v2 g2]
        have c1 : n1[kk]?.getD 0 ∈ n1 := by
          rw [List.getElem?_eq_getElem (by omega)]
          exact List.getElem_mem _
        have c2 : n2[kk]?.getD 0 ∈ n2 := by
          rw [List.getElem?_eq_getElem (by omega)]
          exact List.getElem_mem _
        have d1 := b1 _ c1
        have d2 := b2 _ c2
        have := F4.le
        omega
-- DEF _law_lists

/-- [F(z) for z in range(lo, hi)] of any size: new lists -/
theorem lc_rowsRW {ta : TA} {te : TE} {vs : List Nat} {j : Nat} {σ : L2.St} {H : Hp} {Q : VK} {lo hi : Int} (F : Int → List Int) (h : EvA ta σ H [.int lo, .int hi]) (hn : (hi - lo).toNat ≤ 1000) (hw : ∀ u, wipe ((wipe σ vs).set j (some u)) vs = wipe σ vs)
    (he : ∀ z H1, z ∈ Ls.rg lo hi → Ex H H1 → EvL te ((wipe σ vs).set j (some (.int z))) H1 ((F z).map V.int))
    (k : ∀ p as H2, H p = none → (∀ a ∈ as, H a = none) → as.Nodup → p ∉ as → Ex H H2 → Tab H2 p as ((Ls.rg lo hi).map F) → Q (.ref p) H2) : tLc (RgW.iRngW ta) (gName j) tYes te vs σ H Q := by
  refine h H (Ex.refl H) _ fun H1 e1 => ⟨lo, hi, rfl, fun D hD => ?_⟩
  have hDH := fresh_back e1 hD
  have at_ : ∀ {i : Nat}, i < (hi - lo).toNat → (Ls.rg lo hi)[i]? = some (lo + (i : Int)) := fun h => by
    unfold Ls.rg
    rw [List.getElem?_map, List.getElem?_range h]
    rfl
  refine lc_range (lo := lo) (n := (hi - lo).toNat) (fun i H' => ∃ as, Ex H H' ∧ H' D = some (.lst (as.map V.ref)) ∧ RowsAt H' as (((Ls.rg lo hi).take i).map F) ∧ (∀ a ∈ as, H a = none) ∧ as.Nodup ∧ D ∉ as) ⟨[], e1.trans (Ex.new hD), upd_same, .nil, fun a ha => (nomatch ha), List.nodup_nil, fun z => nomatch z⟩ (fun i H' hi' p => ?_) (fun H' p => ?_)
  · obtain ⟨as, p1, p2, p3, p4, p5, p6⟩ := p
    have hy := at_ hi'
    have el : as.length = i := by rw [Paired.length p3, List.length_map, List.length_take, Ls.rg_len]; omega
    refine ⟨hw _, ?_⟩
    dsimp only [tYes]
    rw [if_pos rfl]
    refine he _ H' (List.mem_of_getElem? hy) p1 H' (Ex.refl _) _ fun r H4 nr e4 hr => ?_
    have nrD : r ≠ D := fun z => by
      rw [z, p2] at nr
      cases nr
    refine ⟨_, e4 _ _ p2, ?_, as ++ [r], Ex.mut (p1.trans e4) hDH, ?_, ?_, ?_, ?_, ?_⟩
    · rw [List.length_map, el]
      exact small1000 (by omega)
    · rw [upd_same, List.map_append]
      rfl
    · rw [take_snoc hy, List.map_append]
      refine paired_snoc (rows_but p3 fun b hb o g => ?_) ?_
      · rw [upd_ne (fun z => p6 (by rw [← z]; exact hb))]
        exact e4 _ _ g
      · rw [upd_ne nrD]
        exact hr
    · intro b hb
      rcases List.mem_append.mp hb with h | h
      · exact p4 b h
      · rw [List.mem_singleton.mp h]
        exact fresh_back p1 nr
    · refine List.nodup_append.mpr ⟨p5, by simp, fun b hb c hc z => ?_⟩
      have : c = r := by simpa using hc
      have hb' : r ∈ as := by rw [← this, ← z]; exact hb
      obtain ⟨x, _, hx'⟩ := paired_mem p3 hb'
      rw [nr] at hx'
      cases hx'
    · intro hb
      rcases List.mem_append.mp hb with h | h
      · exact p6 h
      · exact nrD (List.mem_singleton.mp h).symm
  · obtain ⟨as, p1, p2, p3, p4, p5, p6⟩ := p
    rw [List.take_of_length_le (by rw [Ls.rg_len]; omega)] at p3
    exact k D as H' hDH p4 p5 p6 p1 ⟨p2, p3⟩
def choicesOf (los his : List Int) : List (List Int) := List.zipWith (fun lo hi => Ls.rg lo (hi + 1)) los his
def sp__law_lists (K : PySem.W.Frag) : Sp := fun vs H Q _ => ∃ (p q : Addr) (los his : List Int), vs = [.ref p, .ref q] ∧ H p = some (.lst (los.map V.int)) ∧ H q = some (.lst (his.map V.int)) ∧ los.length = his.length ∧ los.length ≤ 8 ∧ (∀ c ∈ choicesOf los his, c.length ≤ 2) ∧
  ∀ d bs H', H d = none → Ex H H' → Tab H' d bs (Ls.allL (choicesOf los his)) → Q (.ref d) H'

theorem ok__law_lists (T : Txt K mg) : FnOk P w K mg base CX0 1 T.f__law_lists T.fd__law_lists ["_law_lows", "_law_highs"] (sp__law_lists K) := by
  refine Fun.ok T.F__law_lists sc__law_lists (fun vs H Q E h => ?_) (fun cdv A outer s H vs Q E hr h => ?_)
  · obtain ⟨_, _, _, _, rfl, _⟩ := h; rfl
  · refine ⟨_, (pss_cut (ps_set (i := 2) sc__law_lists.nd rfl (by first | exact Or.inl rfl | exact Or.inr rfl) (pe_lst (pa_cons (pe_lst pa_nil) pa_nil)))
      (pss_cons (ps_for PassesOwn.never rfl (pi_zip (by rfl) T.n_zip (pa_cons (pv 0) (pa_cons (pv 1) pa_nil))) (pg_tup rfl (pgs_cons (pg_name (i := 3) sc__law_lists.nd rfl (by first | exact Or.inl rfl | exact Or.inr rfl)) (pgs_cons (pg_name (i := 4) sc__law_lists.nd rfl (by first | exact Or.inl rfl | exact Or.inr rfl)) pgs_nil)))
        (pss_cut (ps_set (i := 5) sc__law_lists.nd rfl (by first | exact Or.inl rfl | exact Or.inr rfl) (pe_lst pa_nil))
          (pss_cons (ps_for PassesOwn.never rfl (pi_list (pv 2)) (pg_name (i := 6) sc__law_lists.nd rfl (by first | exact Or.inl rfl | exact Or.inr rfl))
            (pss_one (ps_set (i := 5) sc__law_lists.nd rfl (by first | exact Or.inl rfl | exact Or.inr rfl) (pe_op op_cat (pv 5) (pe_lc (own := [("_law_number", 7)]) (g := gName 7) (tt := tYes) rfl sc__law_lists.nd (RgW.pi_rangeW (by rfl) T.n_range (pa_cons (pv 3) (pa_cons (pe_op op_add (pv 4) pe_int) pa_nil))) (blkOk_by (N := ["_law_lows", "_law_highs", "_law_found", "_law_low", "_law_high", "_law_longer", "_law_one_here", "_law_number"]) (sc := (defScope s__law_lists)) (by decide +kernel)) (fun _ _ _ _ _ => pg_name (i := 7) sc__law_lists.nd rfl (Or.inl rfl)) (fun _ _ _ _ _ => pts_nil) (fun _ _ _ _ _ => (pe_op op_cat (pv 6) (pe_lst (pa_cons (pv 7) pa_nil)))))))))
          (pss_one (ps_set (i := 2) sc__law_lists.nd rfl (by first | exact Or.inl rfl | exact Or.inr rfl) (pv 5))))))
      (pss_one (ps_ret (pv 2))))), ?_⟩
    obtain ⟨p, q, los, his, rfl, hp, hq, hl, h8, hc, k⟩ := h
    have cl : (choicesOf los his).length = los.length := by
      unfold choicesOf
      rw [List.length_zipWith]
      omega
    refine ⟨fun σ' H' => ∃ (pf : Addr) (bs : List Addr), σ' = [some (.ref p), some (.ref q), some (.ref pf), none, none, none, none, none] ∧ Ex H H' ∧ H pf = none ∧ Tab H' pf bs [[]], ?_, ?_⟩
    · exact ⟨Nat.zero_le _, fun l nl => ⟨(by show 1 ≤ sizeLine; decide), fun t nt => ⟨t, [l], rfl, (Ex.new nl).trans (Ex.new nt), fresh_back (Ex.new nl) nt, upd_same, .cons (Ex.new nt _ _ upd_same) .nil⟩⟩⟩
    rintro σ' H1 ⟨pf, bs, rfl, e1, nf, hf⟩
    refine ⟨_, rfl, _, rfl, p, q, _, _, rfl, SqL.of (e1 _ _ hp), SqL.of (e1 _ _ hq), ?_⟩
    refine RZ.for_zipL (K := K) (xs := los.map V.int) (ys := his.map V.int) (by rw [List.length_map, List.length_map, hl]) (fun i σ' H' => ∃ (pf : Addr) (bs : List Addr) (y3 y4 y5 y6 : Option V), σ' = [some (.ref p), some (.ref q), some (.ref pf), y3, y4, y5, y6, none] ∧ Ex H H' ∧ H pf = none ∧ Tab H' pf bs (Ls.allL ((choicesOf los his).take i))) ⟨pf, bs, _, _, _, _, rfl, e1, nf, hf⟩ (fun i σ' H' ⟨_, _, _, _, _, _, _, h, _⟩ => ⟨SqL.of (h _ _ hp), SqL.of (h _ _ hq)⟩) (fun i x y T σ' H2 hx hy hP nT => ?_) (fun σ' H2 hP => ?_)
    rotate_left
    · obtain ⟨pf, bs, y3, y4, y5, y6, rfl, e2, nf, hf⟩ := hP
      rw [List.length_map, ← cl, List.take_length] at hf
      exact ⟨_, rfl, k pf bs H2 nf e2 hf⟩
    obtain ⟨pf, bs, y3, y4, y5, y6, rfl, e2, nf, hf⟩ := hP
    rw [List.getElem?_map] at hx hy
    obtain ⟨lo, hlo, rfl⟩ := Option.map_eq_some_iff.mp hx
    obtain ⟨hi, hhi, rfl⟩ := Option.map_eq_some_iff.mp hy
    have hch : (choicesOf los his)[i]? = some (Ls.rg lo (hi + 1)) := by
      unfold choicesOf
      rw [List.getElem?_zipWith, hlo, hhi]
    have c2 := hc _ (List.mem_of_getElem? hch)
    have i8 := (List.getElem?_eq_some_iff.mp hch).1
    have l1 : (Ls.allL ((choicesOf los his).take i)).length ≤ 256 := by
      refine Nat.le_trans (Ls.allL_len (b := 2) fun c h => hc c (List.mem_of_mem_take h)) (Nat.le_trans (Nat.pow_le_pow_right (by decide) (show _ ≤ 8 from ?_)) (by decide))
      rw [List.length_take]
      omega
    have xt := Ex.new (o := .tup [V.int lo, .int hi]) nT
    refine ⟨T, _, rfl, SqT.of upd_same, rfl, _, _, rfl, _, _, rfl, rfl, ?_⟩
    have e2t := e2.trans xt
    replace hf := hf.ex xt
    refine ⟨fun σ' H' => ∃ pl, σ' = [some (.ref p), some (.ref q), some (.ref pf), some (.int lo), some (.int hi), some (.ref pl), y6, none] ∧ Ex (upd H2 T (.tup [.int lo, .int hi])) H' ∧ H pl = none ∧ H' pl = some (.lst []), ?_, ?_⟩
    · exact s_asgL (el_lst (vs := []) ea_nil (Nat.le_of_ble_eq_true rfl)) fun pl H3 nl e3 h3 => ⟨pl, rfl, e3, fresh_back e2t nl, h3⟩
    rintro σ' H3 ⟨pl, rfl, e3, nl, hpl⟩
    replace e2t := e2t.trans e3
    replace hf := hf.ex e3
    have bl : bs.length = (Ls.allL ((choicesOf los his).take i)).length := Paired.length hf.2
    refine q_forL (xs := bs.map V.ref) (ev_var (i := 2) rfl) (SqL.of hf.1) (fun a σ' H' => ∃ (pl : Addr) (cs : List Addr) (y6 : Option V), σ' = [some (.ref p), some (.ref q), some (.ref pf), some (.int lo), some (.int hi), some (.ref pl), y6, none] ∧ Ex H H' ∧ Ex H3 H' ∧ H pl = none ∧ Tab H' pl cs (((Ls.allL ((choicesOf los his).take i)).take a).flatMap fun r => (Ls.rg lo (hi + 1)).map fun z => r ++ [z])) (fun H4 e4 => ⟨pl, [], _, rfl, e2t.trans e4, e4, nl, e4 _ _ hpl, .nil⟩) (fun a σ' H' _ ⟨_, _, _, _, _, h, _⟩ => SqL.of (h _ _ hf.1)) (fun a x σ' H4 hx hP => ?_) (fun σ' H4 hP => ?_)
    · obtain ⟨pl, cs, y6, rfl, e4, e34, nl, hcs⟩ := hP
      rw [List.getElem?_map] at hx
      obtain ⟨b, hb, rfl⟩ := Option.map_eq_some_iff.mp hx
      obtain ⟨r, hr, hh⟩ := paired_get hf.2 hb
      have la := (List.getElem?_eq_some_iff.mp hr).1
      have lr : r.length ≤ 8 := by
        rw [Paired.length (Ls.allL_each _ _ rfl r (List.mem_of_getElem? hr)), List.length_take]
        omega
      have lcs : cs.length ≤ 600 := by
        rw [Paired.length hcs.2]
        have : ∀ (L : List (List Int)), L.length ≤ 256 → (L.flatMap fun r => (Ls.rg lo (hi + 1)).map fun z => r ++ [z]).length ≤ L.length * 2 := by
          intro L _
          have := Ls.grow_len L (Ls.rg lo (hi + 1))
          unfold Ls.grow at this
          rw [this]
          exact Nat.mul_le_mul_left _ c2
        have h2 := this ((Ls.allL ((choicesOf los his).take i)).take a) (by rw [List.length_take]; omega)
        rw [List.length_take] at h2
        omega
      show tAsg _ (gName 5) _ [some (.ref p), some (.ref q), some (.ref pf), some (.int lo), some (.int hi), some (.ref pl), some (.ref b), none] H4
      refine ⟨_, rfl, ?_⟩
      refine lc_rowsRW (σ := [some (.ref p), some (.ref q), some (.ref pf), some (.int lo), some (.int hi), some (.ref pl), some (.ref b), none]) (F := fun z => r ++ [z]) (ea_cons (ev_var (i := 3) rfl) (ea_cons (ev_op (ev_var (i := 4) rfl) ev_c rv_I0) ea_nil)) (by rw [← Ls.rg_len]; omega) (fun u => rfl) (fun z H5 hz e5 => ?_) (fun d ds H5 nd nds _ _ e5 hd => ⟨pl, d, _, _, rfl, rfl, e5 _ _ hcs.1, hd.1, ?_, fun u nu => ?_⟩)
      · rw [List.map_append]
        exact el_catVL (ev_var rfl) ((e34.trans e5) _ _ hh) (el_lst (vs := [.int z]) (ea_cons (ev_var rfl) ea_nil) (Nat.le_of_ble_eq_true rfl)) (by rw [List.length_map]; show _ + 1 ≤ 100000; omega)
      · have := Paired.length hd.2
        rw [List.length_map] at this
        rw [List.length_map, List.length_map]
        exact sz_of (by omega)
      · have xu := Ex.new (o := .lst (cs.map V.ref ++ ds.map V.ref)) nu
        refine ⟨u, cs ++ ds, _, rfl, (e4.trans e5).trans xu, (e34.trans e5).trans xu, fresh_back (e4.trans e5) nu, ?_, ?_⟩
        · rw [upd_same, List.map_append]
        · rw [take_snoc hr, List.flatMap_append, List.flatMap_cons, List.flatMap_nil, List.append_nil]
          exact paired_app (hcs.2.ex (e5.trans xu)) (hd.2.ex xu)
    · obtain ⟨pl, cs, y6, rfl, e4, e34, nl, hcs⟩ := hP
      rw [List.length_map, bl, List.take_length] at hcs
      refine s_asg (ev_var (i := 5) rfl) fun H5 e5 => ⟨pl, cs, _, _, _, _, rfl, e4.trans e5, nl, ?_⟩
      rw [take_snoc hch, Ls.allL_snoc]
      exact hcs.ex e5
-- DEF _law_whole_sums

def sp__law_whole_sums (K : PySem.W.Frag) : Sp := fun vs H Q _ => ∃ (p q : Addr) (as : List Addr) (rows : List (List Int)) (zs : List Int), vs = [.ref p, .ref q] ∧ Tab H p as rows ∧ rows.length ≤ 8 ∧ (∀ r ∈ rows, r.length = zs.length ∧ ∀ y ∈ r, Bd 110 y) ∧ zs.length ≤ 8 ∧ H q = some (.lst (zs.map V.int)) ∧ (∀ z ∈ zs, Bd 110 z) ∧
  ∀ d H', H d = none → Ex H H' → H' d = some (.lst ((Ls.totals rows zs).map V.int)) → Q (.ref d) H'

theorem ok__law_whole_sums (T : Txt K mg) : FnOk P w K mg base CX0 1 T.f__law_whole_sums T.fd__law_whole_sums ["_law_table_here", "_law_xs"] (sp__law_whole_sums K) := by
  refine Fun.ok T.F__law_whole_sums sc__law_whole_sums (fun vs H Q E h => ?_) (fun cdv A outer s H vs Q E hr h => ?_)
  · obtain ⟨_, _, _, _, _, rfl, _⟩ := h; rfl
  · refine ⟨_, (pss_one (ps_ret (pe_lc (own := [("_law_row", 2)]) (wi := iList K _) (g := gName 2) (tt := tYes) rfl sc__law_whole_sums.nd (pi_list (pv 0)) (blkOk_by (N := ["_law_table_here", "_law_xs", "_law_row", "_law_a", "_law_b"]) (sc := (defScope s__law_whole_sums)) (by decide +kernel)) (fun _ _ _ _ _ => pg_name (i := 2) sc__law_whole_sums.nd rfl (Or.inl rfl)) (fun _ _ _ _ _ => pts_nil) (fun _ _ _ _ _ => (pe_callB (id := "sum") (r := rSum K) (cr_sum rfl) (by rfl) T.n_sum (by decide +kernel) (pa_cons (pe_lc (own := [("_law_a", 3), ("_law_b", 4)]) (wi := iZip K _) (g := gTup K 2 (gCons (gName 3) (gCons (gName 4) gNil))) (tt := tYes) rfl sc__law_whole_sums.nd (pi_zip (by rfl) T.n_zip (pa_cons (pv 2) (pa_cons (pv 1) pa_nil))) (blkOk_by (N := ["_law_table_here", "_law_xs", "_law_row", "_law_a", "_law_b"]) (sc := (relS ({ kind := .function, names := [(".0", .local), ("_law_row", .local), ("sum", .globalImplicit), ("zip", .globalImplicit), ("_law_xs", .free)], isGenerator := false, isCoroutine := false } : Scope) (defScope s__law_whole_sums))) (by decide +kernel)) (fun _ _ _ _ _ => (pg_tup rfl (pgs_cons (pg_name (i := 3) sc__law_whole_sums.nd rfl (Or.inl rfl)) (pgs_cons (pg_name (i := 4) sc__law_whole_sums.nd rfl (Or.inl rfl)) pgs_nil)))) (fun _ _ _ _ _ => pts_nil) (fun _ _ _ _ _ => (pe_op op_mulW (pv 3) (pv 4)))) pa_nil)))))), ?_⟩
    obtain ⟨p, q, as, rows, zs, rfl, hT, m8, hr, z8, hq, hz, k⟩ := h
    refine s_retL (el_col (K := K) (n := 0) (f := fun r => Ls.dot r zs) rfl hT.1 hT.2 (by omega) (fun u => rfl) fun b r H1 hr' hb e1 => ?_) fun d H1 nd e1 hd => k d H1 nd e1 hd
    refine ev_sumL (el_zip (K := K) (f := (· * ·)) (ea_cons (ev_var rfl) (ea_cons (ev_var rfl) ea_nil)) (SqL.of (e1 _ _ hb)) (SqL.of (e1 _ _ hq)) (hr r hr').1 (by have := (hr r hr').1; omega) (fun u v => rfl) fun x y H2 hx hy e2 => ?_)
    exact ev_op (ev_var rfl) (ev_var rfl) (rv_I (((hr r hr').2 x hx).mulOk (hz y hy)))
-- DEF is_fraction

def sp_is_fraction (K : PySem.W.Frag) : Sp := fun vs H Q _ => ∃ (x : V) (r : Bool), vs = [x] ∧ FracV K H x r ∧ Q (.bl r) H

theorem ok_is_fraction (T : Txt K mg) : FnOk P w K mg base CX0 2 T.f_is_fraction T.fd_is_fraction ["thing"] (sp_is_fraction K) := by
  refine Fun.ok T.F_is_fraction sc_is_fraction (fun vs H Q E h => ?_) (fun cdv A outer s H vs Q E hr h => ?_)
  · obtain ⟨_, _, rfl, _⟩ := h; rfl
  · refine ⟨_, (pss_cons (ps_if (PW.pt (pw_or (pt_not (pt_val (pe_callB (id := "isinstance") (r := rIsi K) call_isi (by rfl) T.n_isinstance (by decide +kernel) (pa_cons (pv 0) (pa_cons (pe_bltn (v := .ty "tuple") (by rfl) T.n_tuple (by decide +kernel) rfl) pa_nil))))) (pw_or1 (pt_cmpR op_ne (pe_callB (id := "len") (r := rLenS K) call_len_seq (by rfl) T.n_len PySem.boot_len (pa_cons (pv 0) pa_nil)) pe_int (nomark _)))))
        (pss_one (ps_ret pe_bl))
        pss_nil)
      (pss_cons (ps_asg (pv 0) (pg_tup rfl (pgs_cons (pg_name (i := 1) sc_is_fraction.nd rfl (by first | exact Or.inl rfl | exact Or.inr rfl)) (pgs_cons (pg_name (i := 2) sc_is_fraction.nd rfl (by first | exact Or.inl rfl | exact Or.inr rfl)) pgs_nil))))
      (pss_cons (ps_if (PW.pt (pw_or (pt_not (pt_val (pe_call (ok_is_whole T) hr (by rfl) T.g_is_whole T.k_is_whole T.b_is_whole .nil pass0 (pa_cons (pv 1) pa_nil)))) (pw_or1 (pt_not (pt_val (pe_call (ok_is_whole T) hr (by rfl) T.g_is_whole T.k_is_whole T.b_is_whole .nil pass0 (pa_cons (pv 2) pa_nil)))))))
        (pss_one (ps_ret pe_bl))
        pss_nil)
      (pss_one (ps_ret (pe_and (pe_cmpR op_ge (pv 2) pe_int (nomark _)) (pe_one (pe_cmpR op_eq (pe_callBfun cr_gcd (by rfl) T.g_gcd (pa_cons (pv 1) (pa_cons (pv 2) pa_nil))) pe_int (nomark _))))))))), ?_⟩
    obtain ⟨x, r, rfl, fv, q⟩ := h
    cases fv with
    | @no x t h k n =>
      refine ⟨x, rfl, x, _, _, _, _, rfl, ClsV.ty _, h, kit_ty (ty_tuple k), _, rfl, ?_⟩
      have e : (t == "tuple") = false := by simpa using n
      rw [e]
      exact iteT q
    | @len p xs e n =>
      refine ⟨.ref p, rfl, .ref p, _, _, _, _, rfl, ClsV.ty _, .base (.tup e), kit_ty (ty_tuple (.inr (.inr (.inr (.inr (.inl rfl)))))), _, rfl, ?_⟩
      refine ⟨.ref p, rfl, p, xs, rfl, .inr (SqT.of e), rfl, _, rfl, ?_⟩
      have e2 : (!decide (V.int (xs.length : Int) = V.int 2)) = true := by
        rw [decide_eq_false (fun z => n (by have := V.int.inj z; omega))]
        rfl
      rw [e2]
      exact iteT q
    | @two p t b e =>
      refine ⟨.ref p, rfl, .ref p, _, _, _, _, rfl, ClsV.ty _, .base (.tup e), kit_ty (ty_tuple (.inr (.inr (.inr (.inr (.inl rfl)))))), _, rfl, ?_⟩
      refine ⟨.ref p, rfl, p, _, rfl, .inr (SqT.of e), rfl, _, rfl, ?_⟩
      refine iteF ?_
      refine ⟨.ref p, rfl, p, _, rfl, SqT.of e, rfl, _, _, rfl, _, _, rfl, rfl, ?_⟩
      refine ⟨_, rfl, _, _, rfl, .base (.int _), .inl rfl, _, rfl, ?_⟩
      refine ⟨_, rfl, _, _, rfl, .base (.int _), .inl rfl, _, rfl, ?_⟩
      refine iteF ?_
      refine ⟨_, rfl, _, _, rfl, rfl, _, rfl, ?_⟩
      by_cases hb : 1 ≤ b
      · rw [decide_eq_true hb] at q ⊢
        refine iteT ?_
        refine ⟨_, rfl, _, rfl, _, _, rfl, rfl, ?_⟩
        have e3 : decide (V.int ((Nat.gcd t.natAbs b.natAbs : Nat) : Int) = V.int 1) = (true && decide (gcdI t b = 1)) := by
          rw [Bool.true_and]
          unfold gcdI
          by_cases g : ((Nat.gcd t.natAbs b.natAbs : Nat) : Int) = 1
          · rw [decide_eq_true g, g]
            exact decide_eq_true rfl
          · rw [decide_eq_false g]
            exact decide_eq_false fun z => g (V.int.inj z)
        rw [e3]
        exact q
      · rw [decide_eq_false hb] at q ⊢
        exact iteF q
    | @odd1 p x y t e h k n =>
      refine ⟨.ref p, rfl, .ref p, _, _, _, _, rfl, ClsV.ty _, .base (.tup e), kit_ty (ty_tuple (.inr (.inr (.inr (.inr (.inl rfl)))))), _, rfl, ?_⟩
      refine ⟨.ref p, rfl, p, _, rfl, .inr (SqT.of e), rfl, _, rfl, ?_⟩
      refine iteF ?_
      refine ⟨.ref p, rfl, p, _, rfl, SqT.of e, rfl, _, _, rfl, _, _, rfl, rfl, ?_⟩
      refine ⟨_, rfl, _, _, rfl, h, k, _, rfl, ?_⟩
      have e2 : (t == "int") = false := by simpa using n
      rw [e2]
      exact iteT q
    | @odd2 p t y u e h k n =>
      refine ⟨.ref p, rfl, .ref p, _, _, _, _, rfl, ClsV.ty _, .base (.tup e), kit_ty (ty_tuple (.inr (.inr (.inr (.inr (.inl rfl)))))), _, rfl, ?_⟩
      refine ⟨.ref p, rfl, p, _, rfl, .inr (SqT.of e), rfl, _, rfl, ?_⟩
      refine iteF ?_
      refine ⟨.ref p, rfl, p, _, rfl, SqT.of e, rfl, _, _, rfl, _, _, rfl, rfl, ?_⟩
      refine ⟨_, rfl, _, _, rfl, .base (.int _), .inl rfl, _, rfl, ?_⟩
      refine ⟨_, rfl, _, _, rfl, h, k, _, rfl, ?_⟩
      have e2 : (u == "int") = false := by simpa using n
      rw [e2]
      exact iteT q
-- DEF fraction

def sp_fraction (K : PySem.W.Frag) : Sp := fun vs H Q _ => ∃ (t b : Int), vs = [.int t, .int b] ∧ b ≠ 0 ∧ Bd 9000 b ∧
  ∀ (p : Addr) (H' : Hp), H p = none → Ex H H' → H' p = some (.tup [.int (t.fdiv (comI t b)), .int (b.fdiv (comI t b))]) → Q (.ref p) H'

theorem ok_fraction (T : Txt K mg) : FnOk P w K mg base CX0 2 T.f_fraction T.fd_fraction ["top", "bottom"] (sp_fraction K) := by
  refine FunD.ok T.F_fraction sc_fraction (fun vs H Q E h => ?_) (fun cdv A outer s H vs Q E hr h => ?_)
  · obtain ⟨_, _, rfl, _⟩ := h; rfl
  · refine ⟨_, (pss_cons (ps_if (PW.pt (pw_or (pt_not (pt_val (pe_call (ok_is_whole T) hr (by rfl) T.g_is_whole T.k_is_whole T.b_is_whole .nil pass0 (pa_cons (pv 0) pa_nil)))) (pw_or1 (pt_not (pt_val (pe_call (ok_is_whole T) hr (by rfl) T.g_is_whole T.k_is_whole T.b_is_whole .nil pass0 (pa_cons (pv 1) pa_nil)))))))
        (pss_one ps_never)
        pss_nil)
      (pss_cons (ps_if (pt_cmpR op_eq (pv 1) pe_int (nomark _))
        (pss_one ps_never)
        pss_nil)
      (pss_cons (ps_set (i := 2) sc_fraction.nd rfl (by first | exact Or.inl rfl | exact Or.inr rfl) (pe_callBfun cr_gcd (by rfl) T.g_gcd (pa_cons (pv 0) (pa_cons (pv 1) pa_nil))))
      (pss_cons (ps_if (pt_cmpR op_lt (pv 1) pe_int (nomark _))
        (pss_one (ps_set (i := 2) sc_fraction.nd rfl (by first | exact Or.inl rfl | exact Or.inr rfl) (pe_un un_neg (pv 2))))
        pss_nil)
      (pss_one (ps_ret (pe_tup (pa_cons (pe_op op_fdivNW (pv 0) (pv 2)) (pa_cons (pe_op op_fdivNW (pv 1) (pv 2)) pa_nil))))))))), ?_⟩
    obtain ⟨t, b, rfl, hb, hbd, q⟩ := h
    refine ⟨_, rfl, _, _, rfl, .base (.int _), .inl rfl, _, rfl, ?_⟩
    refine ⟨_, rfl, _, _, rfl, .base (.int _), .inl rfl, _, rfl, ?_⟩
    refine iteF ?_
    refine ⟨_, rfl, rfl, _, rfl, ?_⟩
    have e1 : decide (V.int b = V.int 0) = false := decide_eq_false fun z => hb (V.int.inj z)
    rw [e1]
    refine iteF ?_
    refine ⟨_, rfl, _, rfl, _, _, rfl, ?_⟩
    refine ⟨_, rfl, _, _, rfl, rfl, _, rfl, ?_⟩
    have fin : ∀ c : Int, c = comI t b → tRet (tTup (tCons (tOp (rI CDivNW fun i j => .int (i.fdiv j)) (tVar 0) (tVar 2)) (tCons (tOp (rI CDivNW fun i j => .int (i.fdiv j)) (tVar 1) (tVar 2)) tNil))) { nx := fun _ H' => Q .non H', rt := Q } [some (.int t), some (.int b), some (.int c)] H := by
      intro c hc
      subst hc
      refine ⟨_, rfl, _, rfl, _, _, rfl, rfl, Bd.divNOk (comI_ne hb) (comI_bd hb hbd), ?_⟩
      refine ⟨_, rfl, _, rfl, _, _, rfl, rfl, Bd.divNOk (comI_ne hb) (comI_bd hb hbd), (by show 2 ≤ sizeLine; decide), fun p hp => ?_⟩
      exact q p _ hp (Ex.new hp) upd_same
    by_cases hn : b < 0
    · rw [decide_eq_true hn]
      refine iteT ?_
      refine ⟨_, rfl, _, rfl, ?_⟩
      exact fin _ (by unfold comI; rw [if_pos hn]; rfl)
    · rw [decide_eq_false hn]
      refine iteF ?_
      exact fin _ (by unfold comI; rw [if_neg hn]; rfl)
-- DEF is_row

def sp_is_row (K : PySem.W.Frag) : Sp := fun vs H Q _ => ∃ (a : Addr) (ns : List Int), vs = [.ref a] ∧ H a = some (.lst (ns.map V.int)) ∧ 1 ≤ ns.length ∧ ns.length ≤ 8 ∧ ∀ H', Ex H H' → Q (.bl true) H'

theorem ok_is_row (T : Txt K mg) : FnOk P w K mg base CX0 2 T.f_is_row T.fd_is_row ["thing"] (sp_is_row K) := by
  refine Fun.ok T.F_is_row sc_is_row (fun vs H Q E h => ?_) (fun cdv A outer s H vs Q E hr h => ?_)
  · obtain ⟨_, _, rfl, _⟩ := h; rfl
  · refine ⟨_, (pss_cons (ps_if (PW.pt (pw_or (pt_not (pt_val (pe_callB (id := "isinstance") (r := rIsi K) call_isi (by rfl) T.n_isinstance (by decide +kernel) (pa_cons (pv 0) (pa_cons (pe_bltn (v := .ty "list") (by rfl) T.n_list (by decide +kernel) rfl) pa_nil))))) (pw_or1 (pt_not (pt_chain op_le op_le pe_int (pe_callB (id := "len") (r := rLenS K) call_len_seq (by rfl) T.n_len PySem.boot_len (pa_cons (pv 0) pa_nil)) (pe_glob (v := .int 8) (by rfl) T.g_MOST ⟨_, rfl⟩))))))
        (pss_one (ps_ret pe_bl))
        pss_nil)
      (pss_one (ps_ret (pe_callB (id := "all") (r := rAll K) (cr_all rfl) (by rfl) T.n_all (by decide +kernel) (pa_cons (pe_lc (own := [("entry", 1)]) (wi := iList K _) (g := gName 1) (tt := tYes) rfl sc_is_row.nd (pi_list (pv 0)) (blkOk_by (N := ["thing", "entry"]) (sc := (defScope s_is_row)) (by decide +kernel)) (fun _ _ _ _ _ => pg_name (i := 1) sc_is_row.nd rfl (Or.inl rfl)) (fun _ _ _ _ _ => pts_nil) (fun _ _ _ _ _ => (pe_call (ok_is_whole T) hr (by rfl) T.g_is_whole T.k_is_whole T.b_is_whole .nil pass0 (pa_cons (pv 1) pa_nil)))) pa_nil))))), ?_⟩
    obtain ⟨a, ns, rfl, ha, h1, h8, k⟩ := h
    refine q_when (b := false) (et_is (et_or (et_not (et_B (ev_isi (t := "list") (b := true) (ev_var rfl) ev_c (fun H1 e => .base (.lst (e _ _ ha))) (by decide +kernel)))) (fun _ => et_not (et_test (ev_chain ev_c (ev_is (ev_len (ev_var rfl) (SqL.of ha)) (by rw [List.length_map])) ev_c rv_le rv_le)))) ?_) (fun z => nomatch z) (fun _ H1 e1 => ?_)
    · rw [decide_eq_true (show (1 : Int) ≤ (ns.length : Int) by omega), decide_eq_true (show (ns.length : Int) ≤ 8 by omega)]
      rfl
    refine s_ret (ev_all (el_yes (a := a) rfl (e1 _ _ ha) (by rw [List.length_map]; omega) (fun x H' hx e => ?_) (fun x => rfl))) fun H2 e2 => k H2 (e1.trans e2)
    obtain ⟨i, _, rfl⟩ := List.mem_map.mp hx
    exact ev_fn (ea_cons (ev_var rfl) ea_nil) fun H3 e3 Q3 q3 => ⟨_, "int", rfl, .base (.int _), .inl rfl, q3 H3 (Ex.refl _)⟩
-- DEF all_rounded

theorem rgV_rg (lo hi : Int) : rgV lo hi = (Ls.rg lo hi).map V.int := by
  unfold rgV Ls.rg
  rw [List.map_map]
  rfl
theorem ev_floorF {K : PySem.W.Frag} {te : TE} {E : XK} {σ : L2.St} {H : Hp} {c : Addr} {q : Rat} (h : Ev te σ H (.ref c)) (hc : H c = some (.tup (frV q))) (bd : Bd 1000 (q.den : Int)) : Ev (tCall (sp_floor_of K) [] E (tCons te tNil)) σ H (.int (Fq.fl q)) :=
  ev_fn (ea_cons h ea_nil) fun H3 e3 Q3 q3 => ⟨c, _, _, rfl, e3 _ _ hc, Fq.dpos q, bd, q3 H3 (Ex.refl _)⟩
theorem ev_ceilF {K : PySem.W.Frag} {te : TE} {E : XK} {σ : L2.St} {H : Hp} {c : Addr} {q : Rat} (h : Ev te σ H (.ref c)) (hc : H c = some (.tup (frV q))) (bd : Bd 1000 (q.den : Int)) : Ev (tCall (sp_ceiling_of K) [] E (tCons te tNil)) σ H (.int (Fq.ce q)) :=
  ev_fn (ea_cons h ea_nil) fun H3 e3 Q3 q3 => ⟨c, _, _, rfl, e3 _ _ hc, Fq.dpos q, bd, q3 H3 (Ex.refl _)⟩
theorem s_retC {sp : Sp} {te : TE} {E : XK} {D : Ends} {σ : L2.St} {H : Hp} (h : te σ H fun v H1 => sp [v] H1 D.rt E) : tRet (tCall sp [] E (tCons te tNil)) D σ H := h
def sp_all_rounded (K : PySem.W.Frag) : Sp := fun vs H Q _ => ∃ (b : Addr) (bs : List Addr) (qs : List Rat), vs = [.ref b] ∧ FrL H b bs qs ∧ qs.length ≤ 8 ∧ (∀ q ∈ qs, BdQ 200 20 q) ∧
  ∀ u us H', H u = none → (∀ a ∈ us, H a = none) → us.Nodup → u ∉ us → Ex H H' → Tab H' u us (Ls.allL (qs.map Fq.ch)) → Q (.ref u) H'

theorem ok_all_rounded (T : Txt K mg) : FnOk P w K mg base CX0 2 T.f_all_rounded T.fd_all_rounded ["xs"] (sp_all_rounded K) := by
  refine Fun.ok T.F_all_rounded sc_all_rounded (fun vs H Q E h => ?_) (fun cdv A outer s H vs Q E hr h => ?_)
  · obtain ⟨_, _, _, rfl, _⟩ := h; rfl
  · refine ⟨_, (pss_one (ps_ret (pe_call (ok_all_lists T) hr (by rfl) T.g_all_lists T.k_all_lists T.b_all_lists .nil pass0 (pa_cons (pe_lc (own := [("x", 1)]) (wi := iList K _) (g := gName 1) (tt := tYes) rfl sc_all_rounded.nd (pi_list (pv 0)) (blkOk_by (N := ["xs", "x"]) (sc := (defScope s_all_rounded)) (by decide +kernel)) (fun _ _ _ _ _ => pg_name (i := 1) sc_all_rounded.nd rfl (Or.inl rfl)) (fun _ _ _ _ _ => pts_nil) (fun _ _ _ _ _ => (RgW.pe_listRgW rfl (by rfl) T.n_list (prg_2 (by rfl) T.n_range (pe_call (ok_floor_of T) hr (by rfl) T.g_floor_of T.k_floor_of T.b_floor_of .nil pass0 (pa_cons (pv 1) pa_nil)) (pe_op op_add (pe_call (ok_ceiling_of T) hr (by rfl) T.g_ceiling_of T.k_ceiling_of T.b_ceiling_of .nil pass0 (pa_cons (pv 1) pa_nil)) pe_int))))) pa_nil)))), ?_⟩
    obtain ⟨b, bs, qs, rfl, hF, h8, bq, k⟩ := h
    refine s_retC (σ := [some (.ref b), none]) ?_
    refine lc_rowsF (K := K) (nn := 0) (σ := [some (.ref b), none]) (vs := [1]) (j := 1) (F := Fq.ch) rfl hF (by omega) (fun u => rfl) (fun c q H1 hq hc e1 H2 e2 Q2 q2 => ?_) (fun c cs H1 nc e1 hc => ?_)
    · have bd := (bq q hq).2.mono (show 20 ≤ 1000 by decide)
      refine (ev_floorF (σ := [some (.ref b), some (.ref c)]) (c := c) (ev_var (i := 1) rfl) hc bd) H2 e2 _ fun H3 e3 => ?_
      refine (ev_op (σ := [some (.ref b), some (.ref c)]) (ev_ceilF (c := c) (ev_var (i := 1) rfl) hc bd) ev_c rv_I0) H3 (e2.trans e3) _ fun H4 e4 => ?_
      refine ⟨_, _, rfl, rfl, ?_, fun d nd => ?_⟩
      · exact Nat.le_trans (show _ ≤ 1000 by have := Fq.ce_le q; omega) (by decide)
      · refine q2 d _ (fresh_back (e3.trans e4) nd) ((e3.trans e4).trans (Ex.new nd)) ?_
        rw [upd_same, rgV_rg]
        rfl
    refine ⟨c, cs, qs.map Fq.ch, 2, rfl, hc, fun z hz => ?_, by decide, ?_, by decide, by rw [List.length_map]; omega, fun u us H2 nu nus nd un e2 hu => k u us H2 (fresh_back e1 nu) (fun a ha => fresh_back e1 (nus a ha)) nd un (e1.trans e2) hu⟩
    · obtain ⟨x, _, rfl⟩ := List.mem_map.mp hz
      exact Fq.ch_len x
    · rw [List.length_map]
      exact Nat.le_trans (Nat.pow_le_pow_right (by decide) h8) (by decide)
-- DEF is_between

theorem s_retAll {K : PySem.W.Frag} {te : TE} {D : Ends} {σ : L2.St} {H : Hp} (h : te σ H fun v H1 => rAll K [v] H1 D.rt) : tRet (tCB (rAll K) (tCons te tNil)) D σ H := h
def sp_is_between (K : PySem.W.Frag) : Sp := fun vs H Q _ => ∃ (p q b : Addr) (as cs : List Addr) (rows : List (List Int)) (zs : List Int) (ps : List (Int × Int)), vs = [.ref p, .ref q, .ref b] ∧ Tab H p as rows ∧ rows.length ≤ 8 ∧ (∀ r ∈ rows, r.length = zs.length ∧ ∀ y ∈ r, Bd 110 y) ∧ zs.length ≤ 8 ∧ H q = some (.lst (zs.map V.int)) ∧ (∀ z ∈ zs, Bd 110 z) ∧ H b = some (.lst (cs.map V.ref)) ∧ EdgesAt H cs ps ∧ ps.length = rows.length ∧
  ∀ H', Ex H H' → Q (.bl ((List.zipWith (fun (t : Int) (e : Int × Int) => decide (e.1 ≤ t) && decide (t ≤ e.2)) (Ls.totals rows zs) ps).all id)) H'

theorem ok_is_between (T : Txt K mg) : FnOk P w K mg base CX0 2 T.f_is_between T.fd_is_between ["table", "whole", "ends"] (sp_is_between K) := by
  refine Fun.ok T.F_is_between sc_is_between (fun vs H Q E h => ?_) (fun cdv A outer s H vs Q E hr h => ?_)
  · obtain ⟨_, _, _, _, _, _, _, _, rfl, _⟩ := h; rfl
  · refine ⟨_, (pss_one (ps_ret (pe_callB (id := "all") (r := rAll K) (cr_all rfl) (by rfl) T.n_all (by decide +kernel) (pa_cons (pe_lc (own := [("total", 3), ("low", 4), ("high", 5)]) (wi := iZip K _) (g := gTup K 2 (gCons (gName 3) (gCons (gTup K 2 (gCons (gName 4) (gCons (gName 5) gNil))) gNil))) (tt := tYes) rfl sc_is_between.nd (pi_zip (by rfl) T.n_zip (pa_cons (pe_call (ok_row_totals T) hr (by rfl) T.g_row_totals T.k_row_totals T.b_row_totals .nil pass0 (pa_cons (pv 0) (pa_cons (pv 1) pa_nil))) (pa_cons (pv 2) pa_nil))) (blkOk_by (N := ["table", "whole", "ends", "total", "low", "high"]) (sc := (defScope s_is_between)) (by decide +kernel)) (fun _ _ _ _ _ => (pg_tup rfl (pgs_cons (pg_name (i := 3) sc_is_between.nd rfl (Or.inl rfl)) (pgs_cons (pg_tup rfl (pgs_cons (pg_name (i := 4) sc_is_between.nd rfl (Or.inl rfl)) (pgs_cons (pg_name (i := 5) sc_is_between.nd rfl (Or.inl rfl)) pgs_nil))) pgs_nil)))) (fun _ _ _ _ _ => pts_nil) (fun _ _ _ _ _ => (pe_chain op_le op_le (pv 4) (pv 3) (pv 5)))) pa_nil)))), ?_⟩
    obtain ⟨p, q, b, as, cs, rows, zs, ps, rfl, hT, m8, hr, z8, hq, hz, hb, hps, pl, k⟩ := h
    have lt : (Ls.totals rows zs).length = rows.length := by unfold Ls.totals; rw [List.length_map]
    refine s_retAll ?_
    refine el_zipPB (K := K) (σ := [some (.ref p), some (.ref q), some (.ref b), none, none, none]) (vs := [3, 4, 5]) (j1 := 3) (j2 := 4) (j3 := 5) (cs := cs) (xs := Ls.totals rows zs) (ps := ps) (fun t e => decide (e.1 ≤ t) && decide (t ≤ e.2)) (fun Q' h' => ?_) hb hps (by omega) (by omega) (fun u v z => rfl) (fun x e H2 hx he e2 => ?_) (fun D H2 nD e2 hD => ?_)
    · exact ⟨_, rfl, _, rfl, p, q, as, rows, zs, rfl, hT, m8, hr, z8, hq, hz, fun d H1 nd e1 hd => ⟨_, rfl, h' d H1 nd e1 hd⟩⟩
    · exact ev_chain (ev_var (i := 4) rfl) (ev_var (i := 3) rfl) (ev_var (i := 5) rfl) rv_I0 rv_I0
    · exact ⟨D, _, rfl, SqL.of hD, k H2 e2⟩
-- DEF _law_one

def sp__law_one (K : PySem.W.Frag) : Sp := fun vs H Q _ => ∃ (s l : Addr) (n : Int) (xs : List V), vs = [.ref s, .ref l] ∧ SrcAt H s n ∧ n ≤ 500000000 ∧ l ≠ s ∧ SqL K H l xs ∧ 0 < xs.length ∧ xs.length ≤ 1000 ∧
  ∀ v ∈ xs, ∀ H', ExB s H H' → SrcAt H' s (n + 1) → Q v H'

theorem ok__law_one (T : Txt K mg) : FnOk P w K mg base CX0 2 T.f__law_one T.fd__law_one ["_law_source", "_law_some"] (sp__law_one K) := by
  refine Fun.ok T.F__law_one sc__law_one (fun vs H Q E h => ?_) (fun cdv A outer s H vs Q E hr h => ?_)
  · obtain ⟨_, _, _, _, rfl, _⟩ := h; rfl
  · refine ⟨_, (pss_one (ps_ret (pe_ix (r := rIxL K) ix_list (pv 1) (pe_call (ok__law_next T) hr (by rfl) T.g__law_next T.k__law_next T.b__law_next .nil pass0 (pa_cons (pv 0) (pa_cons (pe_callB (id := "len") (r := rLenS K) call_len_seq (by rfl) T.n_len PySem.boot_len (pa_cons (pv 1) pa_nil)) pa_nil))) (fun _ _ => rfl)))), ?_⟩
    obtain ⟨s, l, n, xs, rfl, hs, hn, nls, hl, h0, h1, k⟩ := h
    refine ⟨_, rfl, _, rfl, _, rfl, l, xs, rfl, .inl hl, s, _, n, rfl, hs, by omega, by omega, (by show xs.length < 2 ^ 8000; exact Nat.lt_of_le_of_lt h1 (by decide +kernel)), fun f H' f0 f1 e s' => ?_⟩
    have hk : f.toNat < xs.length := by omega
    refine ⟨l, xs, f, xs[f.toNat], rfl, rfl, e.l nls hl, at_of (j := f.toNat) (by omega) (List.getElem?_eq_getElem hk), ?_⟩
    exact k _ (List.getElem_mem hk) H' e s'
-- DEF _law_mixed

def sp__law_mixed (K : PySem.W.Frag) : Sp := fun vs H Q _ => ∃ (s l : Addr) (n : Int) (xs : List V), vs = [.ref s, .ref l] ∧ SrcAt H s n ∧ n ≤ 500000000 ∧ l ≠ s ∧ SqL K H l xs ∧ xs.length ≤ 100 ∧ (∀ v ∈ xs, DatV K H s v) ∧
  ∀ (ys : List V) (p : Addr) (H' : Hp), ys.Perm xs → H p = none → ExB s H H' → SrcAt H' s (n + 100) → H' p = some (.lst ys) → Q (.ref p) H'

theorem ok__law_mixed (T : Txt K mg) : FnOk P w K mg base CX0 2 T.f__law_mixed T.fd__law_mixed ["_law_source", "_law_some"] (sp__law_mixed K) := by
  refine Fun.ok T.F__law_mixed sc__law_mixed (fun vs H Q E h => ?_) (fun cdv A outer s H vs Q E hr h => ?_)
  · obtain ⟨_, _, _, _, rfl, _⟩ := h; rfl
  · refine ⟨_, (pss_cons (ps_set (i := 2) sc__law_mixed.nd rfl (by first | exact Or.inl rfl | exact Or.inr rfl) (pe_callTy (T := "list") (r := rListS K) call_list_of (by rfl) T.n_list (by decide +kernel) (pa_cons (pv 1) pa_nil)))
      (pss_cons (ps_set (i := 3) sc__law_mixed.nd rfl (by first | exact Or.inl rfl | exact Or.inr rfl) (pe_lst pa_nil))
      (pss_cons (ps_while PassesOwn.never (pt_cmpR (r := rNeD K) (op_neD hr.units) (pv 2) (pe_lst pa_nil) (nomark _))
        (pss_one (ps_expr (pe_bm PySem.F.plainAttrs_list PySem.F.slot_list_append PySem.F.type_list_append mt_append (pv 3) (pa_cons (pe_bm PySem.F.plainAttrs_list PySem.F.slot_list_pop PySem.F.type_list_pop mt_popAt (pv 2) (pa_cons (pe_call (ok__law_next T) hr (by rfl) T.g__law_next T.k__law_next T.b__law_next .nil pass0 (pa_cons (pv 0) (pa_cons (pe_callB (id := "len") (r := rLenS K) call_len_seq (by rfl) T.n_len PySem.boot_len (pa_cons (pv 2) pa_nil)) pa_nil))) pa_nil)) pa_nil)))))
      (pss_one (ps_ret (pv 3)))))), ?_⟩
    obtain ⟨s, l, n, xs, rfl, hs, hn, nls, hl, h1, hd, k⟩ := h
    -- left, found
    refine ⟨_, rfl, l, xs, rfl, .inl hl, fun q nq => ?_⟩
    refine ⟨Nat.zero_le _, fun p np => ?_⟩
    have nqs : q ≠ s := hs.ne nq
    have nps : p ≠ s := (hs.ex (Ex.new nq)).ne np
    have npq : p ≠ q := (ne_of_none upd_same np).symm
    have npH : H p = none := fresh_back (Ex.new nq) np
    refine ⟨fun m σ H' => ∃ ls fs : List V, σ = [some (.ref s), some (.ref l), some (.ref q), some (.ref p)] ∧ m = ls.length ∧ (fs ++ ls).Perm xs ∧ H' q = some (.lst ls) ∧ H' p = some (.lst fs) ∧ ExB s H H' ∧ SrcAt H' s (n + fs.length),
      ⟨xs.length, xs, [], rfl, rfl, .refl _, ?_, upd_same, ?_, ?_⟩, ?_⟩
    · rw [upd_ne npq.symm]
      exact upd_same
    · exact ExB.of ((Ex.new nq).trans (Ex.new np))
    · exact (hs.ex ((Ex.new nq).trans (Ex.new np))).le (by simp)
    rintro m σ H1 ⟨ls, fs, rfl, rfl, hp, hq, hpf, e1, s1⟩
    have hlen : fs.length + ls.length = xs.length := by
      rw [← List.length_append]
      exact hp.length_eq
    obtain ⟨ds, d1, d2, d3⟩ := dat_all (K := K) (H := H1) (s := s) (xs := ls) fun v hv => (hd v (hp.mem_iff.mp (List.mem_append_right _ hv))).exB e1
    refine ⟨_, rfl, Nat.zero_le _, fun z nz => ?_⟩
    have x1 : Ex H1 (upd H1 z (.lst [])) := Ex.new nz
    refine ⟨_, _, .lst (SqL.of (x1 _ _ hq)) (dpAll_ex x1 d1), .lst (SqL.of upd_same) .nil, shaped_list d2 (by omega), rfl, _, rfl, ?_⟩
    rw [eqv_nil]
    cases ls with
    | nil =>
      cases d1
      refine iteF ?_
      refine ⟨_, rfl, ?_⟩
      rw [List.append_nil] at hp
      exact k fs p _ hp npH (e1.trans (ExB.of x1)) ((s1.ex x1).le (by have := hp.length_eq; omega)) (x1 _ _ hpf)
    | cons y0 ls0 =>
      cases d1 with
      | cons _ _ =>
        refine iteT ?_
        refine ⟨fun σ' H' => ∃ ls' fs' : List V, σ' = [some (.ref s), some (.ref l), some (.ref q), some (.ref p)] ∧ ls'.length < (y0 :: ls0).length ∧ (fs' ++ ls').Perm xs ∧ H' q = some (.lst ls') ∧ H' p = some (.lst fs') ∧ ExB s H H' ∧ SrcAt H' s (n + fs'.length),
          fun σ' H' ⟨ls', fs', a1, a2, a3, a4, a5, a6, a7⟩ => ⟨ls'.length, a2, ls', fs', a1, rfl, a3, a4, a5, a6, a7⟩, ?_⟩
        refine ⟨_, rfl, .inl ⟨rfl, _, SqL.of (x1 _ _ hpf)⟩, _, rfl, .inl ⟨rfl, _, SqL.of (x1 _ _ hq)⟩, _, rfl, _, rfl, q, _, rfl, .inl (SqL.of (x1 _ _ hq)), s, _, n + fs.length, rfl, s1.ex x1, by omega, (by simp only [List.length_cons]; omega), ?_, fun f H2 f0 f1 e2 s2 => ?_⟩
        · show (((y0 :: ls0).length : Nat) : Int).natAbs < 2 ^ 8000
          rw [Int.natAbs_natCast]
          exact Nat.lt_of_le_of_lt (show (y0 :: ls0).length ≤ 100 by omega) (by decide +kernel)
        · have hk : f.toNat < (y0 :: ls0).length := by omega
          have hy := List.getElem?_eq_getElem hk
          refine ⟨q, _, f, f.toNat, _, rfl, rfl, e2 _ _ nqs (x1 _ _ hq), by omega, by omega, seqIx (n := 0) f0 f1, hy, ?_⟩
          refine ⟨p, fs, _, rfl, rfl, ?_, small1000 (by omega), ?_⟩
          · rw [upd_ne npq]
            exact e2 _ _ nps (x1 _ _ hpf)
          · refine ⟨_, _, rfl, ?_, (perm_pop hy).trans hp, ?_, upd_same, ?_, ?_⟩
            · rw [List.length_eraseIdx_of_lt hk]
              omega
            · rw [upd_ne npq.symm]
              exact upd_same
            · refine fun b o nb h => ?_
              have nbp := ne_of_none h npH
              have nbq := ne_of_none h nq
              rw [upd_ne nbp, upd_ne nbq]
              exact e2 _ _ nb (x1 _ _ (e1 _ _ nb h))
            · have s3 : SrcAt H2 s (n + ((fs ++ [(y0 :: ls0)[f.toNat]]).length : Nat)) := s2.le (by rw [List.length_append]; simp; omega)
              obtain ⟨a1, a2, a3, a4, a5⟩ := s3
              exact ⟨a1, a2, a3, by rw [upd_ne nps.symm, upd_ne nqs.symm]; exact a4, a5⟩
-- DEF plus

def sp_plus (K : PySem.W.Frag) : Sp := fun vs H Q _ => ∃ (p q : Addr) (x y : Rat), vs = [.ref p, .ref q] ∧ H p = some (.tup (frV x)) ∧ H q = some (.tup (frV y)) ∧ Bd 100000 x.num ∧ Bd 100000 (x.den : Int) ∧ Bd 100000 y.num ∧ Bd 100000 (y.den : Int) ∧ Bd 9000 ((x.den : Int) * (y.den : Int)) ∧
  ∀ (r : Addr) (H' : Hp), H r = none → Ex H H' → H' r = some (.tup (frV (x + y))) → Q (.ref r) H'

theorem ok_plus (T : Txt K mg) : FnOk P w K mg base CX0 3 T.f_plus T.fd_plus ["one", "other"] (sp_plus K) := by
  refine Fun.ok T.F_plus sc_plus (fun vs H Q E h => ?_) (fun cdv A outer s H vs Q E hr h => ?_)
  · obtain ⟨_, _, _, _, rfl, _⟩ := h; rfl
  · refine ⟨_, (pss_one (ps_ret (pe_call (ok_fraction T) hr (by rfl) T.g_fraction T.k_fraction T.b_fraction .nil pass0 (pa_cons (pe_op op_add (pe_op op_mulW (pe_ix (r := rIxT K) ix_tup (pv 0) pe_int (fun _ _ => rfl)) (pe_ix (r := rIxT K) ix_tup (pv 1) pe_int (fun _ _ => rfl))) (pe_op op_mulW (pe_ix (r := rIxT K) ix_tup (pv 1) pe_int (fun _ _ => rfl)) (pe_ix (r := rIxT K) ix_tup (pv 0) pe_int (fun _ _ => rfl)))) (pa_cons (pe_op op_mulW (pe_ix (r := rIxT K) ix_tup (pv 0) pe_int (fun _ _ => rfl)) (pe_ix (r := rIxT K) ix_tup (pv 1) pe_int (fun _ _ => rfl))) pa_nil))))), ?_⟩
    obtain ⟨p, q, x, y, rfl, hp, hq, ba, bb, bc, bd, bz, k⟩ := h
    unfold frV at hp hq
    refine ⟨_, rfl, p, _, _, _, rfl, rfl, SqT.of hp, rfl, _, rfl, q, _, _, _, rfl, rfl, SqT.of hq, rfl, _, _, rfl, rfl, ba.mulOk bd, ?_⟩
    
    refine ⟨_, rfl, q, _, _, _, rfl, rfl, SqT.of hq, rfl, _, rfl, p, _, _, _, rfl, rfl, SqT.of hp, rfl, _, _, rfl, rfl, bc.mulOk bb, _, _, rfl, rfl, ?_⟩
    refine ⟨_, rfl, p, _, _, _, rfl, rfl, SqT.of hp, rfl, _, rfl, q, _, _, _, rfl, rfl, SqT.of hq, rfl, _, _, rfl, rfl, bb.mulOk bd, ?_⟩
    refine ⟨_, _, rfl, den_ne x y, bz, fun r H' nr e hr => k r H' nr e ?_⟩
    rw [hr, fr_com (den_pos x y), fr_plus]
-- DEF times

def sp_times (K : PySem.W.Frag) : Sp := fun vs H Q _ => ∃ (p q : Addr) (x y : Rat), vs = [.ref p, .ref q] ∧ H p = some (.tup (frV x)) ∧ H q = some (.tup (frV y)) ∧ Bd 100000 x.num ∧ Bd 100000 (x.den : Int) ∧ Bd 100000 y.num ∧ Bd 100000 (y.den : Int) ∧ Bd 9000 ((x.den : Int) * (y.den : Int)) ∧
  ∀ (r : Addr) (H' : Hp), H r = none → Ex H H' → H' r = some (.tup (frV (x * y))) → Q (.ref r) H'

theorem ok_times (T : Txt K mg) : FnOk P w K mg base CX0 3 T.f_times T.fd_times ["one", "other"] (sp_times K) := by
  refine Fun.ok T.F_times sc_times (fun vs H Q E h => ?_) (fun cdv A outer s H vs Q E hr h => ?_)
  · obtain ⟨_, _, _, _, rfl, _⟩ := h; rfl
  · refine ⟨_, (pss_one (ps_ret (pe_call (ok_fraction T) hr (by rfl) T.g_fraction T.k_fraction T.b_fraction .nil pass0 (pa_cons (pe_op op_mulW (pe_ix (r := rIxT K) ix_tup (pv 0) pe_int (fun _ _ => rfl)) (pe_ix (r := rIxT K) ix_tup (pv 1) pe_int (fun _ _ => rfl))) (pa_cons (pe_op op_mulW (pe_ix (r := rIxT K) ix_tup (pv 0) pe_int (fun _ _ => rfl)) (pe_ix (r := rIxT K) ix_tup (pv 1) pe_int (fun _ _ => rfl))) pa_nil))))), ?_⟩
    obtain ⟨p, q, x, y, rfl, hp, hq, ba, bb, bc, bd, bz, k⟩ := h
    unfold frV at hp hq
    refine ⟨_, rfl, p, _, _, _, rfl, rfl, SqT.of hp, rfl, _, rfl, q, _, _, _, rfl, rfl, SqT.of hq, rfl, _, _, rfl, rfl, ba.mulOk bc, ?_⟩
    refine ⟨_, rfl, p, _, _, _, rfl, rfl, SqT.of hp, rfl, _, rfl, q, _, _, _, rfl, rfl, SqT.of hq, rfl, _, _, rfl, rfl, bb.mulOk bd, ?_⟩
    refine ⟨_, _, rfl, den_ne x y, bz, fun r H' nr e hr => k r H' nr e ?_⟩
    rw [hr, fr_com (den_pos x y), fr_mul]
-- DEF is_fractions

def sp_is_fractions (K : PySem.W.Frag) : Sp := fun vs H Q _ => ∃ (a : Addr) (bs : List Addr) (qs : List Rat) (n : Int), vs = [.ref a, .int n] ∧ FrL H a bs qs ∧ (qs.length : Int) = n ∧ qs.length ≤ 100 ∧ ∀ H', Ex H H' → Q (.bl true) H'

theorem ok_is_fractions (T : Txt K mg) : FnOk P w K mg base CX0 3 T.f_is_fractions T.fd_is_fractions ["thing", "many"] (sp_is_fractions K) := by
  refine Fun.ok T.F_is_fractions sc_is_fractions (fun vs H Q E h => ?_) (fun cdv A outer s H vs Q E hr h => ?_)
  · obtain ⟨_, _, _, _, rfl, _⟩ := h; rfl
  · refine ⟨_, (pss_one (ps_ret (pe_and (pe_call (ok_is_long T) (hr.mono (by decide)) (by rfl) T.g_is_long T.k_is_long T.b_is_long .nil pass0 (pa_cons (pv 0) (pa_cons (pv 1) pa_nil))) (pe_one (pe_callB (id := "all") (r := rAll K) (cr_all rfl) (by rfl) T.n_all (by decide +kernel) (pa_cons (pe_lc (own := [("value", 2)]) (wi := iList K _) (g := gName 2) (tt := tYes) rfl sc_is_fractions.nd (pi_list (pv 0)) (blkOk_by (N := ["thing", "many", "value"]) (sc := (defScope s_is_fractions)) (by decide +kernel)) (fun _ _ _ _ _ => pg_name (i := 2) sc_is_fractions.nd rfl (Or.inl rfl)) (fun _ _ _ _ _ => pts_nil) (fun _ _ _ _ _ => (pe_call (ok_is_fraction T) hr (by rfl) T.g_is_fraction T.k_is_fraction T.b_is_fraction .nil pass0 (pa_cons (pv 2) pa_nil)))) pa_nil)))))), ?_⟩
    obtain ⟨a, bs, qs, n, rfl, ha, hl, h8, k⟩ := h
    have el : bs.length = qs.length := Paired.length ha.2
    refine s_ret (ev_andV (a := true) (b := true) (ev_fn (sp := sp_is_long K) (ea_cons (ev_var rfl) (ea_cons (ev_var rfl) ea_nil)) fun H3 e3 Q3 q3 => ⟨a, _, n, rfl, e3 _ _ ha.1, by rw [List.length_map, el]; exact hl, q3⟩) (fun _ => ev_all (el_yes (a := a) rfl ha.1 (by rw [List.length_map]; omega) (fun x H' hx e => ?_) (fun x => rfl)))) fun H' e => k H' e
    obtain ⟨y, hy, rfl⟩ := List.mem_map.mp hx
    obtain ⟨i, hi⟩ := List.mem_iff_getElem?.mp hy
    obtain ⟨q, hq, hh⟩ := paired_get ha.2 hi
    refine ev_fn (ea_cons (ev_var rfl) ea_nil) fun H3 e3 Q3 q3 => ⟨_, true, rfl, ?_, q3 H3 (Ex.refl _)⟩
    have h2 := FracV.two (K := K) ((e.trans e3) _ _ hh)
    rw [fr_true] at h2
    exact h2
-- DEF is_table

def sp_is_table (K : PySem.W.Frag) : Sp := fun vs H Q _ => ∃ (p : Addr) (as : List Addr) (rows : List (List Int)) (m w : Nat), vs = [.ref p] ∧ TabOk H p as rows m w ∧ ∀ H', Ex H H' → Q (.bl true) H'

theorem ok_is_table (T : Txt K mg) : FnOk P w K mg base CX0 3 T.f_is_table T.fd_is_table ["thing"] (sp_is_table K) := by
  refine Fun.ok T.F_is_table sc_is_table (fun vs H Q E h => ?_) (fun cdv A outer s H vs Q E hr h => ?_)
  · obtain ⟨_, _, _, _, _, rfl, _⟩ := h; rfl
  · refine ⟨_, (pss_cons (ps_if (PW.pt (pw_or (pt_not (pt_val (pe_callB (id := "isinstance") (r := rIsi K) call_isi (by rfl) T.n_isinstance (by decide +kernel) (pa_cons (pv 0) (pa_cons (pe_bltn (v := .ty "list") (by rfl) T.n_list (by decide +kernel) rfl) pa_nil))))) (pw_or1 (pt_not (pt_chain op_le op_le pe_int (pe_callB (id := "len") (r := rLenS K) call_len_seq (by rfl) T.n_len PySem.boot_len (pa_cons (pv 0) pa_nil)) (pe_glob (v := .int 8) (by rfl) T.g_MOST ⟨_, rfl⟩))))))
        (pss_one (ps_ret pe_bl))
        pss_nil)
      (pss_cons (ps_if (pt_not (pt_val (pe_callB (id := "all") (r := rAll K) (cr_all rfl) (by rfl) T.n_all (by decide +kernel) (pa_cons (pe_lc (own := [("row", 1)]) (wi := iList K _) (g := gName 1) (tt := tYes) rfl sc_is_table.nd (pi_list (pv 0)) (blkOk_by (N := ["thing", "row"]) (sc := (defScope s_is_table)) (by decide +kernel)) (fun _ _ _ _ _ => pg_name (i := 1) sc_is_table.nd rfl (Or.inl rfl)) (fun _ _ _ _ _ => pts_nil) (fun _ _ _ _ _ => (pe_call (ok_is_row T) hr (by rfl) T.g_is_row T.k_is_row T.b_is_row .nil pass0 (pa_cons (pv 1) pa_nil)))) pa_nil))))
        (pss_one (ps_ret pe_bl))
        pss_nil)
      (pss_one (ps_ret (pe_callB (id := "all") (r := rAll K) (cr_all rfl) (by rfl) T.n_all (by decide +kernel) (pa_cons (pe_lc (own := [("row", 1)]) (wi := iList K _) (g := gName 1) (tt := tYes) rfl sc_is_table.nd (pi_list (pv 0)) (blkOk_by (N := ["thing", "row"]) (sc := (defScope s_is_table)) (by decide +kernel)) (fun _ _ _ _ _ => pg_name (i := 1) sc_is_table.nd rfl (Or.inl rfl)) (fun _ _ _ _ _ => pts_nil) (fun _ _ _ _ _ => (pe_cmpR op_eq (pe_callB (id := "len") (r := rLenS K) call_len_seq (by rfl) T.n_len PySem.boot_len (pa_cons (pv 1) pa_nil)) (pe_callB (id := "len") (r := rLenS K) call_len_seq (by rfl) T.n_len PySem.boot_len (pa_cons (pe_ix (r := rIxL K) ix_list (pv 0) pe_int (fun _ _ => rfl)) pa_nil)) (nomark _)))) pa_nil)))))), ?_⟩
    obtain ⟨p, as, rows, m, w, rfl, hT, k⟩ := h
    have hb := hT.b
    refine q_when (b := false) (et_is (et_or (et_not (et_B (ev_isi (t := "list") (b := true) (ev_var rfl) ev_c (fun H1 e => .base (.lst (e _ _ hT.tab.1))) (by decide +kernel)))) (fun _ => et_not (et_test (ev_chain ev_c (ev_is (ev_len (ev_var rfl) (SqL.of hT.tab.1)) (by rw [List.length_map, hT.al])) ev_c rv_le rv_le)))) ?_) (fun z => nomatch z) (fun _ H1 e1 => ?_)
    · rw [decide_eq_true (show (1 : Int) ≤ (m : Int) by omega), decide_eq_true (show (m : Int) ≤ 8 by omega)]
      rfl
    have hT1 := hT.ex e1
    refine q_when (b := false) (et_not (et_B (ev_all (el_yes (a := p) rfl hT1.tab.1 (by rw [List.length_map, hT.al]; omega) (fun x H' hx e => ?_) (fun x => rfl))))) (fun z => nomatch z) (fun _ H2 e2 => ?_)
    · obtain ⟨a, ha, rfl⟩ := List.mem_map.mp hx
      obtain ⟨r, hr, hh⟩ := paired_mem hT1.tab.2 ha
      have := hT1.w_ r hr
      exact ev_fn (ea_cons (ev_var rfl) ea_nil) fun H3 e3 Q3 q3 => ⟨a, r, rfl, (e.trans e3) _ _ hh, by omega, by omega, q3⟩
    have hT2 := hT1.ex e2
    refine s_ret (ev_all (el_yes (a := p) rfl hT2.tab.1 (by rw [List.length_map, hT.al]; omega) (fun x H' hx e => ?_) (fun x => rfl))) fun H3 e3 => k H3 ((e1.trans e2).trans e3)
    obtain ⟨a, ha, rfl⟩ := List.mem_map.mp hx
    obtain ⟨r, hr, hh⟩ := paired_mem hT2.tab.2 ha
    obtain ⟨a0, r0, _, _, hh0, hl0, at0⟩ := hT2.row0
    have := hT2.w_ r hr
    refine ev_is (ev_op (ev_len (ev_var rfl) (SqL.of (e _ _ hh))) (ev_len (ev_op (ev_var rfl) ev_c (rv_ixL (SqL.of (e _ _ hT2.tab.1)) at0)) (SqL.of (e _ _ hh0))) (rv_eq rfl)) ?_
    rw [List.length_map, List.length_map, hl0, this]
    exact congrArg V.bl (decide_eq_true rfl)
-- DEF _law_ends

def sp__law_ends (K : PySem.W.Frag) : Sp := fun vs H Q _ => ∃ (s : Addr) (n m : Int), vs = [.ref s, .int m] ∧ SrcAt H s n ∧ n ≤ 400000000 ∧ 1 ≤ m ∧ m ≤ 8 ∧
  ∀ (as : List Addr) (es : List (Int × Int)) (p : Addr) (H' : Hp), (es.length : Int) = m → (∀ e ∈ es, 0 ≤ e.1 ∧ e.1 ≤ m ∧ 0 ≤ e.2 ∧ e.2 ≤ m) → Conn es m → EdgesAt H' as es → H' p = some (.lst (as.map V.ref)) → H p = none → ExB s H H' → SrcAt H' s (n + 300) → Q (.ref p) H'

theorem ok__law_ends (T : Txt K mg) : FnOk P w K mg base CX0 3 T.f__law_ends T.fd__law_ends ["_law_source", "_law_many"] (sp__law_ends K) := by
  refine Fun.ok T.F__law_ends sc__law_ends (fun vs H Q E h => ?_) (fun cdv A outer s H vs Q E hr h => ?_)
  · obtain ⟨_, _, _, rfl, _⟩ := h; rfl
  · refine ⟨_, (pss_cons (ps_set (i := 2) sc__law_ends.nd rfl (by first | exact Or.inl rfl | exact Or.inr rfl) (pe_call (ok__law_mixed T) hr (by rfl) T.g__law_mixed T.k__law_mixed T.b__law_mixed .nil pass0 (pa_cons (pv 0) (pa_cons (pe_listRg rfl (by rfl) T.n_list (prg_1 (by rfl) T.n_range (pe_op op_add (pv 1) pe_int))) pa_nil))))
      (pss_cons (ps_set (i := 3) sc__law_ends.nd rfl (by first | exact Or.inl rfl | exact Or.inr rfl) (pe_lst pa_nil))
      (pss_cons (ps_for PassesOwn.never rfl (pi_range1 (by rfl) T.n_range (pa_cons (pv 1) pa_nil)) (pg_name (i := 4) sc__law_ends.nd rfl (by first | exact Or.inl rfl | exact Or.inr rfl))
        (pss_cut (ps_set (i := 5) sc__law_ends.nd rfl (by first | exact Or.inl rfl | exact Or.inr rfl) (pe_tup (pa_cons (pe_ix (r := rIxL K) ix_list (pv 2) (pe_call (ok__law_next T) (hr.mono (by decide)) (by rfl) T.g__law_next T.k__law_next T.b__law_next .nil pass0 (pa_cons (pv 0) (pa_cons (pe_op op_add (pv 4) pe_int) pa_nil))) (fun _ _ => rfl)) (pa_cons (pe_ix (r := rIxL K) ix_list (pv 2) (pe_op op_add (pv 4) pe_int) (fun _ _ => rfl)) pa_nil))))
          (pss_one (ps_expr (pe_bm PySem.F.plainAttrs_list PySem.F.slot_list_append PySem.F.type_list_append mt_append (pv 3) (pa_cons (pe_ix (r := rIxL K) ix_list (pe_lst (pa_cons (pv 5) (pa_cons (pe_revT (pv 5)) pa_nil))) (pe_call (ok__law_next T) (hr.mono (by decide)) (by rfl) T.g__law_next T.k__law_next T.b__law_next .nil pass0 (pa_cons (pv 0) (pa_cons pe_int pa_nil))) (fun _ _ => rfl)) pa_nil))))))
      (pss_one (ps_ret (pe_call (ok__law_mixed T) hr (by rfl) T.g__law_mixed T.k__law_mixed T.b__law_mixed .nil pass0 (pa_cons (pv 0) (pa_cons (pv 3) pa_nil)))))))), ?_⟩
    obtain ⟨s, n, m, rfl, hs, hn, hm1, hm8, k⟩ := h
    refine ⟨_, rfl, _, rfl, _, _, rfl, rfl, _, rfl, RgOk.of_le (by omega) (by omega) (by omega) (by omega), fun q nq => ?_⟩
    have x1 := Ex.new (o := .lst (rgV 0 (m + 1))) nq
    refine ⟨s, q, n, _, rfl, hs.ex x1, by omega, hs.ne nq, SqL.of upd_same, ?_, ?_, fun ys p1 H1 hp np1 e1 s1 h1 => ?_⟩
    · rw [rgV_length]
      omega
    · intro v hv
      rw [rgV_nums] at hv
      obtain ⟨i, _, rfl⟩ := List.mem_map.mp hv
      exact datv_int i
    rw [rgV_nums] at hp
    obtain ⟨pl, rfl, hpl⟩ := perm_ints hp
    have np1H : H p1 = none := fresh_back x1 np1
    have e01 : ExB s H H1 := (ExB.of x1).trans e1
    have hpll : pl.length = m.toNat + 1 := by
      rw [hpl.length_eq, numsTo_length]
      omega
    have hplm : ∀ a, a ∈ pl ↔ 0 ≤ a ∧ a ≤ m := fun a => by
      rw [hpl.mem_iff, mem_numsTo]
      omega
    have np1s : p1 ≠ s := (hs.ex x1).ne np1
    clear hp x1 e1 np1 nq
    -- found
    refine ⟨Nat.zero_le _, fun p2 np2 => ?_⟩
    have x2 : Ex H1 (upd H1 p2 (.lst [])) := Ex.new np2
    have np2s : p2 ≠ s := s1.ne np2
    have np12 : p1 ≠ p2 := ne_of_none h1 np2
    have np2H : H p2 = none := fresh_B e01 np2 s1.obj
    refine ⟨_, rfl, _, rfl, by omega, by omega, for_range (lo := 0) (n := m.toNat) (fun i σ H' => ∃ (y4 y5 : Option V) (as : List Addr) (es : List (Int × Int)), σ = [some (.ref s), some (.int m), some (.ref p1), some (.ref p2), y4, y5] ∧ es.length = i ∧ EdgesAt H' as es ∧ H' p2 = some (.lst (as.map V.ref)) ∧
      ExB s H H' ∧ SrcAt H' s (n + 100 + 2 * i) ∧ H' p1 = some (.lst (pl.map V.int)) ∧ EdgeTree pl es ∧ (∀ e ∈ es, 0 ≤ e.1 ∧ e.1 ≤ m ∧ 0 ≤ e.2 ∧ e.2 ≤ m)) ?_ ?_ ?_⟩
    · exact ⟨_, _, [], [], rfl, rfl, .nil, upd_same, e01.trans (ExB.of x2), (s1.ex x2).le (by omega), x2 _ _ h1, fun j hj => absurd hj (Nat.not_lt_zero _), fun e he => by simp at he⟩
    · rintro i σ H2 hi ⟨y4, y5, as, es, rfl, hes, hE, h2, e2, s2, g1, hT, hb⟩
      have hsz := hes
      have sat : ∀ {j : Nat}, j < pl.length → ∃ z, (pl.map V.int)[j]? = some (.int z) ∧ pl[j]? = some z := fun {j} hj => ⟨pl[j], by rw [List.getElem?_map, List.getElem?_eq_getElem hj]; rfl, List.getElem?_eq_getElem hj⟩
      -- two
      refine ⟨fun σ' H' => ∃ (t : Addr) (f : Nat) (a b : Int), σ' = [some (.ref s), some (.int m), some (.ref p1), some (.ref p2), some (.int (0 + (i : Int))), some (.ref t)] ∧ H' t = some (.tup [.int a, .int b]) ∧ f ≤ i ∧ pl[f]? = some a ∧ pl[i + 1]? = some b ∧ ExB s H2 H' ∧ SrcAt H' s (n + 100 + 2 * i + 1), ?_, ?_⟩
      · refine ⟨_, rfl, _, rfl, _, rfl, _, _, rfl, rfl, s, _, _, rfl, s2, by omega, by omega, ?_, fun f H3 f0 f1 e3 s3 => ?_⟩
        · unfold Bd
          exact Nat.lt_of_lt_of_le (show (0 + (i : Int) + 1).natAbs < 1024 by omega) (by decide +kernel)
        · obtain ⟨a, ha, ha'⟩ := sat (j := f.toNat) (by omega)
          obtain ⟨b, hb, hb'⟩ := sat (j := i + 1) (by omega)
          refine ⟨p1, _, _, _, rfl, rfl, SqL.of (e3 _ _ np1s g1), at_of (j := f.toNat) (by omega) ha, ?_⟩
          refine ⟨_, rfl, _, rfl, _, _, rfl, rfl, p1, _, _, _, rfl, rfl, SqL.of (e3 _ _ np1s g1), at_of (j := i + 1) (by omega) hb, (by show 2 ≤ sizeLine; decide), fun t nt => ?_⟩
          exact ⟨t, f.toNat, a, b, rfl, upd_same, by omega, ha', hb', e3.trans (ExB.of (Ex.new nt)), s3.ex (Ex.new nt)⟩
      · rintro σ' H3 ⟨t, f, a, b, rfl, ht, hf, ha, hb', e3, s3⟩
        have h2' := e3 _ _ np2s h2
        refine ⟨_, rfl, .inl ⟨rfl, _, SqL.of h2'⟩, _, rfl, _, rfl, t, _, _, rfl, SqT.of ht, fun u nu => ?_⟩
        have xu : Ex H3 (upd H3 u (.tup [.int b, .int a])) := Ex.new nu
        refine ⟨(by show 2 ≤ sizeLine; decide), fun l nl => ?_⟩
        have xl : Ex (upd H3 u (.tup [.int b, .int a])) (upd (upd H3 u (.tup [.int b, .int a])) l (.lst [.ref t, .ref u])) := Ex.new nl
        have xx := xu.trans xl
        refine ⟨_, rfl, s, 2, _, rfl, s3.ex xx, by omega, by decide, (by unfold Bd; decide +kernel), fun g H4 g0 gl e4 s4 => ?_⟩
        have nls : l ≠ s := (s3.ex xu).ne nl
        have hl4 := e4 _ _ nls (upd_same (H := upd H3 u (.tup [.int b, .int a])) (a := l) (o := .lst [.ref t, .ref u]))
        have st : ∀ c xs, H2 c = some (.tup xs) → H4 c = some (.tup xs) := fun c xs h => tups_B (s3.ex xx) e4 _ _ (tups_E xx _ _ (tups_B s2 e3 _ _ h))
        have st3 : ∀ c xs, H3 c = some (.tup xs) → H4 c = some (.tup xs) := fun c xs h => tups_B (s3.ex xx) e4 _ _ (tups_E xx _ _ h)
        have stu : H4 u = some (.tup [.int b, .int a]) := tups_B (s3.ex xx) e4 _ _ (xl _ _ upd_same)
        have p2' := e4 _ _ np2s (xx _ _ h2')
        have al : as.length = i := by rw [Paired.length hE, hes]
        have fin : ∀ (v : Addr) (e : Int × Int), H4 v = some (.tup [.int e.1, .int e.2]) → (e = (a, b) ∨ e = (b, a)) → rAppend (.ref p2) [.ref v] H4 fun _ H' => ∃ (y4 y5 : Option V) (as : List Addr) (es : List (Int × Int)), [some (V.ref s), some (.int m), some (.ref p1), some (.ref p2), some (.int (0 + (i : Int))), some (.ref t)] = [some (.ref s), some (.int m), some (.ref p1), some (.ref p2), y4, y5] ∧ es.length = i + 1 ∧ EdgesAt H' as es ∧ H' p2 = some (.lst (as.map V.ref)) ∧
            ExB s H H' ∧ SrcAt H' s (n + 100 + 2 * ((i + 1 : Nat) : Int)) ∧ H' p1 = some (.lst (pl.map V.int)) ∧ EdgeTree pl es ∧ (∀ e ∈ es, 0 ≤ e.1 ∧ e.1 ≤ m ∧ 0 ≤ e.2 ∧ e.2 ≤ m) := by
          intro v e hv he
          refine ⟨p2, _, _, rfl, rfl, p2', small1000 (by rw [List.length_map]; omega), _, _, as ++ [v], es ++ [e], rfl, ?_, ?_, ?_, ?_, ?_, ?_, ?_, ?_⟩
          · rw [List.length_append, hes]
            rfl
          · exact paired_imp (fun c d h => tups_U p2' _ _ h) (paired_snoc (EdgesAt.mono st hE) hv)
          · rw [upd_same, List.map_append]
            rfl
          · refine fun c o nc h => ?_
            rw [upd_ne (ne_of_none h np2H)]
            exact e4 _ _ nc (xx _ _ (e3 _ _ nc (e2 _ _ nc h)))
          · obtain ⟨a1, a2, a3, a4, a5, a6, a7, a8⟩ := s4
            exact ⟨a1, a2, a3, by rw [upd_ne np2s.symm]; exact a4, a5, a6, a7, by omega⟩
          · rw [upd_ne np12]
            exact e4 _ _ np1s (xx _ _ (e3 _ _ np1s g1))
          · exact hT.more (by omega) ha (by rw [hes]; exact hb') he
          · intro e' he'
            rcases List.mem_append.mp he' with h | h
            · exact hb e' h
            · have e1 : e' = e := by simpa using h
              subst e1
              have ma := (hplm a).mp (List.mem_of_getElem? ha)
              have mb := (hplm b).mp (List.mem_of_getElem? hb')
              rcases he with rfl | rfl
              · exact ⟨ma.1, ma.2, mb.1, mb.2⟩
              · exact ⟨mb.1, mb.2, ma.1, ma.2⟩
        have hg : g = 0 ∨ g = 1 := by omega
        rcases hg with rfl | rfl
        · exact ⟨l, _, _, .ref t, rfl, rfl, SqL.of hl4, rfl, fin t (a, b) (st3 _ _ ht) (.inl rfl)⟩
        · exact ⟨l, _, _, .ref u, rfl, rfl, SqL.of hl4, rfl, fin u (b, a) stu (.inr rfl)⟩
    · rintro σ H2 ⟨y4, y5, as, es, rfl, hes, hE, h2, e2, s2, g1, hT, hb⟩
      have al : as.length = m.toNat := by rw [Paired.length hE, hes]
      refine ⟨_, rfl, _, rfl, s, p2, _, _, rfl, s2, by omega, np2s, SqL.of h2, (by rw [List.length_map]; omega), fun v hv => ?_, fun ys p H3 hp np e3 s3 h3 => ?_⟩
      · obtain ⟨c, hc, rfl⟩ := List.mem_map.mp hv
        obtain ⟨d, _, hd⟩ := paired_mem hE hc
        exact datv_pair hd (s2.neT hd)
      · obtain ⟨as', es', rfl, pe, hE', _⟩ := perm_refs hp hE
        refine k as' es' p H3 ?_ (fun e he => hb e (pe.mem_iff.mp he)) ?_ (EdgesAt.mono (tups_B s2 e3) hE') h3 (fresh_B e2 np s2.obj) (e2.trans e3) (s3.le (by omega))
        · rw [pe.length_eq, hes]
          omega
        · have c := EdgeTree.conn (m := m.toNat) hT hes hpll fun a h0 h1 => (hplm a).mpr ⟨h0, by omega⟩
          have c2 := c.perm pe
          have em : ((m.toNat : Nat) : Int) = m := by omega
          rw [em] at c2
          exact c2
-- DEF _law_stretches

def sp__law_stretches (K : PySem.W.Frag) : Sp := fun vs H Q _ => ∃ (s : Addr) (n : Int) (m w : Nat), vs = [.ref s, .int m, .int w] ∧ SrcAt H s n ∧ n ≤ 300000000 ∧ 1 ≤ m ∧ m ≤ 8 ∧ 1 ≤ w ∧ w ≤ 8 ∧
  ∀ (rs : List Addr) (rows : List (List Int)) (p : Addr) (H' : Hp), NewTab H H' p rs rows w 100 → rows.length = m → ExB s H H' → SrcAt H' s (n + 400) → Q (.ref p) H'

theorem ok__law_stretches (T : Txt K mg) : FnOk P w K mg base CX0 3 T.f__law_stretches T.fd__law_stretches ["_law_source", "_law_many", "_law_wide"] (sp__law_stretches K) := by
  refine Fun.ok T.F__law_stretches sc__law_stretches (fun vs H Q E h => ?_) (fun cdv A outer s H vs Q E hr h => ?_)
  · obtain ⟨_, _, _, _, rfl, _⟩ := h; rfl
  · refine ⟨_, (pss_cons (ps_set (i := 3) sc__law_stretches.nd rfl (by first | exact Or.inl rfl | exact Or.inr rfl) (pe_call (ok__law_mixed T) hr (by rfl) T.g__law_mixed T.k__law_mixed T.b__law_mixed .nil pass0 (pa_cons (pv 0) (pa_cons (pe_listRg rfl (by rfl) T.n_list (prg_1 (by rfl) T.n_range (pv 2))) pa_nil))))
      (pss_cons (ps_set (i := 4) sc__law_stretches.nd rfl (by first | exact Or.inl rfl | exact Or.inr rfl) (pe_lst pa_nil))
      (pss_cons (ps_for PassesOwn.never rfl (pi_range1 (by rfl) T.n_range (pa_cons (pv 1) pa_nil)) (pg_name (i := 5) sc__law_stretches.nd rfl (by first | exact Or.inl rfl | exact Or.inr rfl))
        (pss_cut (ps_set (i := 6) sc__law_stretches.nd rfl (by first | exact Or.inl rfl | exact Or.inr rfl) (pe_call (ok__law_next T) (hr.mono (by decide)) (by rfl) T.g__law_next T.k__law_next T.b__law_next .nil pass0 (pa_cons (pv 0) (pa_cons (pv 2) pa_nil))))
          (pss_cut (ps_set (i := 7) sc__law_stretches.nd rfl (by first | exact Or.inl rfl | exact Or.inr rfl) (pe_call (ok__law_next T) (hr.mono (by decide)) (by rfl) T.g__law_next T.k__law_next T.b__law_next .nil pass0 (pa_cons (pv 0) (pa_cons (pe_op op_add (pe_op op_sub (pv 2) (pv 6)) pe_int) pa_nil))))
          (pss_one (ps_expr (pe_bm PySem.F.plainAttrs_list PySem.F.slot_list_append PySem.F.type_list_append mt_append (pv 4) (pa_cons (pe_lc (own := [("_law_column", 8)]) (g := gName 8) (tt := tYes) rfl sc__law_stretches.nd (pi_range1 (by rfl) T.n_range (pa_cons (pv 2) pa_nil)) (blkOk_by (N := ["_law_source", "_law_many", "_law_wide", "_law_order", "_law_found", "_law_k", "_law_start", "_law_length", "_law_column"]) (sc := (defScope s__law_stretches)) (by decide +kernel)) (fun _ _ _ _ _ => pg_name (i := 8) sc__law_stretches.nd rfl (Or.inl rfl)) (fun _ _ _ _ _ => pts_nil) (fun _ _ _ _ _ => (pe_callTy (T := "int") call_int1 (by rfl) T.n_int (by decide +kernel) (pa_cons (pe_chain op_le op_lt (pv 6) (pe_ix (r := rIxL K) ix_list (pv 3) (pv 8) (fun _ _ => rfl)) (pe_op op_add (pv 6) (pv 7))) pa_nil)))) pa_nil)))))))
      (pss_one (ps_ret (pv 4)))))), ?_⟩
    obtain ⟨s, n, m, w, rfl, hs, hn, hm1, hm8, hw1, hw8, k⟩ := h
    -- order
    refine ⟨_, rfl, _, rfl, _, rfl, RgOk.of_le (by omega) (by omega) (by omega) (by omega), fun q nq => ?_⟩
    have x1 := Ex.new (o := .lst (rgV 0 (w : Int))) nq
    refine ⟨s, q, n, _, rfl, hs.ex x1, by omega, hs.ne nq, SqL.of upd_same, ?_, ?_, fun ys p1 H1 hp np1 e1 s1 h1 => ?_⟩
    · rw [rgV_length]
      omega
    · intro v hv
      rw [rgV_nums] at hv
      obtain ⟨i, _, rfl⟩ := List.mem_map.mp hv
      exact datv_int i
    rw [rgV_nums] at hp
    obtain ⟨pl, rfl, hpl⟩ := perm_ints hp
    have hpll : pl.length = w := by
      rw [hpl.length_eq, numsTo_length]
      omega
    have e01 : ExB s H H1 := (ExB.of x1).trans e1
    have np1s : p1 ≠ s := (hs.ex x1).ne np1
    -- found
    refine ⟨Nat.zero_le _, fun p2 np2 => ?_⟩
    have x2 : Ex H1 (upd H1 p2 (.lst [])) := Ex.new np2
    have np2s : p2 ≠ s := s1.ne np2
    have np12 : p1 ≠ p2 := ne_of_none h1 np2
    have np2H : H p2 = none := fresh_B e01 np2 s1.obj
    refine ⟨_, rfl, _, rfl, by omega, by omega, for_range (lo := 0) (n := (m : Int).toNat) (fun i σ H' => ∃ (y5 y6 y7 y8 : Option V) (as : List Addr) (rows : List (List Int)), σ = [some (.ref s), some (.int m), some (.int w), some (.ref p1), some (.ref p2), y5, y6, y7, y8] ∧ rows.length = i ∧ NewTab H H' p2 as rows w 100 ∧
      ExB s H H' ∧ SrcAt H' s (n + 100 + 2 * i) ∧ H' p1 = some (.lst (pl.map V.int))) ?_ ?_ ?_⟩
    · exact ⟨_, _, _, _, [], [], rfl, rfl, NewTab.new np2H upd_same, e01.trans (ExB.of x2), (s1.ex x2).le (by omega), x2 _ _ h1⟩
    · rintro i σ H2 hi ⟨y5, y6, y7, y8, as, rows, rfl, hl, hN, e2, s2, g1⟩
      refine ⟨fun σ' H' => ∃ f : Int, σ' = [some (.ref s), some (.int m), some (.int w), some (.ref p1), some (.ref p2), some (.int (0 + (i : Int))), some (.int f), y7, y8] ∧ 0 ≤ f ∧ f < w ∧ ExB s H2 H' ∧ SrcAt H' s (n + 100 + 2 * i + 1), ?_, ?_⟩
      · refine ⟨_, rfl, _, rfl, s, _, _, rfl, s2, by omega, by omega, ?_, fun f H3 f0 f1 e3 s3 => ⟨f, rfl, f0, f1, e3, s3⟩⟩
        unfold Bd
        exact Nat.lt_of_lt_of_le (show ((w : Int)).natAbs < 1024 by omega) (by decide +kernel)
      rintro σ' H3 ⟨f, rfl, f0, f1, e3, s3⟩
      refine ⟨fun σ' H' => ∃ g : Int, σ' = [some (.ref s), some (.int m), some (.int w), some (.ref p1), some (.ref p2), some (.int (0 + (i : Int))), some (.int f), some (.int g), y8] ∧ ExB s H2 H' ∧ SrcAt H' s (n + 100 + 2 * i + 1 + 1), ?_, ?_⟩
      · refine ⟨_, rfl, _, rfl, _, rfl, _, _, rfl, rfl, _, _, rfl, rfl, s, _, _, rfl, s3, by omega, by omega, ?_, fun g H4 g0 gl e4 s4 => ⟨g, rfl, e3.trans e4, s4⟩⟩
        unfold Bd
        exact Nat.lt_of_lt_of_le (show ((w : Int) - f + 1).natAbs < 1024 by omega) (by decide +kernel)
      rintro σ' H4 ⟨g, rfl, e4, s4⟩
      have N4 := hN.exB e4 hs.obj
      have al : as.length = i := by rw [Paired.length N4.tab.2, hl]
      have hp1 := e4 _ _ np1s g1
      refine ⟨_, rfl, .inl ⟨rfl, _, SqL.of N4.tab.1⟩, ?_⟩
      refine el_rng (m := w) (fun o => if (decide (f ≤ pl[o]?.getD 0) && decide (pl[o]?.getD 0 < f + g)) = true then 1 else 0) (ea_cons (ev_var rfl) ea_nil) (by omega) (fun x => rfl) (fun o H5 x5 ho => ev_int1 (ev_chain (ev_var rfl) (ev_op (ev_var rfl) (ev_var rfl) (rv_ixL (SqL.of (x5 _ _ hp1)) (atI_row (by omega)))) (ev_op (ev_var rfl) (ev_var rfl) rv_I0) rv_I0 rv_I0)) H4 (Ex.refl _) _ fun r H5 nr e5 hr => ?_
      refine ⟨p2, _, _, rfl, rfl, e5 _ _ N4.tab.1, small1000 (by rw [List.length_map]; omega), ?_⟩
      refine ⟨_, _, _, _, as ++ [r], rows ++ [_], rfl, by rw [List.length_append, hl]; rfl, N4.app (noneB (e2.trans e4) s4.obj) e5 nr hr (by rw [List.length_map, List.length_range]) (fun y hy => ?_), ?_, ?_, ?_⟩
      · obtain ⟨o, _, rfl⟩ := List.mem_map.mp hy
        split <;> decide
      · refine fun b o nb h => ?_
        rw [upd_ne (ne_of_none h np2H)]
        exact e5 _ _ (e4 _ _ nb (e2 _ _ nb h))
      · obtain ⟨a1, a2, a3, a4, a5, a6, a7, a8⟩ := s4.ex e5
        exact ⟨a1, a2, a3, by rw [upd_ne np2s.symm]; exact a4, a5, a6, a7, by omega⟩
      · rw [upd_ne np12]
        exact e5 _ _ hp1
    · rintro σ H2 ⟨y5, y6, y7, y8, as, rows, rfl, hl, hN, e2, s2, g1⟩
      refine ⟨_, rfl, ?_⟩
      exact k as rows p2 H2 hN (by rw [hl]; omega) e2 (s2.le (by omega))
-- DEF _law_swung

def sp__law_swung (K : PySem.W.Frag) : Sp := fun vs H Q _ => ∃ (s g : Addr) (n : Int) (as : List Addr) (rows : List (List Int)) (m w : Nat), vs = [.ref s, .ref g] ∧ SrcAt H s n ∧ n ≤ 200000000 ∧ g ≠ s ∧ (∀ a ∈ as, a ≠ s) ∧ Tab H g as rows ∧ rows.length = m ∧ (∀ r ∈ rows, r.length = w ∧ ∀ y ∈ r, y.natAbs ≤ 100) ∧ 1 ≤ m ∧ m ≤ 8 ∧ 1 ≤ w ∧ w ≤ 8 ∧
  ∀ (rs : List Addr) (rows' : List (List Int)) (p : Addr) (H' : Hp) (m' w' : Nat), (m' = m ∧ w' = w ∨ m' = w ∧ w' = m) → NewTab H H' p rs rows' w' 100 → rows'.length = m' → ExB s H H' → SrcAt H' s (n + 200) → Q (.ref p) H'

theorem ok__law_swung (T : Txt K mg) : FnOk P w K mg base CX0 3 T.f__law_swung T.fd__law_swung ["_law_source", "_law_table_here"] (sp__law_swung K) := by
  refine Fun.ok T.F__law_swung sc__law_swung (fun vs H Q E h => ?_) (fun cdv A outer s H vs Q E hr h => ?_)
  · obtain ⟨_, _, _, _, _, _, _, rfl, _⟩ := h; rfl
  · refine ⟨_, (pss_cut (ps_set (i := 2) sc__law_swung.nd rfl (by first | exact Or.inl rfl | exact Or.inr rfl) (pe_call (ok__law_mixed T) hr (by rfl) T.g__law_mixed T.k__law_mixed T.b__law_mixed .nil pass0 (pa_cons (pv 0) (pa_cons (pv 1) pa_nil))))
      (pss_cut (ps_if (pt_cmpR op_eq (pe_call (ok__law_next T) (hr.mono (by decide)) (by rfl) T.g__law_next T.k__law_next T.b__law_next .nil pass0 (pa_cons (pv 0) (pa_cons pe_int pa_nil))) pe_int (nomark _))
        (pss_one (ps_set (i := 2) sc__law_swung.nd rfl (by first | exact Or.inl rfl | exact Or.inr rfl) (pe_lc (own := [("_law_k", 7)]) (g := gName 7) (tt := tYes) rfl sc__law_swung.nd (pi_range1 (by rfl) T.n_range (pa_cons (pe_callB (id := "len") (r := rLenS K) call_len_seq (by rfl) T.n_len PySem.boot_len (pa_cons (pe_ix (r := rIxL K) ix_list (pv 2) pe_int (fun _ _ => rfl)) pa_nil)) pa_nil)) (blkOk_by (N := ["_law_source", "_law_table_here", "_law_rows", "_law_signs", "_law_found", "_law_row", "_law_sign", "_law_k", "_law_column", "_law_a", "_law_b"]) (sc := (defScope s__law_swung)) (by decide +kernel)) (fun _ _ _ _ _ => pg_name (i := 7) sc__law_swung.nd rfl (Or.inr rfl)) (fun _ _ _ _ _ => pts_nil) (fun _ _ _ _ _ => (pe_lc (own := [("_law_row", 5)]) (wi := iList K _) (g := gName 5) (tt := tYes) rfl sc__law_swung.nd (pi_list (pv 2)) (blkOk_by (N := ["_law_source", "_law_table_here", "_law_rows", "_law_signs", "_law_found", "_law_row", "_law_sign", "_law_k", "_law_column", "_law_a", "_law_b"]) (sc := (relS ({ kind := .function, names := [(".0", .local), ("_law_k", .cell), ("_law_rows", .free)], isGenerator := false, isCoroutine := false } : Scope) (defScope s__law_swung))) (by decide +kernel)) (fun _ _ _ _ _ => pg_name (i := 5) sc__law_swung.nd rfl (Or.inl rfl)) (fun _ _ _ _ _ => pts_nil) (fun _ _ _ _ _ => (pe_ix (r := rIxL K) ix_list (pv 5) (pv 7) (fun _ _ => rfl))))))))
        pss_nil)
      (pss_cut (ps_setLc (i := 3) (own := [("_law_column", 8)]) (wi := iList K _) (g := gName 8) (tt := tYes) rfl sc__law_swung.nd rfl rfl (sw_true rfl rfl rfl (by decide +kernel)) (pi_list (pe_ix (r := rIxL K) ix_list (pv 2) pe_int (fun _ _ => rfl))) (blkOk_by (N := ["_law_source", "_law_table_here", "_law_rows", "_law_signs", "_law_found", "_law_row", "_law_sign", "_law_k", "_law_column", "_law_a", "_law_b"]) (sc := (defScope s__law_swung)) (by decide +kernel)) (fun _ _ _ _ _ => pg_name (i := 8) sc__law_swung.nd rfl (Or.inl rfl)) (fun _ _ _ _ _ => pts_nil) (fun _ _ _ _ _ => (pe_ix (r := rIxL K) ix_list (pe_lst (pa_cons pe_int (pa_cons (pe_un un_neg pe_int) pa_nil))) (pe_call (ok__law_next T) (hr.mono (by decide)) (by rfl) T.g__law_next T.k__law_next T.b__law_next .nil pass0 (pa_cons (pv 0) (pa_cons pe_int pa_nil))) (fun _ _ => rfl))))
      (pss_cons (ps_set (i := 4) sc__law_swung.nd rfl (by first | exact Or.inl rfl | exact Or.inr rfl) (pe_lst pa_nil))
      (pss_cons (ps_for PassesOwn.never rfl (pi_list (pv 2)) (pg_name (i := 5) sc__law_swung.nd rfl (by first | exact Or.inl rfl | exact Or.inr rfl))
        (pss_cut (ps_set (i := 6) sc__law_swung.nd rfl (by first | exact Or.inl rfl | exact Or.inr rfl) (pe_ix (r := rIxL K) ix_list (pe_lst (pa_cons pe_int (pa_cons pe_int (pa_cons (pe_un un_neg pe_int) pa_nil)))) (pe_call (ok__law_next T) (hr.mono (by decide)) (by rfl) T.g__law_next T.k__law_next T.b__law_next .nil pass0 (pa_cons (pv 0) (pa_cons pe_int pa_nil))) (fun _ _ => rfl)))
          (pss_one (ps_expr (pe_bm PySem.F.plainAttrs_list PySem.F.slot_list_append PySem.F.type_list_append mt_append (pv 4) (pa_cons (pe_lc (own := [("_law_a", 9), ("_law_b", 10)]) (wi := iZip K _) (g := gTup K 2 (gCons (gName 9) (gCons (gName 10) gNil))) (tt := tYes) rfl sc__law_swung.nd (pi_zip (by rfl) T.n_zip (pa_cons (pv 5) (pa_cons (pv 3) pa_nil))) (blkOk_by (N := ["_law_source", "_law_table_here", "_law_rows", "_law_signs", "_law_found", "_law_row", "_law_sign", "_law_k", "_law_column", "_law_a", "_law_b"]) (sc := (defScope s__law_swung)) (by decide +kernel)) (fun _ _ _ _ _ => (pg_tup rfl (pgs_cons (pg_name (i := 9) sc__law_swung.nd rfl (Or.inl rfl)) (pgs_cons (pg_name (i := 10) sc__law_swung.nd rfl (Or.inl rfl)) pgs_nil)))) (fun _ _ _ _ _ => pts_nil) (fun _ _ _ _ _ => (pe_op op_mulW (pe_op op_mulW (pv 6) (pv 9)) (pv 10)))) pa_nil))))))
      (pss_one (ps_ret (pv 4)))))))), ?_⟩
    obtain ⟨s, g, n, as, rows, m, w, rfl, hs, hn, hgs, has, hT, hm, hok, hm1, hm8, hw1, hw8, k⟩ := h
    have hal : as.length = m := by rw [Paired.length hT.2, hm]
    -- row_list
    refine ⟨fun σ' H1 => ∃ (p : Addr) (as1 : List Addr) (rows1 : List (List Int)), σ' = [some (.ref s), some (.ref g), some (.ref p), none, none, none, none, none, none, none, none] ∧ Tab H1 p as1 rows1 ∧ rows1.length = m ∧ (∀ r ∈ rows1, r.length = w ∧ ∀ y ∈ r, y.natAbs ≤ 100) ∧ p ≠ s ∧ (∀ a ∈ as1, a ≠ s) ∧ ExB s H H1 ∧ SrcAt H1 s (n + 100), ?_, ?_⟩
    · refine ⟨_, rfl, _, rfl, s, g, n, _, rfl, hs, by omega, hgs, SqL.of hT.1, (by rw [List.length_map]; omega), fun v hv => ?_, fun ys p H1 hp np e1 s1 h1 => ?_⟩
      · obtain ⟨a, ha, rfl⟩ := List.mem_map.mp hv
        obtain ⟨r, _, hr⟩ := paired_mem hT.2 ha
        exact datv_row hr (has a ha)
      · obtain ⟨as1, rows1, rfl, pr, hR, pa⟩ := perm_refs hp hT.2
        refine ⟨p, as1, rows1, rfl, ⟨h1, rows_but hR fun a ha o q => e1 a o (has a (pa.mem_iff.mp ha)) q⟩, by rw [pr.length_eq, hm], fun r hr => hok r (pr.mem_iff.mp hr), hs.ne np, fun a ha => has a (pa.mem_iff.mp ha), e1, s1⟩
    rintro σ' H1 ⟨p, as1, rows1, rfl, hT1, hm', hok1, nps, nas, e1, s1⟩
    -- perhaps turned
    refine ⟨fun σ' H2 => ∃ (y5 y7 : Option V) (p2 : Addr) (as2 : List Addr) (rows2 : List (List Int)) (m2 w2 : Nat), (m2 = m ∧ w2 = w ∨ m2 = w ∧ w2 = m) ∧ σ' = [some (.ref s), some (.ref g), some (.ref p2), none, none, y5, none, y7, none, none, none] ∧ Tab H2 p2 as2 rows2 ∧ rows2.length = m2 ∧ (∀ r ∈ rows2, r.length = w2 ∧ ∀ y ∈ r, y.natAbs ≤ 100) ∧ p2 ≠ s ∧ (∀ a ∈ as2, a ≠ s) ∧ ExB s H H2 ∧ SrcAt H2 s (n + 101), ?_, ?_⟩
    · refine ⟨_, rfl, s, 2, _, rfl, s1, by omega, by decide, (by unfold Bd; decide +kernel), fun f H2 f0 f1 e2 s2 => ⟨rfl, _, rfl, ?_⟩⟩
      have hT2 : Tab H2 p as1 rows1 := ⟨e2 _ _ nps hT1.1, rows_but hT1.2 fun a ha o q => e2 a o (nas a ha) q⟩
      refine ite2 (fun _ => ?_) (fun _ => ?_)
      · have h0 : ∃ a0 r0, as1[0]? = some a0 ∧ rows1[0]? = some r0 ∧ H2 a0 = some (.lst (r0.map V.int)) ∧ r0.length = w := by
          have hl1 : as1.length = m := by rw [Paired.length hT2.2, hm']
          obtain ⟨a0, ha0⟩ : ∃ a0, as1[0]? = some a0 := ⟨_, List.getElem?_eq_getElem (by omega)⟩
          obtain ⟨r0, hr0, hh⟩ := paired_get hT2.2 ha0
          exact ⟨a0, r0, ha0, hr0, hh, (hok1 r0 (List.mem_of_getElem? hr0)).1⟩
        obtain ⟨a0, r0, ha0, hr0, hh0, hl0⟩ := h0
        have at0 : atI (as1.map V.ref) 0 = some (.ref a0) := atI_nat (j := 0) (by rw [List.getElem?_map, ha0]; rfl)
        refine lc_rows (m := w) (F := fun kk => rows1.map fun r => r[kk]?.getD 0) (ea_cons (ev_is (ev_len (ev_op (ev_var rfl) ev_c (rv_ixL (SqL.of hT2.1) at0)) (SqL.of hh0)) (by rw [List.length_map, hl0])) ea_nil) (by omega) (fun u => rfl) (fun kk H3 x3 hkk => ?_) (fun p2 rs H3 np2 nrs ndr npr x3 ht => ?_)
        · refine el_col (K := K) (f := fun r => r[kk]?.getD 0) rfl (x3 _ _ hT2.1) (hT2.2.ex x3) (by omega) (fun u => rfl) fun b r H4 hr hb x4 => ?_
          have lr := (hok1 r hr).1
          exact ev_op (ev_var rfl) (ev_var rfl) (rv_ixL (SqL.of (x4 _ _ hb)) (atI_row (by omega)))
        · refine ⟨_, _, p2, rs, _, w, m, .inr ⟨rfl, rfl⟩, rfl, ht, by rw [List.length_map, List.length_range], fun r hr => ?_, s2.ne np2, fun a ha => s2.ne (nrs a ha), (e1.trans e2).trans (ExB.of x3), (s2.ex x3).le (by omega)⟩
          obtain ⟨kk, hkk, rfl⟩ := List.mem_map.mp hr
          have hkk := List.mem_range.mp hkk
          refine ⟨by rw [List.length_map, hm'], fun y hy => ?_⟩
          obtain ⟨r, hr, rfl⟩ := List.mem_map.mp hy
          have o := hok1 r hr
          rw [List.getElem?_eq_getElem (by omega)]
          exact o.2 _ (List.getElem_mem _)
      · exact ⟨_, _, p, as1, rows1, m, w, .inl ⟨rfl, rfl⟩, rfl, hT2, hm', hok1, nps, nas, e1.trans e2, s2.le (by omega)⟩
    rintro σ' H2 ⟨y5, y7, p2, as2, rows2, m2, w2, hmw, rfl, hT2, hm2, hok2, np2s, nas2, e2, s2⟩
    clear hT1 hm' hok1 nps nas e1 s1
    have hm2b : 1 ≤ m2 ∧ m2 ≤ 8 ∧ 1 ≤ w2 ∧ w2 ≤ 8 := by
      rcases hmw with ⟨rfl, rfl⟩ | ⟨rfl, rfl⟩ <;> exact ⟨by omega, by omega, by omega, by omega⟩
    -- signs
    refine ⟨fun σ' H3 => ∃ (y8 : Option V) (q : Addr) (sg : List Int), σ' = [some (.ref s), some (.ref g), some (.ref p2), some (.ref q), none, y5, none, y7, y8, none, none] ∧ H3 q = some (.lst (sg.map V.int)) ∧ sg.length = w2 ∧ (∀ x ∈ sg, x = 1 ∨ x = -1) ∧ q ≠ s ∧ H q = none ∧ ExB s H2 H3 ∧ SrcAt H3 s (n + 109), ?_, ?_⟩
    · have h0 : ∃ a0 r0, as2[0]? = some a0 ∧ rows2[0]? = some r0 ∧ H2 a0 = some (.lst (r0.map V.int)) ∧ r0.length = w2 := by
        have hl1 : as2.length = m2 := by rw [Paired.length hT2.2, hm2]
        obtain ⟨a0, ha0⟩ : ∃ a0, as2[0]? = some a0 := ⟨_, List.getElem?_eq_getElem (by omega)⟩
        obtain ⟨r0, hr0, hh⟩ := paired_get hT2.2 ha0
        exact ⟨a0, r0, ha0, hr0, hh, (hok2 r0 (List.mem_of_getElem? hr0)).1⟩
      obtain ⟨a0, r0, ha0, hr0, hh0, hl0⟩ := h0
      have at0 : atI (as2.map V.ref) 0 = some (.ref a0) := atI_nat (j := 0) (by rw [List.getElem?_map, ha0]; rfl)
      refine lc_drawL (K := K) (s := s) (n := n + 101) (xs := r0) (fun x => x = 1 ∨ x = -1) (ev_op (ev_var rfl) ev_c (rv_ixL (SqL.of hT2.1) at0)) hh0 (nas2 a0 (List.mem_of_getElem? ha0)) (by omega) s2 (fun u => rfl) (fun i y H3 e3 hi s3 Q1 kq => ?_) (fun D ns H3 hD e3 s3 hD3 hl3 hP => ?_)
      · refine ⟨_, rfl, (by show 2 ≤ sizeLine; decide), fun l nl => ?_⟩
        have xl : Ex H3 (upd H3 l (.lst [.int 1, .int (-1)])) := Ex.new nl
        have nls : l ≠ s := s3.ne nl
        refine ⟨_, rfl, s, 2, _, rfl, s3.ex xl, by omega, by decide, (by unfold Bd; decide +kernel), fun f H4 f0 f1 e4 s4 => ?_⟩
        have hl4 := e4 _ _ nls (upd_same (H := H3) (a := l) (o := .lst [.int 1, .int (-1)]))
        have hf : f = 0 ∨ f = 1 := by omega
        rcases hf with rfl | rfl
        · exact ⟨l, _, _, .int 1, rfl, rfl, SqL.of hl4, rfl, kq 1 H4 (.inl rfl) ((ExB.of xl).trans e4) s4⟩
        · exact ⟨l, _, _, .int (-1), rfl, rfl, SqL.of hl4, rfl, kq (-1) H4 (.inr rfl) ((ExB.of xl).trans e4) s4⟩
      · exact ⟨_, D, ns, rfl, hD3, by omega, hP, s2.ne hD, fresh_B e2 hD s2.obj, e3, s3.le (by omega)⟩
    rintro σ' H3 ⟨y8, q, sg, rfl, hq, hql, hqs, nqs, nqH, e3, s3⟩
    have hT3 : Tab H3 p2 as2 rows2 := ⟨e3 _ _ np2s hT2.1, rows_but hT2.2 fun a ha o z => e3 a o (nas2 a ha) z⟩
    have e03 := e2.trans e3
    -- found
    refine ⟨Nat.zero_le _, fun p3 np3 => ?_⟩
    have x3 : Ex H3 (upd H3 p3 (.lst [])) := Ex.new np3
    have np3s : p3 ≠ s := s3.ne np3
    have np3H : H p3 = none := fresh_B e03 np3 s3.obj
    have ne3 : ∀ {b : Addr} {o : HO}, H3 b = some o → b ≠ p3 := fun h => ne_of_none h np3
    have qp3 := ne3 hq
    refine ⟨_, rfl, p2, rfl, ⟨_, SqL.of (x3 _ _ hT3.1)⟩, for_list (K := K) (a := p2) (xs := as2.map V.ref) (fun i σ H' => ∃ (y5 y6 y9 y10 : Option V) (as : List Addr) (rws : List (List Int)), σ = [some (.ref s), some (.ref g), some (.ref p2), some (.ref q), some (.ref p3), y5, y6, y7, y8, y9, y10] ∧ rws.length = i ∧ NewTab H H' p3 as rws w2 100 ∧ ExB s H H' ∧ SrcAt H' s (n + 109 + i) ∧
      Tab H' p2 as2 rows2 ∧ H' q = some (.lst (sg.map V.int))) ?_ (fun i σ H' _ ⟨_, _, _, _, _, _, _, _, _, _, _, t, _⟩ => SqL.of t.1) ?_ ?_⟩
    · exact ⟨_, _, _, _, [], [], rfl, rfl, NewTab.new np3H upd_same, e03.trans (ExB.of x3), (s3.ex x3).le (by omega), hT3.ex x3, x3 _ _ hq⟩
    · rintro i x σ H4 hi ⟨z5, z6, z9, z10, as, rws, rfl, hl, hN, e4, s4, hT4, hq4⟩
      rw [List.getElem?_map] at hi
      obtain ⟨ai, hai, rfl⟩ := Option.map_eq_some_iff.mp hi
      obtain ⟨ri, hri, hti⟩ := paired_get hT4.2 hai
      have lri := hok2 ri (List.mem_of_getElem? hri)
      have i8 : i < m2 := by rw [← hm2]; exact (List.getElem?_eq_some_iff.mp hri).1
      have nai := nas2 ai (List.mem_of_getElem? hai)
      refine ⟨fun σ' H' => ∃ f : Int, (f = 1 ∨ f = -1) ∧ σ' = [some (.ref s), some (.ref g), some (.ref p2), some (.ref q), some (.ref p3), some (.ref ai), some (.int f), y7, y8, z9, z10] ∧ ExB s H4 H' ∧ SrcAt H' s (n + 109 + i + 1), ?_, ?_⟩
      · refine ⟨_, rfl, (by show 3 ≤ sizeLine; decide), fun l nl => ?_⟩
        have xl : Ex H4 (upd H4 l (.lst [.int 1, .int 1, .int (-1)])) := Ex.new nl
        have nls : l ≠ s := s4.ne nl
        refine ⟨_, rfl, s, 3, _, rfl, s4.ex xl, by omega, by decide, (by unfold Bd; decide +kernel), fun f H5 f0 f1 e5 s5 => ?_⟩
        have hl5 := e5 _ _ nls (upd_same (H := H4) (a := l) (o := .lst [.int 1, .int 1, .int (-1)]))
        have hf : f = 0 ∨ f = 1 ∨ f = 2 := by omega
        rcases hf with rfl | rfl | rfl
        · exact ⟨l, _, _, .int 1, rfl, rfl, SqL.of hl5, rfl, 1, .inl rfl, rfl, (ExB.of xl).trans e5, s5⟩
        · exact ⟨l, _, _, .int 1, rfl, rfl, SqL.of hl5, rfl, 1, .inl rfl, rfl, (ExB.of xl).trans e5, s5⟩
        · exact ⟨l, _, _, .int (-1), rfl, rfl, SqL.of hl5, rfl, -1, .inr rfl, rfl, (ExB.of xl).trans e5, s5⟩
      rintro σ' H5 ⟨f, hf, rfl, e5, s5⟩
      have N5 := hN.exB e5 hs.obj
      have hT5 : Tab H5 p2 as2 rows2 := ⟨e5 _ _ np2s hT4.1, rows_but hT4.2 fun a ha o z => e5 a o (nas2 a ha) z⟩
      have hq5 := e5 _ _ nqs hq4
      have hti5 := e5 _ _ nai hti
      have al : as.length = i := by rw [Paired.length N5.tab.2, hl]
      have bf : Bd 2 f := by
        rcases hf with rfl | rfl <;> (unfold Bd; decide)
      have small : ∀ {x : Int}, x.natAbs ≤ 100 → Bd 10 x := fun {x} h => Nat.lt_of_le_of_lt h (by decide)
      refine ⟨_, rfl, .inl ⟨rfl, _, SqL.of N5.tab.1⟩, ?_⟩
      refine el_zip (K := K) (f := fun x y => f * x * y) (xs := ri) (ys := sg) (ea_cons (ev_var rfl) (ea_cons (ev_var rfl) ea_nil)) (SqL.of hti5) (SqL.of hq5) (by omega) (by omega) (fun u v => rfl) (fun x y H1 hx hy _ => ev_op (ev_op (ev_var rfl) (ev_var rfl) (rv_I (bf.mulOk (small (lri.2 x hx))))) (ev_var rfl) (rv_I ((bf.mul (small (lri.2 x hx))).mulOk (show Bd 2 y by rcases hqs y hy with rfl | rfl <;> (unfold Bd; decide))))) H5 (Ex.refl _) _ fun r H6 nr e6 hr => ?_
      refine ⟨p3, _, _, rfl, rfl, e6 _ _ N5.tab.1, small1000 (by rw [List.length_map]; omega), ?_⟩
      refine ⟨_, _, _, _, as ++ [r], rws ++ [_], rfl, by rw [List.length_append, hl]; rfl, N5.app (noneB (e4.trans e5) s5.obj) e6 nr hr (by rw [List.length_zipWith]; omega) (fun y hy => ?_), ?_, ?_, ?_, ?_⟩
      · obtain ⟨u, v, hu, hv, rfl⟩ : ∃ u v, u ∈ ri ∧ v ∈ sg ∧ f * u * v = y := by
          obtain ⟨j, hj⟩ := List.getElem?_of_mem hy
          rw [List.getElem?_zipWith] at hj
          cases h3 : ri[j]? with
          | none => rw [h3] at hj; simp at hj
          | some u =>
            cases h4 : sg[j]? with
            | none => rw [h3, h4] at hj; simp at hj
            | some v =>
              rw [h3, h4] at hj
              exact ⟨u, v, List.mem_of_getElem? h3, List.mem_of_getElem? h4, Option.some.inj hj⟩
        have b1 := lri.2 u hu
        rcases hf with rfl | rfl <;> rcases hqs v hv with rfl | rfl <;> omega
      · refine fun b o nb h => ?_
        rw [upd_ne (ne_of_none h np3H)]
        exact e6 _ _ (e5 _ _ nb (e4 _ _ nb h))
      · obtain ⟨a1, a2, a3, a4, a5, a6, a7, a8⟩ := s5.ex e6
        exact ⟨a1, a2, a3, by rw [upd_ne np3s.symm]; exact a4, a5, a6, a7, by omega⟩
      · refine ⟨?_, rows_but hT5.2 fun a ha o z => ?_⟩
        · rw [upd_ne (ne3 hT3.1)]
          exact e6 _ _ hT5.1
        · obtain ⟨_, _, h3⟩ := paired_mem hT3.2 ha
          rw [upd_ne (ne3 h3)]
          exact e6 _ _ z
      · rw [upd_ne qp3]
        exact e6 _ _ hq5
    · rintro σ H4 ⟨z5, z6, z9, z10, as, rws, rfl, hl, hN, e4, s4, _, _⟩
      refine ⟨_, rfl, ?_⟩
      rw [List.length_map] at hl s4
      have := Paired.length hT3.2
      exact k as rws p3 H4 m2 w2 hmw hN (by omega) e4 (s4.le (by omega))
-- DEF check_fractions

def sp_check_fractions (K : PySem.W.Frag) : Sp := fun vs H Q _ => ∃ (a : Addr) (bs : List Addr) (qs : List Rat) (n : Int) (z : Str), vs = [.ref a, .int n, .str z] ∧ FrL H a bs qs ∧ (qs.length : Int) = n ∧ qs.length ≤ 100 ∧ ∀ H', Ex H H' → Q .non H'

theorem ok_check_fractions (T : Txt K mg) : FnOk P w K mg base CX0 4 T.f_check_fractions T.fd_check_fractions ["thing", "many", "word"] (sp_check_fractions K) := by
  refine Fun.ok T.F_check_fractions sc_check_fractions (fun vs H Q E h => ?_) (fun cdv A outer s H vs Q E hr h => ?_)
  · obtain ⟨_, _, _, _, _, rfl, _⟩ := h; rfl
  · refine ⟨_, (pss_one (ps_if (pt_not (pt_val (pe_call (ok_is_fractions T) hr (by rfl) T.g_is_fractions T.k_is_fractions T.b_is_fractions .nil pass0 (pa_cons (pv 0) (pa_cons (pv 1) pa_nil)))))
        (pss_one ps_never)
        pss_nil)), ?_⟩
    obtain ⟨a, bs, qs, n, z, rfl, ha, hl, h8, k⟩ := h
    exact s_when (b := false) (et_is (et_not (et_B (b := true) (ev_fn (sp := sp_is_fractions K) (ea_cons (ev_var rfl) (ea_cons (ev_var rfl) ea_nil)) fun H3 e3 Q3 q3 => ⟨a, bs, qs, n, rfl, ha.ex e3, hl, h8, q3⟩))) rfl) (fun z => nomatch z) fun _ H1 e1 => k H1 e1
-- DEF check_table

def sp_check_table (K : PySem.W.Frag) : Sp := fun vs H Q _ => ∃ (p : Addr) (as : List Addr) (rows : List (List Int)) (m w : Nat), vs = [.ref p] ∧ TabOk H p as rows m w ∧ ∀ H', Ex H H' → Q .non H'

theorem ok_check_table (T : Txt K mg) : FnOk P w K mg base CX0 4 T.f_check_table T.fd_check_table ["thing"] (sp_check_table K) := by
  refine Fun.ok T.F_check_table sc_check_table (fun vs H Q E h => ?_) (fun cdv A outer s H vs Q E hr h => ?_)
  · obtain ⟨_, _, _, _, _, rfl, _⟩ := h; rfl
  · refine ⟨_, (pss_one (ps_if (pt_not (pt_val (pe_call (ok_is_table T) hr (by rfl) T.g_is_table T.k_is_table T.b_is_table .nil pass0 (pa_cons (pv 0) pa_nil))))
        (pss_one ps_never)
        pss_nil)), ?_⟩
    obtain ⟨p, as, rows, m, w, rfl, hT, k⟩ := h
    exact ⟨_, rfl, p, as, rows, m, w, rfl, hT, fun H' e => ⟨true, rfl, iteF (k H' e)⟩⟩
-- DEF row_sum

def sp_row_sum (K : PySem.W.Frag) : Sp := fun vs H Q _ => ∃ (a b : Addr) (bs : List Addr) (ns : List Int) (qs : List Rat), vs = [.ref a, .ref b] ∧ H a = some (.lst (ns.map V.int)) ∧ FrL H b bs qs ∧ ns.length = qs.length ∧ qs.length ≤ 8 ∧ (∀ y ∈ ns, Bd 210 y) ∧ (∀ q ∈ qs, BdQ 3300 810 q) ∧
  ∀ t H', Ex H H' → H' t = some (.tup (frV (fsum ns qs))) → Q (.ref t) H'

theorem ok_row_sum (T : Txt K mg) : FnOk P w K mg base CX0 4 T.f_row_sum T.fd_row_sum ["row", "xs"] (sp_row_sum K) := by
  refine Fun.ok T.F_row_sum sc_row_sum (fun vs H Q E h => ?_) (fun cdv A outer s H vs Q E hr h => ?_)
  · obtain ⟨_, _, _, _, _, rfl, _⟩ := h; rfl
  · refine ⟨_, (pss_cons (ps_set (i := 2) sc_row_sum.nd rfl (by first | exact Or.inl rfl | exact Or.inr rfl) (pe_call (ok_fraction T) (hr.mono (by decide)) (by rfl) T.g_fraction T.k_fraction T.b_fraction_1.2 T.b_fraction_1.1 pass0 (pa_cons pe_int pa_nil)))
      (pss_cons (ps_for PassesOwn.never rfl (pi_zip (by rfl) T.n_zip (pa_cons (pv 0) (pa_cons (pv 1) pa_nil))) (pg_tup rfl (pgs_cons (pg_name (i := 3) sc_row_sum.nd rfl (by first | exact Or.inl rfl | exact Or.inr rfl)) (pgs_cons (pg_name (i := 4) sc_row_sum.nd rfl (by first | exact Or.inl rfl | exact Or.inr rfl)) pgs_nil)))
        (pss_one (ps_set (i := 2) sc_row_sum.nd rfl (by first | exact Or.inl rfl | exact Or.inr rfl) (pe_call (ok_plus T) hr (by rfl) T.g_plus T.k_plus T.b_plus .nil pass0 (pa_cons (pv 2) (pa_cons (pe_call (ok_times T) hr (by rfl) T.g_times T.k_times T.b_times .nil pass0 (pa_cons (pe_call (ok_fraction T) (hr.mono (by decide)) (by rfl) T.g_fraction T.k_fraction T.b_fraction_1.2 T.b_fraction_1.1 pass0 (pa_cons (pv 3) pa_nil)) (pa_cons (pv 4) pa_nil))) pa_nil))))))
      (pss_one (ps_ret (pv 2))))), ?_⟩
    obtain ⟨a, b, bs, ns, qs, rfl, ha, hb, hl, h8, bn, bq, k⟩ := h
    have eb : bs.length = qs.length := Paired.length hb.2
    refine ⟨_, _, rfl, by decide, by unfold Bd; decide +kernel, fun t0 H1 nt0 e1 ht0 => ?_⟩
    rw [fr_com (by decide)] at ht0
    have e0 : mkRat 0 (1 : Int).toNat = 0 := by decide +kernel
    rw [e0] at ht0
    refine ⟨_, rfl, _, rfl, a, b, _, _, rfl, SqL.of (e1 _ _ ha), SqL.of (e1 _ _ hb.1), ?_⟩
    refine RZ.for_zipL (K := K) (xs := ns.map V.int) (ys := bs.map V.ref) (by rw [List.length_map, List.length_map, eb, hl]) (fun i σ H' => ∃ (t : Addr) (y3 y4 : Option V), σ = [some (.ref a), some (.ref b), some (.ref t), y3, y4] ∧ Ex H H' ∧ H' t = some (.tup (frV (psum (terms ns qs) i)))) ⟨t0, _, _, rfl, e1, ht0⟩ (fun i σ H' ⟨_, _, _, _, e, _⟩ => ⟨SqL.of (e _ _ ha), SqL.of (e _ _ hb.1)⟩) ?_ ?_
    · rintro i x y T σ H2 hx hy ⟨t, y3, y4, rfl, e2, ht⟩ nT
      rw [List.getElem?_map] at hx hy
      obtain ⟨n, hn, rfl⟩ := Option.map_eq_some_iff.mp hx
      obtain ⟨c, hc, rfl⟩ := Option.map_eq_some_iff.mp hy
      obtain ⟨q, hq, hcq⟩ := paired_get hb.2 hc
      have xT : Ex H2 (upd H2 T (.tup [.int n, .ref c])) := Ex.new nT
      have hi : i < 8 := by
        have := (List.getElem?_eq_some_iff.mp hq).1
        omega
      have b1 := bn n (List.mem_of_getElem? hn)
      have b2 := bq q (List.mem_of_getElem? hq)
      refine ⟨T, _, rfl, SqT.of upd_same, rfl, _, _, rfl, _, _, rfl, rfl, ?_⟩
      -- fraction(entry)
      refine ⟨_, rfl, _, rfl, _, _, rfl, by decide, by unfold Bd; decide +kernel, fun f H3 nf e3 hf => ?_⟩
      rw [fr_com (by decide)] at hf
      refine ⟨_, rfl, f, c, mkRat n 1, q, rfl, hf, (e2.trans (xT.trans e3)) _ _ hcq, ?_, ?_, b2.1.mono (by decide), b2.2.mono (by decide), ?_, fun r H4 nr e4 hr => ?_⟩
      · rw [num_one]
        exact b1.mono (by decide)
      · rw [den_one]
        unfold Bd; decide +kernel
      · rw [den_one]
        exact (show Bd 810 ((1 : Int) * (q.den : Int)) by rw [Int.one_mul]; exact b2.2).mono (by decide)
      have ht4 : H4 t = some (.tup (frV (psum (terms ns qs) i))) := (xT.trans (e3.trans e4)) _ _ ht
      have tb := terms_bd (n := 210) (m := 3300) (d := 810) bn bq
      have pb := psum_bd tb i
      have bt : BdQ (210 + 3300) 810 (mkRat n 1 * q) := times_bd b1 b2
      refine ⟨t, r, _, _, rfl, ht4, hr, pb.1.mono (by omega), pb.2.mono (by omega), bt.1.mono (by decide), bt.2.mono (by decide), (pb.2.mul bt.2).mono (by omega), fun u H5 nu e5 hu => ⟨u, _, _, rfl, e2.trans (xT.trans (e3.trans (e4.trans e5))), ?_⟩⟩
      rw [hu, psum_succ (terms_at hn hq)]
    · rintro σ H2 ⟨t, y3, y4, rfl, e2, ht⟩
      rw [List.length_map, psum_all (by unfold terms; rw [List.length_zipWith]; omega)] at ht
      exact ⟨_, rfl, k t H2 e2 ht⟩
-- DEF _law_net_drawn

def sp__law_net_drawn (K : PySem.W.Frag) : Sp := fun vs H Q _ => ∃ (s : Addr) (n : Int) (m w : Nat), vs = [.ref s, .int m, .int w] ∧ SrcAt H s n ∧ n ≤ 300000000 ∧ 1 ≤ m ∧ m ≤ 8 ∧ 1 ≤ w ∧ w ≤ 8 ∧
  ∀ (rs : List Addr) (rows : List (List Int)) (p : Addr) (H' : Hp), NewTab H H' p rs rows w 100 → rows.length = m → ExB s H H' → SrcAt H' s (n + 400) → Q (.ref p) H'

theorem ok__law_net_drawn (T : Txt K mg) : FnOk P w K mg base CX0 4 T.f__law_net_drawn T.fd__law_net_drawn ["_law_source", "_law_many", "_law_wide"] (sp__law_net_drawn K) := by
  refine Fun.ok T.F__law_net_drawn sc__law_net_drawn (fun vs H Q E h => ?_) (fun cdv A outer s H vs Q E hr h => ?_)
  · obtain ⟨_, _, _, _, rfl, _⟩ := h; rfl
  · refine ⟨_, (pss_cons (ps_setLc (i := 3) (own := [("_law_k", 4)]) (g := gName 4) (tt := tYes) rfl sc__law_net_drawn.nd rfl rfl (sw_true rfl rfl rfl (by decide +kernel)) (pi_range1 (by rfl) T.n_range (pa_cons (pv 2) pa_nil)) (blkOk_by (N := ["_law_source", "_law_many", "_law_wide", "_law_arcs", "_law_k"]) (sc := (defScope s__law_net_drawn)) (by decide +kernel)) (fun _ _ _ _ _ => pg_name (i := 4) sc__law_net_drawn.nd rfl (Or.inl rfl)) (fun _ _ _ _ _ => pts_nil) (fun _ _ _ _ _ => (pe_tup (pa_cons (pe_call (ok__law_next T) (hr.mono (by decide)) (by rfl) T.g__law_next T.k__law_next T.b__law_next .nil pass0 (pa_cons (pv 0) (pa_cons (pe_op op_add (pv 1) pe_int) pa_nil))) (pa_cons (pe_call (ok__law_next T) (hr.mono (by decide)) (by rfl) T.g__law_next T.k__law_next T.b__law_next .nil pass0 (pa_cons (pv 0) (pa_cons (pe_op op_add (pv 1) pe_int) pa_nil))) pa_nil)))))
      (pss_one (ps_ret (pe_call (ok__law_net T) (hr.mono (by decide)) (by rfl) T.g__law_net T.k__law_net T.b__law_net .nil pass0 (pa_cons (pe_call (ok__law_ends T) hr (by rfl) T.g__law_ends T.k__law_ends T.b__law_ends .nil pass0 (pa_cons (pv 0) (pa_cons (pv 1) pa_nil))) (pa_cons (pv 3) pa_nil)))))), ?_⟩
    obtain ⟨s, n, m, w, rfl, hs, hn, hm1, hm8, hw1, hw8, k⟩ := h
    refine ⟨_, rfl, _, rfl, by omega, by omega, fun D hD => ?_⟩
    have hDs : D ≠ s := hs.ne hD
    refine lc_range (lo := 0) (n := (w : Int).toNat) (fun i H' => ∃ (bs : List Addr) (qs : List (Int × Int)), H' D = some (.lst (bs.map V.ref)) ∧ EdgesAt H' bs qs ∧ qs.length = i ∧ ExB s H H' ∧ SrcAt H' s (n + 2 * i) ∧ ∀ e ∈ qs, 0 ≤ e.1 ∧ e.1 ≤ (m : Int) ∧ 0 ≤ e.2 ∧ e.2 ≤ (m : Int))
      ⟨[], [], upd_same, .nil, rfl, ExB.of (Ex.new hD), (hs.ex (Ex.new hD)).le (by omega), fun e he => by simp at he⟩ (fun i H1 hi p => ?_) (fun H1 p => ?_)
    · obtain ⟨bs, qs, h1, h2, h3, h4, h5, h6⟩ := p
      have bm : Bd 8000 ((m : Int) + 1) := by
        unfold Bd
        exact Nat.lt_of_lt_of_le (show ((m : Int) + 1).natAbs < 1024 by omega) (by decide +kernel)
      refine ⟨rfl, ?_⟩
      refine ⟨_, rfl, _, rfl, _, _, rfl, rfl, s, _, _, rfl, h5, by omega, by omega, bm, fun f H2 f0 f1 e2 s2 => ?_⟩
      refine ⟨_, rfl, _, rfl, _, _, rfl, rfl, s, _, _, rfl, s2, by omega, by omega, bm, fun g H3 g0 gl e3 s3 => ?_⟩
      refine ⟨(by show 2 ≤ sizeLine; decide), fun t nt => ?_⟩
      have xt : Ex H3 (upd H3 t (.tup [.int f, .int g])) := Ex.new nt
      have e13 := e2.trans e3
      have hD3 := e13 _ _ hDs h1
      have el : bs.length = i := by rw [Paired.length h2, h3]
      refine ⟨_, xt _ _ hD3, small1000 (by rw [List.length_map]; omega), bs ++ [t], qs ++ [(f, g)], ?_, ?_, ?_, ?_, ?_, ?_⟩
      · rw [upd_same, List.map_append]
        rfl
      · exact paired_imp (fun c d h => tups_U (xt _ _ hD3) _ _ h) (paired_snoc (EdgesAt.mono (fun c xs h => xt _ _ (tups_B h5 e13 _ _ h)) h2) (upd_same : upd H3 t (.tup [.int f, .int g]) t = some (.tup [.int f, .int g])))
      · rw [List.length_append, h3]
        rfl
      · refine fun b o nb h => ?_
        rw [upd_ne (ne_of_none h hD)]
        exact xt _ _ (e13 _ _ nb (h4 _ _ nb h))
      · obtain ⟨a1, a2, a3, a4, a5, a6, a7, a8⟩ := s3.ex xt
        exact ⟨a1, a2, a3, by rw [upd_ne hDs.symm]; exact a4, a5, a6, a7, by omega⟩
      · intro e he
        rcases List.mem_append.mp he with q | q
        · exact h6 e q
        · have : e = (f, g) := by simpa using q
          rw [this]
          exact ⟨f0, by omega, g0, by omega⟩
    · obtain ⟨bs, qs, h1, h2, h3, h4, h5, h6⟩ := p
      have h3' : qs.length = w := by rw [h3]; omega
      refine ⟨_, rfl, _, rfl, s, _, _, rfl, h5, by omega, by omega, by omega, fun as es p H2 l2 b2 c2 d2 e2 f2 g2' s2 => ?_⟩
      refine ⟨_, rfl, p, D, as, bs, es, qs, m, rfl, by omega, hm1, hm8, e2, d2, g2' _ _ hDs h1, EdgesAt.mono (tups_B h5 g2') h2, by omega, b2, h6, c2, fun rs rows p' H3 x1 x2 x3 x4 x5 x6 x7 x8 => ?_⟩
      have nt : NewTab H2 H3 p' rs rows w 100 := ⟨x1, x2, x3, x4, x6, fun r hr => by rw [← h3']; exact x8 r hr⟩
      exact k rs rows p' H3 (nt.back (h4.trans g2') s2.obj) x7 ((h4.trans g2').trans (ExB.of x5)) ((s2.ex x5).le (by omega))
-- DEF led

def sp_led (K : PySem.W.Frag) : Sp := fun vs H Q _ => ∃ (p b : Addr) (as bs : List Addr) (rows : List (List Int)) (m w : Nat) (qs : List Rat), vs = [.ref p, .ref b] ∧ TabOk H p as rows m w ∧ FrL H b bs qs ∧ qs.length = w ∧ (∀ r ∈ rows, ∀ y ∈ r, Bd 210 y) ∧ (∀ q ∈ qs, BdQ 3300 810 q) ∧ ∀ c cs H', H c = none → Ex H H' → FrL H' c cs (rows.map fun r => fsum r qs) → Q (.ref c) H'

theorem ok_led (T : Txt K mg) : FnOk P w K mg base CX0 5 T.f_led T.fd_led ["table", "xs"] (sp_led K) := by
  refine Fun.ok T.F_led sc_led (fun vs H Q E h => ?_) (fun cdv A outer s H vs Q E hr h => ?_)
  · obtain ⟨_, _, _, _, _, _, _, _, rfl, _⟩ := h; rfl
  · refine ⟨_, (pss_cons (ps_expr (pe_call (ok_check_table T) hr (by rfl) T.g_check_table T.k_check_table T.b_check_table .nil pass0 (pa_cons (pv 0) pa_nil)))
      (pss_cons (ps_if (pt_not (pt_val (pe_call (ok_is_fractions T) (hr.mono (by decide)) (by rfl) T.g_is_fractions T.k_is_fractions T.b_is_fractions .nil pass0 (pa_cons (pv 1) (pa_cons (pe_callB (id := "len") (r := rLenS K) call_len_seq (by rfl) T.n_len PySem.boot_len (pa_cons (pe_ix (r := rIxL K) ix_list (pv 0) pe_int (fun _ _ => rfl)) pa_nil)) pa_nil)))))
        (pss_one ps_never)
        pss_nil)
      (pss_one (ps_ret (pe_lc (own := [("row", 2)]) (wi := iList K _) (g := gName 2) (tt := tYes) rfl sc_led.nd (pi_list (pv 0)) (blkOk_by (N := ["table", "xs", "row"]) (sc := (defScope s_led)) (by decide +kernel)) (fun _ _ _ _ _ => pg_name (i := 2) sc_led.nd rfl (Or.inl rfl)) (fun _ _ _ _ _ => pts_nil) (fun _ _ _ _ _ => (pe_call (ok_row_sum T) hr (by rfl) T.g_row_sum T.k_row_sum T.b_row_sum .nil pass0 (pa_cons (pv 2) (pa_cons (pv 1) pa_nil))))))))), ?_⟩
    obtain ⟨p, b, as, bs, rows, m, w, qs, rfl, hT, hF, hq, bn, bq, k⟩ := h
    refine ⟨_, rfl, p, as, rows, m, w, rfl, hT, fun H1 e1 => ?_⟩
    have hT1 := hT.ex e1
    have hb := hT.b
    obtain ⟨a0, r0, _, _, hh0, hl0, at0⟩ := hT1.row0
    refine s_when (σ := [some (.ref p), some (.ref b), none]) (b := false) (et_is (et_not (et_B (b := true) (ev_fn (sp := sp_is_fractions K) (ea_cons (ev_var rfl) (ea_cons (ev_is (ev_len (ev_op (ev_var rfl) ev_c (rv_ixL (SqL.of hT1.tab.1) at0)) (SqL.of hh0)) (by rw [List.length_map, hl0])) ea_nil)) fun H3 e3 Q3 q3 => ⟨b, bs, qs, w, rfl, hF.ex (e1.trans e3), by omega, by omega, q3⟩))) rfl) (fun z => nomatch z) fun _ H2 e2 => ?_
    refine lf_rows (K := K) (F := fun r => fsum r qs) rfl (hT1.ex e2).tab (by rw [hT.m_]; omega) (fun u => rfl) (fun c r H3 hr hc e3 H4 e4 Q4 q4 => ?_) (fun c cs H3 nc e3 hF3 => k c cs H3 (fresh_back (e1.trans e2) nc) ((e1.trans e2).trans e3) hF3)
    have e5 := e3.trans e4
    exact ⟨_, rfl, _, rfl, c, b, bs, r, qs, rfl, e5 _ _ hc, hF.ex ((e1.trans e2).trans e5), by rw [hT.w_ r hr, hq], by omega, bn r hr, bq, q4⟩
-- DEF _law_table

def sp__law_table (K : PySem.W.Frag) : Sp := fun vs H Q _ => ∃ (s : Addr) (n : Int) (most : Nat), vs = [.ref s, .int most] ∧ SrcAt H s n ∧ n ≤ 100000000 ∧ 1 ≤ most ∧ most ≤ 8 ∧
  ∀ (rs : List Addr) (rows : List (List Int)) (p : Addr) (H' : Hp) (m w : Nat), 1 ≤ m → m ≤ most → 1 ≤ w → w ≤ most → NewTab H H' p rs rows w (10 ^ 30) → rows.length = m → ExB s H H' → SrcAt H' s (n + 1000) → Q (.ref p) H'

theorem ok__law_table (T : Txt K mg) : FnOk P w K mg base CX0 5 T.f__law_table T.fd__law_table ["_law_source", "_law_most"] (sp__law_table K) := by
  refine Fun.ok T.F__law_table sc__law_table (fun vs H Q E h => ?_) (fun cdv A outer s H vs Q E hr h => ?_)
  · obtain ⟨_, _, _, rfl, _⟩ := h; rfl
  · refine ⟨_, (pss_cut (ps_set (i := 2) sc__law_table.nd rfl (by first | exact Or.inl rfl | exact Or.inr rfl) (pe_op op_add pe_int (pe_call (ok__law_next T) (hr.mono (by decide)) (by rfl) T.g__law_next T.k__law_next T.b__law_next .nil pass0 (pa_cons (pv 0) (pa_cons (pv 1) pa_nil)))))
      (pss_cut (ps_set (i := 3) sc__law_table.nd rfl (by first | exact Or.inl rfl | exact Or.inr rfl) (pe_op op_add pe_int (pe_call (ok__law_next T) (hr.mono (by decide)) (by rfl) T.g__law_next T.k__law_next T.b__law_next .nil pass0 (pa_cons (pv 0) (pa_cons (pv 1) pa_nil)))))
      (pss_cut (ps_set (i := 4) sc__law_table.nd rfl (by first | exact Or.inl rfl | exact Or.inr rfl) (pe_call (ok__law_next T) (hr.mono (by decide)) (by rfl) T.g__law_next T.k__law_next T.b__law_next .nil pass0 (pa_cons (pv 0) (pa_cons pe_int pa_nil))))
      (pss_cut (ps_if (pt_cmpR op_lt (pv 4) pe_int (nomark _))
        (pss_one (ps_setLc (i := 5) (own := [("_law_row", 7)]) (g := gName 7) (tt := tYes) rfl sc__law_table.nd rfl rfl (sw_true rfl rfl rfl (by decide +kernel)) (pi_range1 (by rfl) T.n_range (pa_cons (pv 2) pa_nil)) (blkOk_by (N := ["_law_source", "_law_most", "_law_many", "_law_wide", "_law_kind", "_law_table_here", "_law_k", "_law_row"]) (sc := (defScope s__law_table)) (by decide +kernel)) (fun _ _ _ _ _ => pg_name (i := 7) sc__law_table.nd rfl (Or.inl rfl)) (fun _ _ _ _ _ => pts_nil) (fun _ _ _ _ _ => (pe_lc (own := [("_law_k", 6)]) (g := gName 6) (tt := tYes) rfl sc__law_table.nd (pi_range1 (by rfl) T.n_range (pa_cons (pv 3) pa_nil)) (blkOk_by (N := ["_law_source", "_law_most", "_law_many", "_law_wide", "_law_kind", "_law_table_here", "_law_k", "_law_row"]) (sc := (relS ({ kind := .function, names := [(".0", .local), ("_law_row", .local), ("range", .globalImplicit), ("_law_source", .free), ("_law_wide", .free)], isGenerator := false, isCoroutine := false } : Scope) (defScope s__law_table))) (by decide +kernel)) (fun _ _ _ _ _ => pg_name (i := 6) sc__law_table.nd rfl (Or.inl rfl)) (fun _ _ _ _ _ => pts_nil) (fun _ _ _ _ _ => (pe_op op_sub (pe_call (ok__law_next T) (hr.mono (by decide)) (by rfl) T.g__law_next T.k__law_next T.b__law_next .nil pass0 (pa_cons (pv 0) (pa_cons pe_int pa_nil))) pe_int))))))
        (pss_one (ps_if (pt_cmpR op_lt (pv 4) pe_int (nomark _))
            (pss_one (ps_set (i := 5) sc__law_table.nd rfl (by first | exact Or.inl rfl | exact Or.inr rfl) (pe_call (ok__law_net_drawn T) hr (by rfl) T.g__law_net_drawn T.k__law_net_drawn T.b__law_net_drawn .nil pass0 (pa_cons (pv 0) (pa_cons (pv 2) (pa_cons (pv 3) pa_nil))))))
            (pss_one (ps_set (i := 5) sc__law_table.nd rfl (by first | exact Or.inl rfl | exact Or.inr rfl) (pe_call (ok__law_stretches T) (hr.mono (by decide)) (by rfl) T.g__law_stretches T.k__law_stretches T.b__law_stretches .nil pass0 (pa_cons (pv 0) (pa_cons (pv 2) (pa_cons (pv 3) pa_nil)))))))))
      (pss_cut (ps_if (pt_cmpR op_eq (pe_call (ok__law_next T) (hr.mono (by decide)) (by rfl) T.g__law_next T.k__law_next T.b__law_next .nil pass0 (pa_cons (pv 0) (pa_cons pe_int pa_nil))) pe_int (nomark _))
        (pss_one (ps_set (i := 5) sc__law_table.nd rfl (by first | exact Or.inl rfl | exact Or.inr rfl) (pe_call (ok__law_swung T) (hr.mono (by decide)) (by rfl) T.g__law_swung T.k__law_swung T.b__law_swung .nil pass0 (pa_cons (pv 0) (pa_cons (pv 5) pa_nil)))))
        pss_nil)
      (pss_cons (ps_for PassesOwn.never rfl (pi_range1 (by rfl) T.n_range (pa_cons (pe_call (ok__law_one T) (hr.mono (by decide)) (by rfl) T.g__law_one T.k__law_one T.b__law_one .nil pass0 (pa_cons (pv 0) (pa_cons (pe_lst (pa_cons pe_int (pa_cons pe_int (pa_cons pe_int (pa_cons pe_int pa_nil))))) pa_nil))) pa_nil)) (pg_name (i := 6) sc__law_table.nd rfl (by first | exact Or.inl rfl | exact Or.inr rfl))
        (pss_cut (ps_set (i := 7) sc__law_table.nd rfl (by first | exact Or.inl rfl | exact Or.inr rfl) (pe_ix (r := rIxL K) ix_list (pv 5) (pe_call (ok__law_next T) (hr.mono (by decide)) (by rfl) T.g__law_next T.k__law_next T.b__law_next .nil pass0 (pa_cons (pv 0) (pa_cons (pe_callB (id := "len") (r := rLenS K) call_len_seq (by rfl) T.n_len PySem.boot_len (pa_cons (pv 5) pa_nil)) pa_nil))) (fun _ _ => rfl)))
          (pss_one (ps_asg (pe_call (ok__law_one T) (hr.mono (by decide)) (by rfl) T.g__law_one T.k__law_one T.b__law_one .nil pass0 (pa_cons (pv 0) (pa_cons (pe_lst (pa_cons pe_int (pa_cons (pe_un un_neg pe_int) (pa_cons pe_int (pa_cons pe_int (pa_cons (pe_un un_neg pe_int) (pa_cons pe_int (pa_cons pe_int (pa_cons (pe_un un_neg pe_int) (pa_cons (pe_op op_pow pe_int pe_int) pa_nil)))))))))) pa_nil))) (pg_sub (pv 7) (pe_call (ok__law_next T) (hr.mono (by decide)) (by rfl) T.g__law_next T.k__law_next T.b__law_next .nil pass0 (pa_cons (pv 0) (pa_cons (pe_callB (id := "len") (r := rLenS K) call_len_seq (by rfl) T.n_len PySem.boot_len (pa_cons (pv 7) pa_nil)) pa_nil))) set_list)))))
      (pss_one (ps_ret (pv 5))))))))), ?_⟩
    obtain ⟨s, n, most, rfl, hs, hn, hm1, hm8, k⟩ := h
    have bmost : Bd 8000 (most : Int) := by
      unfold Bd
      exact Nat.lt_of_lt_of_le (show ((most : Int)).natAbs < 1024 by omega) (by decide +kernel)
    -- many, wide, kind
    refine ⟨fun σ' H1 => ∃ m : Nat, σ' = [some (.ref s), some (.int most), some (.int m), none, none, none, none, none] ∧ 1 ≤ m ∧ m ≤ most ∧ ExB s H H1 ∧ SrcAt H1 s (n + 1), ?_, ?_⟩
    · refine ⟨_, rfl, _, rfl, s, _, n, rfl, hs, by omega, by omega, bmost, fun f H1 f0 f1 e1 s1 => ⟨_, _, rfl, rfl, (1 + f).toNat, ?_, by omega, by omega, e1, s1⟩⟩
      have : (((1 + f).toNat : Nat) : Int) = 1 + f := by omega
      rw [this]
      rfl
    rintro σ' H1 ⟨m, rfl, m1, m2, e1, s1⟩
    refine ⟨fun σ' H2 => ∃ w : Nat, σ' = [some (.ref s), some (.int most), some (.int m), some (.int w), none, none, none, none] ∧ 1 ≤ w ∧ w ≤ most ∧ ExB s H H2 ∧ SrcAt H2 s (n + 2), ?_, ?_⟩
    · refine ⟨_, rfl, _, rfl, s, _, _, rfl, s1, by omega, by omega, bmost, fun f H2 f0 f1 e2 s2 => ⟨_, _, rfl, rfl, (1 + f).toNat, ?_, by omega, by omega, e1.trans e2, s2.le (by omega)⟩⟩
      have : (((1 + f).toNat : Nat) : Int) = 1 + f := by omega
      rw [this]
      rfl
    rintro σ' H2 ⟨w, rfl, w1, w2, e2, s2⟩
    refine ⟨fun σ' H3 => ∃ f : Int, σ' = [some (.ref s), some (.int most), some (.int m), some (.int w), some (.int f), none, none, none] ∧ ExB s H H3 ∧ SrcAt H3 s (n + 3), ?_, ?_⟩
    · exact ⟨_, rfl, s, 8, _, rfl, s2, by omega, by decide, (by unfold Bd; decide +kernel), fun f H3 f0 f1 e3 s3 => ⟨f, rfl, e2.trans e3, s3.le (by omega)⟩⟩
    rintro σ' H3 ⟨f, rfl, e3, s3⟩
    clear e1 s1 e2 s2
    -- the table
    refine ⟨fun σ' H4 => ∃ (y6 y7 : Option V) (p : Addr) (as : List Addr) (rows : List (List Int)), σ' = [some (.ref s), some (.int most), some (.int m), some (.int w), some (.int f), some (.ref p), y6, y7] ∧ NewTab H H4 p as rows w 100 ∧ rows.length = m ∧ ExB s H H4 ∧ SrcAt H4 s (n + 403), ?_, ?_⟩
    · refine ⟨_, rfl, _, _, rfl, rfl, _, rfl, ?_⟩
      refine ite2 (fun _ => ?_) (fun _ => ?_)
      · -- drawn
        refine ⟨_, rfl, _, rfl, by omega, by omega, fun D hD => ?_⟩
        have hDs : D ≠ s := s3.ne hD
        have hDH : H D = none := fresh_B e3 hD s3.obj
        refine lc_range (lo := 0) (n := (m : Int).toNat) (fun i H' => ∃ as rows, NewTab H H' D as rows w 100 ∧ rows.length = i ∧ ExB s H H' ∧ SrcAt H' s (n + 3 + 10 * i)) ⟨[], [], NewTab.new hDH upd_same, rfl, e3.trans (ExB.of (Ex.new hD)), (s3.ex (Ex.new hD)).le (by omega)⟩ (fun i H4 hi p => ?_) (fun H4 p => ?_)
        · obtain ⟨as, rows, hN, hl, e4, s4⟩ := p
          have al : as.length = i := by rw [Paired.length hN.tab.2, hl]
          refine ⟨rfl, ?_⟩
          dsimp only [tYes]
          rw [if_pos rfl]
          refine lc_draw (s := s) (n := n + 3 + 10 * i) (m := w) (fun x => x.natAbs ≤ 100) (ea_cons (ev_var rfl) ea_nil) (by omega) s4 (fun u => rfl) (fun j H5 e5 hj s5 Q1 kq => ?_) (fun r ns H5 nr e5 s5 hr hln hP => ?_)
          · exact ⟨_, rfl, s, 3, _, rfl, s5, by omega, by decide, (by unfold Bd; decide +kernel), fun g H6 g0 g1 e6 s6 => ⟨_, _, rfl, rfl, kq (g - 1) H6 (by omega) e6 s6⟩⟩
          · have N5 := hN.exB e5 hs.obj
            have nr0 : H r = none := fresh_B e4 nr s4.obj
            have nrD : r ≠ D := fun z => by
              rw [z, hN.tab.1] at nr
              cases nr
            have nra : r ∉ as := fun ha => by
              obtain ⟨x, _, hx⟩ := paired_mem hN.tab.2 ha
              rw [nr] at hx
              cases hx
            refine ⟨_, N5.tab.1, small1000 (by rw [List.length_map]; omega), as ++ [r], rows ++ [ns], ?_, ?_, ?_, ?_⟩
            · refine ⟨hDH, fun a ha => ?_, ?_, ?_, ⟨?_, ?_⟩, fun x hx => ?_⟩
              · rcases List.mem_append.mp ha with q | q
                · exact hN.a0 a q
                · rw [show a = r by simpa using q]
                  exact nr0
              · refine List.nodup_append.mpr ⟨hN.nd, by simp, fun a ha b hb z => ?_⟩
                have : b = r := by simpa using hb
                exact nra (by rw [← this, ← z]; exact ha)
              · intro ha
                rcases List.mem_append.mp ha with q | q
                · exact hN.np q
                · exact nrD (by simpa using q : D = r).symm
              · rw [upd_same, List.map_append]
                rfl
              · refine paired_snoc (rows_but N5.tab.2 fun a ha o g => ?_) ?_
                · rw [upd_ne (fun z => hN.np (by rw [← z]; exact ha))]
                  exact g
                · rw [upd_ne nrD]
                  exact hr
              · rcases List.mem_append.mp hx with q | q
                · exact hN.ok x q
                · rw [show x = ns by simpa using q]
                  exact ⟨hln, hP⟩
            · rw [List.length_append, hl]
              rfl
            · refine fun b o nb h => ?_
              rw [upd_ne (ne_of_none h hDH)]
              exact e5 _ _ nb (e4 _ _ nb h)
            · obtain ⟨a1, a2, a3, a4, a5, a6, a7, a8⟩ := s5
              exact ⟨a1, a2, a3, by rw [upd_ne hDs.symm]; exact a4, a5, a6, a7, by omega⟩
        · obtain ⟨as, rows, hN, hl, e4, s4⟩ := p
          exact ⟨_, _, D, as, rows, rfl, hN, by omega, e4, s4.le (by omega)⟩
      · refine ⟨_, rfl, _, _, rfl, rfl, _, rfl, ?_⟩
        refine ite2 (fun _ => ?_) (fun _ => ?_)
        · refine ⟨_, rfl, _, rfl, _, rfl, s, _, m, w, rfl, s3, by omega, by omega, by omega, by omega, by omega, fun rs rows p H4 hN hl e4 s4 => ?_⟩
          exact ⟨_, _, p, rs, rows, rfl, hN.back e3 s3.obj, hl, e3.trans e4, s4.le (by omega)⟩
        · refine ⟨_, rfl, _, rfl, _, rfl, s, _, m, w, rfl, s3, by omega, by omega, by omega, by omega, by omega, fun rs rows p H4 hN hl e4 s4 => ?_⟩
          exact ⟨_, _, p, rs, rows, rfl, hN.back e3 s3.obj, hl, e3.trans e4, s4.le (by omega)⟩
    rintro σ' H4 ⟨y6, y7, p, as, rows, rfl, hN, hl, e4, s4⟩
    -- perhaps swung
    have nin : ∀ {a : Addr}, H a = none → a ≠ s := fun h => hs.ne h
    refine ⟨fun σ' H5 => ∃ (p : Addr) (as : List Addr) (rows : List (List Int)) (m' w' : Nat), σ' = [some (.ref s), some (.int most), some (.int m), some (.int w), some (.int f), some (.ref p), y6, y7] ∧ 1 ≤ m' ∧ m' ≤ most ∧ 1 ≤ w' ∧ w' ≤ most ∧ NewTab H H5 p as rows w' 100 ∧ rows.length = m' ∧ ExB s H H5 ∧ SrcAt H5 s (n + 604), ?_, ?_⟩
    · refine ⟨_, rfl, s, 2, _, rfl, s4, by omega, by decide, (by unfold Bd; decide +kernel), fun g H5 g0 g1 e5 s5 => ⟨rfl, _, rfl, ?_⟩⟩
      have N5 := hN.exB e5 hs.obj
      refine ite2 (fun _ => ?_) (fun _ => ?_)
      · refine ⟨_, rfl, _, rfl, s, p, _, as, rows, m, w, rfl, s5, by omega, nin hN.p0, fun a ha => nin (hN.a0 a ha), N5.tab, hl, hN.ok, by omega, by omega, by omega, by omega, fun rs rows' p' H6 m' w' hmw hN' hl' e6 s6 => ?_⟩
        refine ⟨p', rs, rows', m', w', rfl, ?_, ?_, ?_, ?_, hN'.back (e4.trans e5) s5.obj, hl', (e4.trans e5).trans e6, s6.le (by omega)⟩ <;> rcases hmw with ⟨rfl, rfl⟩ | ⟨rfl, rfl⟩ <;> omega
      · exact ⟨p, as, rows, m, w, rfl, m1, m2, w1, w2, N5, hl, e4.trans e5, s5.le (by omega)⟩
    rintro σ' H5 ⟨p, as, rows, m', w', rfl, m1', m2', w1', w2', hN5, hl5, e5, s5⟩
    clear hN hl e4 s4
    have hN5 := hN5.mono (show 100 ≤ 10 ^ 30 by decide)
    -- other entries
    refine ⟨_, rfl, (by show 4 ≤ sizeLine; decide), fun l nl => ?_⟩
    have xl : Ex H5 (upd H5 l (.lst [.int 0, .int 0, .int 1, .int 2])) := Ex.new nl
    refine ⟨s, l, _, _, rfl, s5.ex xl, by omega, s5.ne nl, SqL.of upd_same, by decide, Nat.le_of_ble_eq_true rfl, fun v hv H6 e6 s6 => ?_⟩
    obtain ⟨c, rfl, hc0, hc2⟩ : ∃ c : Int, v = .int c ∧ 0 ≤ c ∧ c ≤ 2 := by
      simp only [List.mem_cons, List.not_mem_nil, or_false] at hv
      rcases hv with rfl | rfl | rfl | rfl
      · exact ⟨0, rfl, by decide, by decide⟩
      · exact ⟨0, rfl, by decide, by decide⟩
      · exact ⟨1, rfl, by decide, by decide⟩
      · exact ⟨2, rfl, by decide, by decide⟩
    have N6 := (hN5.ex xl).exB e6 hs.obj
    have e06 := (e5.trans (ExB.of xl)).trans e6
    clear xl nl
    refine ⟨_, rfl, by omega, by omega, for_range (lo := 0) (n := c.toNat) (fun i σ H' => ∃ (y6 y7 : Option V) (rows : List (List Int)), σ = [some (.ref s), some (.int most), some (.int m), some (.int w), some (.int f), some (.ref p), y6, y7] ∧ NewTab H H' p as rows w' (10 ^ 30) ∧ rows.length = m' ∧ ExB s H H' ∧ SrcAt H' s (n + 605 + 3 * i)) ⟨_, _, rows, rfl, N6, hl5, e06, s6.le (by omega)⟩ ?_ ?_⟩
    · rintro i σ H7 hi ⟨z6, z7, rows7, rfl, hN7, hl7, e7, s7⟩
      have al : as.length = m' := by rw [Paired.length hN7.tab.2, hl7]
      have i2 : i < 2 := by omega
      refine ⟨fun σ' H8 => ∃ (kk : Nat) (x : Addr) (row : List Int), σ' = [some (.ref s), some (.int most), some (.int m), some (.int w), some (.int f), some (.ref p), some (.int (0 + (i : Int))), some (.ref x)] ∧ as[kk]? = some x ∧ rows7[kk]? = some row ∧ ExB s H7 H8 ∧ SrcAt H8 s (n + 605 + 3 * i + 1), ?_, ?_⟩
      · refine ⟨_, rfl, _, rfl, _, rfl, p, _, rfl, .inl (SqL.of hN7.tab.1), s, _, _, rfl, s7, by omega, (by rw [List.length_map]; omega), ?_, fun g H8 g0 g1 e8 s8 => ?_⟩
        · unfold Bd
          exact Nat.lt_of_lt_of_le (show (((as.map V.ref).length : Nat) : Int).natAbs < 1024 by rw [List.length_map]; omega) (by decide +kernel)
        · rw [List.length_map] at g1
          obtain ⟨x, hx⟩ : ∃ x, as[g.toNat]? = some x := ⟨_, List.getElem?_eq_getElem (by omega)⟩
          obtain ⟨row, hrow, _⟩ := paired_get hN7.tab.2 hx
          have N8 := hN7.exB e8 hs.obj
          exact ⟨p, _, _, _, rfl, rfl, SqL.of N8.tab.1, at_of (j := g.toNat) (by omega) (by rw [List.getElem?_map, hx]; rfl), g.toNat, x, row, rfl, hx, hrow, e8, s8⟩
      rintro σ' H8 ⟨kk, x, row, rfl, hx, hrow, e8, s8⟩
      have N8 := hN7.exB e8 hs.obj
      have nxs : x ≠ s := nin (hN7.a0 x (List.mem_of_getElem? hx))
      have o := hN7.ok row (List.mem_of_getElem? hrow)
      have hxr : H8 x = some (.lst (row.map V.int)) := by
        obtain ⟨r', hr', hh⟩ := paired_get N8.tab.2 hx
        rw [hrow] at hr'
        rw [Option.some.inj hr']
        exact hh
      refine ⟨_, rfl, _, rfl, _, rfl, _, rfl, _, _, rfl, rfl, ⟨by decide, by decide, by decide⟩, (by show 9 ≤ sizeLine; decide), fun l nl => ?_⟩
      have xl : Ex H8 (upd H8 l (.lst [.int 1, .int (-1), .int 0, .int 1, .int (-1), .int 0, .int 2, .int (-3), .int (10 ^ (30 : Int).toNat)])) := Ex.new nl
      refine ⟨s, l, _, _, rfl, s8.ex xl, by omega, s8.ne nl, SqL.of upd_same, by decide, Nat.le_of_ble_eq_true rfl, fun v hv H9 e9 s9 => ?_⟩
      obtain ⟨y, rfl, hy⟩ : ∃ y : Int, v = .int y ∧ y.natAbs ≤ 10 ^ 30 := by
        simp only [List.mem_cons, List.not_mem_nil, or_false] at hv
        rcases hv with rfl | rfl | rfl | rfl | rfl | rfl | rfl | rfl | rfl <;> exact ⟨_, rfl, by decide +kernel⟩
      have x9 := e9 _ _ nxs (xl _ _ hxr)
      refine ⟨_, rfl, _, rfl, _, rfl, x, _, rfl, .inl (SqL.of x9), s, _, _, rfl, s9, by omega, (by rw [List.length_map, o.1]; omega), ?_, fun g HA g0 g1 eA sA => ?_⟩
      · unfold Bd
        exact Nat.lt_of_lt_of_le (show (((row.map V.int).length : Nat) : Int).natAbs < 1024 by rw [List.length_map, o.1]; omega) (by decide +kernel)
      · rw [List.length_map] at g1
        have e8A := (e8.trans (ExB.of xl)).trans (e9.trans eA)
        have NA := hN7.exB e8A hs.obj
        have ix : ixN (row.map V.int).length g = some g.toNat := by
          have := Evl.ixN_nat (n := (row.map V.int).length) (j := g.toNat) (by rw [List.length_map]; omega)
          rw [← this]
          congr 1
          omega
        refine ⟨x, _, g, g.toNat, rfl, rfl, eA _ _ nxs x9, ix, ?_⟩
        refine ⟨_, _, rows7.set kk (row.set g.toNat y), rfl, NA.set hx hrow hy, by rw [List.length_set]; exact hl7, ?_, ?_⟩
        · refine fun b o' nb h => ?_
          rw [upd_ne (ne_of_none h (hN7.a0 x (List.mem_of_getElem? hx)))]
          exact e8A _ _ nb (e7 _ _ nb h)
        · obtain ⟨a1, a2, a3, a4, a5, a6, a7, a8⟩ := sA
          exact ⟨a1, a2, a3, by rw [upd_ne nxs.symm]; exact a4, a5, a6, a7, by omega⟩
    · rintro σ H7 ⟨z6, z7, rows7, rfl, hN7, hl7, e7, s7⟩
      refine ⟨_, rfl, ?_⟩
      exact k as rows7 p H7 m' w' m1' m2' w1' w2' hN7 hl7 e7 (s7.le (by omega))
-- DEF rounded

theorem for_call {K : PySem.W.Frag} {sp : Sp} {E : XK} {te : TE} {g : TG} {tb : TS} {D : Ends} {σ : L2.St} {H : Hp} (h : te σ H fun v H1 => sp [v] H1 (fun v2 H3 => tFor (iList K (tC v2)) g tb D σ H3) E) : tFor (iList K (tCall sp [] E (tCons te tNil))) g tb D σ H := h
theorem betw_zip (rows : List (List Int)) (qs : List Rat) (z : List Int) : ((List.zipWith (fun (t : Int) (e : Int × Int) => decide (e.1 ≤ t) && decide (t ≤ e.2)) (Ls.totals rows z) (rows.map fun r => (Fq.fl (fsum r qs), Fq.ce (fsum r qs)))).all id) = Fq.betw rows qs z := by
  unfold Fq.betw Ls.totals
  induction rows with
  | nil => rfl
  | cons r rows ih =>
    rw [List.map_cons, List.map_cons, List.zipWith_cons_cons, List.all_cons, List.all_cons, ih]
    rfl
theorem sum_bd {r : List Int} {qs : List Rat} (h1 : ∀ y ∈ r, Bd 110 y) (h2 : ∀ q ∈ qs, BdQ 110 20 q) (h8 : qs.length ≤ 8) : Bd 1000 ((fsum r qs).den : Int) := by
  have h := psum_bd (terms_bd h1 h2) 8
  have e : psum (terms r qs) 8 = fsum r qs := psum_all (by unfold terms; rw [List.length_zipWith]; omega)
  rw [e] at h
  exact h.2.mono (by decide)
def RndAt (H0 H : Hp) (v : V) (o : Option (List Int)) : Prop := match o with
  | none => v = .non
  | some z => ∃ a, v = .ref a ∧ H a = some (.lst (z.map V.int)) ∧ H0 a = none
def sp_rounded (K : PySem.W.Frag) : Sp := fun vs H Q _ => ∃ (p b : Addr) (as bs : List Addr) (rows : List (List Int)) (m w : Nat) (qs : List Rat), vs = [.ref p, .ref b] ∧ TabOk H p as rows m w ∧ FrL H b bs qs ∧ qs.length = w ∧ (∀ r ∈ rows, ∀ y ∈ r, Bd 110 y) ∧ (∀ q ∈ qs, BdQ 110 20 q) ∧
  ∀ v H', Ex H H' → RndAt H H' v (Fq.rnd rows qs) → Q v H'

theorem ok_rounded (T : Txt K mg) : FnOk P w K mg base CX0 6 T.f_rounded T.fd_rounded ["table", "xs"] (sp_rounded K) := by
  refine Fun.ok T.F_rounded sc_rounded (fun vs H Q E h => ?_) (fun cdv A outer s H vs Q E hr h => ?_)
  · obtain ⟨_, _, _, _, _, _, _, _, rfl, _⟩ := h; rfl
  · refine ⟨_, (pss_cons (ps_expr (pe_call (ok_check_table T) (hr.mono (by decide)) (by rfl) T.g_check_table T.k_check_table T.b_check_table .nil pass0 (pa_cons (pv 0) pa_nil)))
      (pss_cons (ps_expr (pe_call (ok_check_fractions T) (hr.mono (by decide)) (by rfl) T.g_check_fractions T.k_check_fractions T.b_check_fractions .nil pass0 (pa_cons (pv 1) (pa_cons (pe_callB (id := "len") (r := rLenS K) call_len_seq (by rfl) T.n_len PySem.boot_len (pa_cons (pe_ix (r := rIxL K) ix_list (pv 0) pe_int (fun _ _ => rfl)) pa_nil)) (pa_cons pe_str pa_nil)))))
      (pss_cut (ps_setLc (i := 2) (own := [("total", 4)]) (wi := iList K _) (g := gName 4) (tt := tYes) rfl sc_rounded.nd rfl rfl (sw_true rfl rfl rfl (by decide +kernel)) (pi_list (pe_call (ok_led T) hr (by rfl) T.g_led T.k_led T.b_led .nil pass0 (pa_cons (pv 0) (pa_cons (pv 1) pa_nil)))) (blkOk_by (N := ["table", "xs", "ends", "whole", "total"]) (sc := (defScope s_rounded)) (by decide +kernel)) (fun _ _ _ _ _ => pg_name (i := 4) sc_rounded.nd rfl (Or.inl rfl)) (fun _ _ _ _ _ => pts_nil) (fun _ _ _ _ _ => (pe_tup (pa_cons (pe_call (ok_floor_of T) (hr.mono (by decide)) (by rfl) T.g_floor_of T.k_floor_of T.b_floor_of .nil pass0 (pa_cons (pv 4) pa_nil)) (pa_cons (pe_call (ok_ceiling_of T) (hr.mono (by decide)) (by rfl) T.g_ceiling_of T.k_ceiling_of T.b_ceiling_of .nil pass0 (pa_cons (pv 4) pa_nil)) pa_nil)))))
      (pss_cons (ps_for PassesOwn.never rfl (pi_list (pe_call (ok_all_rounded T) (hr.mono (by decide)) (by rfl) T.g_all_rounded T.k_all_rounded T.b_all_rounded .nil pass0 (pa_cons (pv 1) pa_nil))) (pg_name (i := 3) sc_rounded.nd rfl (by first | exact Or.inl rfl | exact Or.inr rfl))
        (pss_one (ps_if (pt_val (pe_call (ok_is_between T) (hr.mono (by decide)) (by rfl) T.g_is_between T.k_is_between T.b_is_between .nil pass0 (pa_cons (pv 0) (pa_cons (pv 3) (pa_cons (pv 2) pa_nil)))))
            (pss_one (ps_ret (pv 3)))
            pss_nil)))
      (pss_one (ps_ret pe_non)))))), ?_⟩
    obtain ⟨p, b, as, bs, rows, m, w, qs, rfl, hT, hF, hq, bn, bq, k⟩ := h
    have hd := hT.b
    refine ⟨_, rfl, p, as, rows, m, w, rfl, hT, fun H1 e1 => ?_⟩
    obtain ⟨a0, r0, _, _, hh0, hl0, at0⟩ := (hT.ex e1).row0
    refine q_drop (σ := [some (.ref p), some (.ref b), none, none, none]) (v := .non) (ev_fn (sp := sp_check_fractions K) (E := E0) (ea_cons (ev_var (i := 1) rfl) (ea_cons (ev_is (ev_len (ev_op (ev_var (i := 0) rfl) ev_c (rv_ixL (SqL.of (hT.ex e1).tab.1) at0)) (SqL.of hh0)) (by rw [List.length_map, hl0])) (ea_cons ev_c ea_nil))) fun H2 e2 Q2 q2 => ⟨b, bs, qs, (w : Int), _, rfl, hF.ex (e1.trans e2), by omega, by omega, q2⟩) fun H2 e2 => ?_
    have e12 := e1.trans e2
    have T2 := hT.ex e12
    have F2 := hF.ex e12
    -- the ends
    refine ⟨fun σ' H' => ∃ (pe : Addr) (cs : List Addr), σ' = [some (.ref p), some (.ref b), some (.ref pe), none, none] ∧ Ex H2 H' ∧ H' pe = some (.lst (cs.map V.ref)) ∧ EdgesAt H' cs (rows.map fun r => (Fq.fl (fsum r qs), Fq.ce (fsum r qs))), ?_, ?_⟩
    · refine lc_pairsF (K := K) (σ := [some (.ref p), some (.ref b), none, none, none]) (vs := [4]) (j := 4) (qs := rows.map fun r => fsum r qs) (fun q => (Fq.fl q, Fq.ce q)) (fun Q' h' => ?_) (by rw [List.length_map, hT.m_]; omega) (fun u => rfl) (fun c q H3 hq' hc e3 => ?_) (fun d cs H3 nd e3 hd' hcs => ?_)
      · exact ⟨_, rfl, _, rfl, p, b, as, bs, rows, m, w, qs, rfl, T2, F2, hq, fun r hr y hy => (bn r hr y hy).mono (by decide), fun q hq' => (bq q hq').mono (by decide) (by decide), fun c cs H3 nc e3 hc => h' c cs H3 nc e3 hc⟩
      · obtain ⟨r, hr, rfl⟩ := List.mem_map.mp hq'
        have bd := sum_bd (r := r) (fun y hy => bn r hr y hy) bq (by omega)
        exact eu_tup (ea_cons (ev_floorF (ev_var (i := 4) rfl) hc bd) (ea_cons (ev_ceilF (ev_var (i := 4) rfl) hc bd) ea_nil)) (Nat.le_of_ble_eq_true rfl)
      · rw [List.map_map] at hcs
        exact ⟨d, cs, rfl, e3, hd', hcs⟩
    rintro σ' H3 ⟨pe, cs, rfl, e3, hpe, hcs⟩
    have e13 := e12.trans e3
    -- the lists
    refine for_call (σ := [some (.ref p), some (.ref b), some (.ref pe), none, none]) ?_
    refine ⟨_, rfl, b, bs, qs, rfl, hF.ex e13, by omega, fun q hq' => (bq q hq').mono (by decide) (by decide), fun u us H4 nu nus _ _ e4 hu => ?_⟩
    have e14 := e13.trans e4
    have ul : us.length = (Ls.allL (qs.map Fq.ch)).length := Paired.length hu.2
    refine ⟨u, rfl, ⟨_, SqL.of hu.1⟩, for_list (K := K) (a := u) (xs := us.map V.ref) (fun i σ' H' => ∃ y : Option V, σ' = [some (.ref p), some (.ref b), some (.ref pe), y, none] ∧ Ex H4 H' ∧ ∀ z ∈ (Ls.allL (qs.map Fq.ch)).take i, Fq.betw rows qs z = false) ⟨_, rfl, Ex.refl _, fun z hz => nomatch hz⟩ (fun i σ' H' _ ⟨_, _, h, _⟩ => SqL.of (h _ _ hu.1)) (fun i x σ' H5 hx' hP => ?_) (fun σ' H5 hP => ?_)⟩
    rotate_left
    · obtain ⟨y, rfl, e5, hno⟩ := hP
      rw [List.length_map, ul, List.take_length] at hno
      refine k .non H5 (e14.trans e5) ?_
      unfold Fq.rnd
      rw [Ls.find_no hno]
      rfl
    obtain ⟨y, rfl, e5, hno⟩ := hP
    rw [List.getElem?_map] at hx'
    obtain ⟨a, ha, rfl⟩ := Option.map_eq_some_iff.mp hx'
    obtain ⟨z, hz, hza⟩ := paired_get hu.2 ha
    have hzm := List.mem_of_getElem? hz
    have pz := Ls.allL_each _ _ rfl z hzm
    have lz := Paired.length pz
    rw [List.length_map] at lz
    have bz := Fq.ch_all bq pz
    have e45 := e4.trans e5
    have T5 := hT.ex (e13.trans e45)
    refine s_when (b := Fq.betw rows qs z) (et_B (ev_fn (sp := sp_is_between K) (ea_cons (ev_var (i := 0) rfl) (ea_cons (ev_var (i := 3) rfl) (ea_cons (ev_var (i := 2) rfl) ea_nil))) fun G g Q1 k1 => ⟨p, a, pe, as, cs, rows, z, _, rfl, (T5.ex g).tab, by rw [hT.m_]; omega, fun r hr => ⟨by rw [hT.w_ r hr]; omega, bn r hr⟩, by omega, (e5.trans g) _ _ hza, bz, (e45.trans g) _ _ hpe, EdgesAt.mono (fun a xs h => (e45.trans g) _ _ h) hcs, by rw [List.length_map], fun G2 g2 => ?_⟩)) (fun hok H8 e8 => ?_) (fun hok H8 e8 => ⟨_, rfl, e5.trans e8, Ls.take_more hno hz hok⟩)
    · rw [betw_zip]
      exact k1 G2 g2
    · refine s_ret (ev_var (i := 3) rfl) fun H9 e9 => ?_
      have e59 := e5.trans (e8.trans e9)
      refine k (.ref a) H9 (e14.trans e59) ?_
      have fz : Fq.rnd rows qs = some z := Ls.find_at hno hz hok
      rw [fz]
      exact ⟨a, rfl, e59 _ _ hza, fresh_back e13 (nus a (List.mem_of_getElem? ha))⟩
-- DEF _law_divisor

namespace Fq
open PySem PySem.Spec PyProof.Rows
def stepB (B d : Int) : Int := B * d / gcdI B d
def comF (qs : List Rat) (B : Int) : Int := qs.foldl (fun B q => stepB B (q.den : Int)) B
def comB (qs : List Rat) : Int := comF qs 1
theorem step_facts {B d : Int} (hB : 0 < B) (hd : 0 < d) : 0 < stepB B d ∧ B ∣ stepB B d ∧ d ∣ stepB B d ∧ stepB B d ≤ B * d := by
  have g0 : 0 < gcdI B d := gcdI_pos (by omega)
  have hg1 : gcdI B d ∣ B := Int.ofNat_dvd_left.mpr (Nat.gcd_dvd_left _ _)
  have hg2 : gcdI B d ∣ d := Int.ofNat_dvd_left.mpr (Nat.gcd_dvd_right _ _)
  unfold stepB
  generalize gcdI B d = g at *
  obtain ⟨y, rfl⟩ := hg2
  have y0 : 0 < y := Int.pos_of_mul_pos_right hd (by omega)
  have e1 : B * (g * y) / g = B * y := by
    rw [Int.mul_left_comm]
    exact Int.mul_ediv_cancel_left _ (by omega)
  rw [e1]
  obtain ⟨x, rfl⟩ := hg1
  refine ⟨Int.mul_pos hB y0, ⟨y, rfl⟩, ⟨x, by rw [Int.mul_assoc, Int.mul_assoc, Int.mul_comm x y]⟩, ?_⟩
  have : y ≤ g * y := by
    have := Int.mul_le_mul_of_nonneg_right (show (1 : Int) ≤ g by omega) (show 0 ≤ y by omega)
    rwa [Int.one_mul] at this
  exact Int.mul_le_mul_of_nonneg_left this (by omega)
theorem com_facts : ∀ (qs : List Rat) (B : Int), 0 < B → 0 < comF qs B ∧ B ∣ comF qs B ∧ ∀ q ∈ qs, (q.den : Int) ∣ comF qs B
  | [], B, h => ⟨h, Int.dvd_refl _, fun q hq => nomatch hq⟩
  | q :: qs, B, h => by
    obtain ⟨s1, s2, s3, _⟩ := step_facts h (dpos q)
    obtain ⟨r1, r2, r3⟩ := com_facts qs _ s1
    refine ⟨r1, Int.dvd_trans s2 r2, fun p hp => ?_⟩
    rcases List.mem_cons.mp hp with rfl | hp
    · exact Int.dvd_trans s3 r2
    · exact r3 p hp
theorem step_bd {n k : Nat} {B d : Int} (hB : 0 < B) (hd : 0 < d) (h1 : Bd n B) (h2 : Bd k d) : Bd (n + k) (stepB B d) := by
  obtain ⟨s1, _, _, s4⟩ := step_facts hB hd
  refine (h1.mul h2).abs ?_
  have := Int.mul_pos hB hd
  omega
theorem com_bd {k : Nat} : ∀ (qs : List Rat) (B : Int) (n : Nat), 0 < B → Bd n B → (∀ q ∈ qs, Bd k (q.den : Int)) → Bd (n + k * qs.length) (comF qs B)
  | [], B, n, _, h, _ => h
  | q :: qs, B, n, h0, h, hq => by
    have s := step_facts h0 (dpos q)
    have r := com_bd qs _ (n + k) s.1 (step_bd h0 (dpos q) h (hq q (.head _))) fun q h => hq q (.tail _ h)
    refine r.mono ?_
    rw [List.length_cons, Nat.mul_add]
    omega
theorem com_snoc (qs : List Rat) (q : Rat) : comB (qs ++ [q]) = stepB (comB qs) (q.den : Int) := by
  unfold comB comF
  rw [List.foldl_append]
  rfl
def top (B : Int) (q : Rat) : Int := q.num * (B / (q.den : Int))
def tops (qs : List Rat) : List Int := qs.map (top (comB qs))
theorem com_all (qs : List Rat) : 0 < comB qs ∧ ∀ q ∈ qs, (q.den : Int) ∣ comB qs := ⟨(com_facts qs 1 (by decide)).1, (com_facts qs 1 (by decide)).2.2⟩
theorem mk_top {B : Int} {q : Rat} (hB : 0 < B) (hd : (q.den : Int) ∣ B) : q = mkRat (top B q) B.toNat := by
  unfold top
  obtain ⟨k, hk⟩ := hd
  have d0 := dpos q
  have k0 : 0 < k := by
    rw [hk] at hB
    exact Int.pos_of_mul_pos_right hB (by omega)
  have e1 : B / (q.den : Int) = k := by
    rw [hk]
    exact Int.mul_ediv_cancel_left _ (by omega)
  have e2 : B.toNat = q.den * k.toNat := by
    rw [hk, Int.toNat_mul (by omega) (by omega), Int.toNat_natCast]
  have e3 : k = ((k.toNat : Nat) : Int) := by omega
  rw [e1, e2]
  conv => rhs; arg 1; rw [e3]
  rw [Rat.mkRat_mul_right (by omega)]
  exact (Rat.mkRat_self q).symm
theorem sum_mk {b : Nat} (hb : b ≠ 0) (f : Rat → Int) : ∀ (ns : List Int) (qs : List Rat) (t : Int), (∀ q ∈ qs, q = mkRat (f q) b) → (terms ns qs).foldl (· + ·) (mkRat t b) = mkRat (t + Ls.dot ns (qs.map f)) b
  | [], qs, t, _ => by
    unfold terms Ls.dot
    rw [List.zipWith_nil_left, List.zipWith_nil_left]
    show mkRat t b = mkRat (t + 0) b
    rw [Int.add_zero]
  | n :: ns, [], t, _ => by
    unfold terms Ls.dot
    show mkRat t b = mkRat (t + 0) b
    rw [Int.add_zero]
  | n :: ns, q :: qs, t, h => by
    have e : mkRat t b + mkRat n 1 * q = mkRat (t + n * f q) b := by
      have hq := h q (.head _)
      generalize f q = w at hq ⊢
      subst hq
      rw [Rat.mkRat_mul_mkRat, Nat.one_mul, Rat.mkRat_add_mkRat _ _ hb hb, ← Int.add_mul, Rat.mkRat_mul_right hb]
    have ih := sum_mk hb f ns qs (t + n * f q) fun q h' => h q (.tail _ h')
    unfold terms Ls.dot at ih ⊢
    rw [List.zipWith_cons_cons, List.foldl_cons, e, ih, List.map_cons, List.zipWith_cons_cons, List.sum_cons, Int.add_assoc]
theorem fsum_mk (ns : List Int) (qs : List Rat) : fsum ns qs = mkRat (Ls.dot ns (tops qs)) (comB qs).toNat := by
  obtain ⟨c0, cd⟩ := com_all qs
  have h := sum_mk (b := (comB qs).toNat) (by omega) (top (comB qs)) ns qs 0 fun q hq => mk_top c0 (cd q hq)
  rw [Rat.zero_mkRat, Int.zero_add] at h
  exact h
theorem parts_mk {t b : Int} (hb : 0 < b) : ∃ g x y : Int, 0 < g ∧ t = g * x ∧ b = g * y ∧ (mkRat t b.toNat).num = x ∧ ((mkRat t b.toNat).den : Int) = y := by
  have g0 : 0 < gcdI t b := gcdI_pos (by omega)
  have hg1 : gcdI t b ∣ t := Int.ofNat_dvd_left.mpr (Nat.gcd_dvd_left _ _)
  have hg2 : gcdI t b ∣ b := Int.ofNat_dvd_left.mpr (Nat.gcd_dvd_right _ _)
  have e := fr_low (t := t) hb
  unfold frV at e
  injection e with e1 e2
  injection e2 with e2 _
  have e1 := V.int.inj e1
  have e2 := V.int.inj e2
  refine ⟨gcdI t b, t / gcdI t b, b / gcdI t b, g0, (Int.mul_ediv_cancel' hg1).symm, (Int.mul_ediv_cancel' hg2).symm, e1.symm, e2.symm⟩
theorem fl_mk {t b : Int} (hb : 0 < b) : fl (mkRat t b.toNat) = t / b := by
  obtain ⟨g, x, y, g0, rfl, rfl, e1, e2⟩ := parts_mk (t := t) hb
  unfold fl
  rw [e1, e2, Int.mul_ediv_mul_of_pos _ _ g0]
theorem ce_mk {t b : Int} (hb : 0 < b) : ce (mkRat t b.toNat) = -((-t) / b) := by
  obtain ⟨g, x, y, g0, rfl, rfl, e1, e2⟩ := parts_mk (t := t) hb
  unfold ce
  rw [e1, e2, ← Int.mul_neg, Int.mul_ediv_mul_of_pos _ _ g0]
theorem law_betw (rows : List (List Int)) (qs : List Rat) (z : List Int) : ((List.zipWith (fun (t s : Int) => decide (t / comB qs ≤ s) && decide (s ≤ 0 - (0 - t) / comB qs)) (Ls.totals rows (tops qs)) (Ls.totals rows z)).all id) = betw rows qs z := by
  have c0 := (com_all qs).1
  unfold betw Ls.totals
  induction rows with
  | nil => rfl
  | cons r rows ih =>
    rw [List.map_cons, List.map_cons, List.zipWith_cons_cons, List.all_cons, List.all_cons, ih, fsum_mk r qs, fl_mk c0, ce_mk c0, Int.zero_sub, Int.zero_sub]
    rfl
end Fq

def sp__law_divisor (K : PySem.W.Frag) : Sp := fun vs H Q _ => ∃ (a b : Int), vs = [.int a, .int b] ∧ 0 ≤ a ∧ 0 ≤ b ∧ Q (.int (gcdI a b)) H

theorem ok__law_divisor (T : Txt K mg) : FnOk P w K mg base CX0 1 T.f__law_divisor T.fd__law_divisor ["_law_one_here", "_law_other"] (sp__law_divisor K) := by
  refine Fun.ok T.F__law_divisor sc__law_divisor (fun vs H Q E h => ?_) (fun cdv A outer s H vs Q E hr h => ?_)
  · obtain ⟨_, _, rfl, _⟩ := h; rfl
  · refine ⟨_, (pss_cons (ps_while PassesOwn.never (pt_cmpR op_ne (pv 1) pe_int (nomark _))
        (pss_one (ps_par (i := 0) (j := 1) (by rfl) sc__law_divisor.nd rfl rfl (by decide) rfl rfl (pa_cons (pv 1) (pa_cons (pe_op op_mod (pv 0) (pv 1)) pa_nil)) (by rfl))))
      (pss_one (ps_ret (pv 0)))), ?_⟩
    obtain ⟨a, b, rfl, ha, hb, k⟩ := h
    refine ⟨fun m σ H1 => ∃ x y : Int, σ = [some (.int x), some (.int y)] ∧ H1 = H ∧ 0 ≤ x ∧ 0 ≤ y ∧ m = y.toNat ∧ Nat.gcd x.toNat y.toNat = Nat.gcd a.natAbs b.natAbs, ⟨b.toNat, a, b, rfl, rfl, ha, hb, rfl, ?_⟩, ?_⟩
    · rw [show a.toNat = a.natAbs by omega, show b.toNat = b.natAbs by omega]
    · rintro m σ H1 ⟨x, y, rfl, rfl, hx, hy, rfl, hg⟩
      refine ⟨_, rfl, rfl, _, rfl, ?_⟩
      refine ite2 (fun hp => ?_) (fun hp => ?_)
      · have hy0 : 0 < y := by
          have : y ≠ 0 := fun z => by
            rw [z, decide_eq_true rfl] at hp
            cases hp
          omega
        refine ⟨fun σ' H' => ∃ x' y' : Int, σ' = [some (.int x'), some (.int y')] ∧ H' = H1 ∧ 0 ≤ x' ∧ 0 ≤ y' ∧ y'.toNat < y.toNat ∧ Nat.gcd x'.toNat y'.toNat = Nat.gcd a.natAbs b.natAbs, fun σ' H' ⟨x', y', e1, e2, a1, a2, a3, a4⟩ => ⟨y'.toNat, a3, x', y', e1, e2, a1, a2, rfl, a4⟩, ?_⟩
        refine ⟨_, rfl, _, rfl, _, rfl, _, _, rfl, rfl, hy0, _, _, rfl, ?_⟩
        have m0 := Int.emod_nonneg x (show y ≠ 0 by omega)
        have m1 := Int.emod_lt_of_pos x hy0
        refine ⟨y, x % y, rfl, rfl, hy, m0, by omega, ?_⟩
        have e3 : (x % y).toNat = x.toNat % y.toNat := Int.toNat_emod hx hy
        rw [e3, ← hg, Nat.gcd_comm, ← Nat.gcd_rec, Nat.gcd_comm]
      · have hy0 : y = 0 := by
          by_cases z : y = 0
          · exact z
          · exact absurd (by rw [decide_eq_false fun q => z (V.int.inj q)]; rfl) hp
        subst hy0
        have eg : x = gcdI a b := by
          have h1 : Nat.gcd x.toNat (0 : Int).toNat = x.toNat := Nat.gcd_zero_right _
          rw [h1] at hg
          unfold gcdI
          omega
        rw [← eg] at k
        exact ⟨_, rfl, k⟩
-- DEF _law_is_number

def sp__law_is_number (K : PySem.W.Frag) : Sp := fun vs H Q _ => ∃ (n : Int), vs = [.int n] ∧ ∀ H', Ex H H' → Q (.bl true) H'

theorem ok__law_is_number (T : Txt K mg) : FnOk P w K mg base CX0 1 T.f__law_is_number T.fd__law_is_number ["_law_thing"] (sp__law_is_number K) := by
  refine Fun.ok T.F__law_is_number sc__law_is_number (fun vs H Q E h => ?_) (fun cdv A outer s H vs Q E hr h => ?_)
  · obtain ⟨_, rfl, _⟩ := h; rfl
  · refine ⟨_, (pss_one (ps_ret (pe_and (pe_callB (id := "isinstance") (r := rIsi K) call_isi (by rfl) T.n_isinstance (by decide +kernel) (pa_cons (pv 0) (pa_cons (pe_bltn (v := .ty "int") (by rfl) T.n_int (by decide +kernel) rfl) pa_nil))) (pe_one (pe_not (pe_callB (id := "isinstance") (r := rIsi K) call_isi (by rfl) T.n_isinstance (by decide +kernel) (pa_cons (pv 0) (pa_cons (pe_bltn (v := .ty "bool") (by rfl) T.n_bool (by decide +kernel) rfl) pa_nil)))))))), ?_⟩
    obtain ⟨n, rfl, k⟩ := h
    exact s_ret (ev_andV (a := true) (b := true) (ev_isi (t := "int") (b := true) (ev_var rfl) ev_c (fun H1 e => .base (.int _)) (by decide +kernel)) (fun _ => ev_is (ev_notV (ev_isi (t := "int") (b := false) (ev_var rfl) ev_c (fun H1 e => .base (.int _)) (by decide +kernel))) rfl)) fun H' e => k H' e
-- DEF _law_floor

def sp__law_floor (K : PySem.W.Frag) : Sp := fun vs H Q _ => ∃ (p : Addr) (q : Rat), vs = [.ref p] ∧ H p = some (.tup (frV q)) ∧ Bd 1000 (q.den : Int) ∧ Q (.int (Fq.fl q)) H

theorem ok__law_floor (T : Txt K mg) : FnOk P w K mg base CX0 1 T.f__law_floor T.fd__law_floor ["_law_one_here"] (sp__law_floor K) := by
  refine Fun.ok T.F__law_floor sc__law_floor (fun vs H Q E h => ?_) (fun cdv A outer s H vs Q E hr h => ?_)
  · obtain ⟨_, _, rfl, _⟩ := h; rfl
  · refine ⟨_, (pss_one (ps_ret (pe_op op_fdivW (pe_ix (r := rIxT K) ix_tup (pv 0) pe_int (fun _ _ => rfl)) (pe_ix (r := rIxT K) ix_tup (pv 0) pe_int (fun _ _ => rfl))))), ?_⟩
    obtain ⟨p, q, rfl, hp, bb, k⟩ := h
    unfold frV at hp
    refine ⟨_, rfl, p, _, _, _, rfl, rfl, SqT.of hp, rfl, _, rfl, p, _, _, _, rfl, rfl, SqT.of hp, rfl, _, _, rfl, rfl, Bd.divOk (Fq.dpos q) bb, k⟩
-- DEF _law_ceiling

def sp__law_ceiling (K : PySem.W.Frag) : Sp := fun vs H Q _ => ∃ (p : Addr) (q : Rat), vs = [.ref p] ∧ H p = some (.tup (frV q)) ∧ Bd 1000 (q.den : Int) ∧ Q (.int (Fq.ce q)) H

theorem ok__law_ceiling (T : Txt K mg) : FnOk P w K mg base CX0 1 T.f__law_ceiling T.fd__law_ceiling ["_law_one_here"] (sp__law_ceiling K) := by
  refine Fun.ok T.F__law_ceiling sc__law_ceiling (fun vs H Q E h => ?_) (fun cdv A outer s H vs Q E hr h => ?_)
  · obtain ⟨_, _, rfl, _⟩ := h; rfl
  · refine ⟨_, (pss_one (ps_ret (pe_op op_sub pe_int (pe_op op_fdivW (pe_op op_sub pe_int (pe_ix (r := rIxT K) ix_tup (pv 0) pe_int (fun _ _ => rfl))) (pe_ix (r := rIxT K) ix_tup (pv 0) pe_int (fun _ _ => rfl)))))), ?_⟩
    obtain ⟨p, q, rfl, hp, bb, k⟩ := h
    unfold frV at hp
    have e : 0 - (0 - q.num) / (q.den : Int) = Fq.ce q := by
      unfold Fq.ce
      rw [Int.zero_sub, Int.zero_sub]
    rw [← e] at k
    exact ⟨_, rfl, p, _, _, _, rfl, rfl, SqT.of hp, rfl, _, _, rfl, rfl, _, rfl, p, _, _, _, rfl, rfl, SqT.of hp, rfl, _, _, rfl, rfl, Bd.divOk (Fq.dpos q) bb, _, _, rfl, rfl, k⟩
-- DEF _law_lowest

theorem gcd_abs (t b : Int) : gcdI (if t < 0 then -t else t) b = gcdI t b := by
  unfold gcdI
  split
  · rw [Int.natAbs_neg]
  · rfl
def sp__law_lowest (K : PySem.W.Frag) : Sp := fun vs H Q _ => ∃ (t b : Int), vs = [.int t, .int b] ∧ 0 < b ∧ Bd 9000 b ∧
  ∀ (p : Addr) (H' : Hp), H p = none → Ex H H' → H' p = some (.tup (frV (mkRat t b.toNat))) → Q (.ref p) H'

theorem ok__law_lowest (T : Txt K mg) : FnOk P w K mg base CX0 2 T.f__law_lowest T.fd__law_lowest ["_law_top", "_law_bottom"] (sp__law_lowest K) := by
  refine Fun.ok T.F__law_lowest sc__law_lowest (fun vs H Q E h => ?_) (fun cdv A outer s H vs Q E hr h => ?_)
  · obtain ⟨_, _, rfl, _⟩ := h; rfl
  · refine ⟨_, (pss_cons (ps_if (pt_cmpR op_lt (pv 1) pe_int (nomark _))
        (pss_one (ps_par (i := 0) (j := 1) (by rfl) sc__law_lowest.nd rfl rfl (by decide) rfl rfl (pa_cons (pe_op op_sub pe_int (pv 0)) (pa_cons (pe_op op_sub pe_int (pv 1)) pa_nil)) (by rfl)))
        pss_nil)
      (pss_cons (ps_set (i := 2) sc__law_lowest.nd rfl (by first | exact Or.inl rfl | exact Or.inr rfl) (pe_call (ok__law_divisor T) hr (by rfl) T.g__law_divisor T.k__law_divisor T.b__law_divisor .nil pass0 (pa_cons (pe_callB (id := "abs") call_abs (by rfl) T.n_abs (by decide +kernel) (pa_cons (pv 0) pa_nil)) (pa_cons (pv 1) pa_nil))))
      (pss_one (ps_ret (pe_tup (pa_cons (pe_op op_fdivW (pv 0) (pv 2)) (pa_cons (pe_op op_fdivW (pv 1) (pv 2)) pa_nil))))))), ?_⟩
    obtain ⟨t, b, rfl, hb, bb, k⟩ := h
    have gp := gcdI_pos (t := t) (show b ≠ 0 by omega)
    have gb : Bd 9000 (gcdI t b) := Bd.abs bb (gcdI_le (by omega))
    refine s_when (σ := [some (.int t), some (.int b), none]) (b := false) (et_is (et_test (ev_op (ev_var (i := 1) rfl) ev_c rv_I0)) (decide_eq_false (by omega))) (fun z => nomatch z) fun _ H1 e1 => ?_
    dsimp only
    refine s_asg (σ := [some (.int t), some (.int b), none]) (v := .int (gcdI t b)) (ev_fn (sp := sp__law_divisor K) (vs := [.int (if t < 0 then -t else t), .int b]) (ea_cons (fun H2 e2 Q2 q2 => ⟨_, rfl, _, rfl, q2 H2 (Ex.refl _)⟩) (ea_cons (ev_var (i := 1) rfl) ea_nil)) fun H2 e2 Q2 q2 => ⟨_, _, rfl, by split <;> omega, by omega, ?_⟩) fun H2 e2 => ?_
    · rw [gcd_abs]
      exact q2 H2 (Ex.refl _)
    refine s_retU (eu_tup (ea_cons (ev_op (ev_var (i := 0) rfl) (ev_var (i := 2) rfl) (rv_I (Bd.divOk gp gb))) (ea_cons (ev_op (ev_var (i := 1) rfl) (ev_var (i := 2) rfl) (rv_I (Bd.divOk gp gb))) ea_nil)) (Nat.le_of_ble_eq_true rfl)) fun p H3 np e3 hp => k p H3 (fresh_back (e1.trans e2) np) ((e1.trans e2).trans e3) ?_
    rw [← fr_low hb]
    exact hp
-- DEF _law_common

theorem s_retUL {te1 te2 : TE} {D : Ends} {σ : L2.St} {H : Hp} {v : V} {xs : List V} (h1 : Ev te1 σ H v) (h2 : EvL te2 σ H xs) (k : ∀ t p H1, H t = none → Ex H H1 → H1 t = some (.tup [v, .ref p]) → H1 p = some (.lst xs) → D.rt (.ref t) H1) : tRet (tTup (tCons te1 (tCons te2 tNil))) D σ H :=
  h1 H (Ex.refl H) _ fun H1 e1 => h2 H1 e1 _ fun p H2 np e2 hp => ⟨(by show 2 ≤ sizeLine; decide), fun t nt => k t p _ (fresh_back (e1.trans e2) nt) ((e1.trans e2).trans (Ex.new nt)) upd_same (Ex.new nt _ _ hp)⟩
theorem frs_edges {H : Hp} {bs : List Addr} {qs : List Rat} (h : FrsAt H bs qs) : EdgesAt H bs (qs.map fun q => (q.num, (q.den : Int))) := by
  induction h with
  | nil => exact .nil
  | cons r t ih => exact .cons r ih
def sp__law_common (K : PySem.W.Frag) : Sp := fun vs H Q _ => ∃ (p : Addr) (bs : List Addr) (qs : List Rat), vs = [.ref p] ∧ FrL H p bs qs ∧ qs.length ≤ 8 ∧ (∀ q ∈ qs, BdQ 110 20 q) ∧
  ∀ t pt H', H t = none → Ex H H' → H' t = some (.tup [.int (Fq.comB qs), .ref pt]) → H' pt = some (.lst ((Fq.tops qs).map V.int)) → Q (.ref t) H'

theorem ok__law_common (T : Txt K mg) : FnOk P w K mg base CX0 2 T.f__law_common T.fd__law_common ["_law_xs"] (sp__law_common K) := by
  refine Fun.ok T.F__law_common sc__law_common (fun vs H Q E h => ?_) (fun cdv A outer s H vs Q E hr h => ?_)
  · obtain ⟨_, _, _, rfl, _⟩ := h; rfl
  · refine ⟨_, (pss_cons (ps_set (i := 1) sc__law_common.nd rfl (by first | exact Or.inl rfl | exact Or.inr rfl) pe_int)
      (pss_cons (ps_for PassesOwn.never rfl (pi_list (pv 0)) (pg_tup rfl (pgs_cons (pg_name (i := 2) sc__law_common.nd rfl (by first | exact Or.inl rfl | exact Or.inr rfl)) (pgs_cons (pg_name (i := 3) sc__law_common.nd rfl (by first | exact Or.inl rfl | exact Or.inr rfl)) pgs_nil)))
        (pss_one (ps_set (i := 1) sc__law_common.nd rfl (by first | exact Or.inl rfl | exact Or.inr rfl) (pe_op op_fdivW (pe_op op_mulW (pv 1) (pv 3)) (pe_call (ok__law_divisor T) hr (by rfl) T.g__law_divisor T.k__law_divisor T.b__law_divisor .nil pass0 (pa_cons (pv 1) (pa_cons (pv 3) pa_nil)))))))
      (pss_one (ps_ret (pe_tup (pa_cons (pv 1) (pa_cons (pe_lc (own := [("_law_top", 2), ("_law_low", 3)]) (wi := iList K _) (g := gTup K 2 (gCons (gName 2) (gCons (gName 3) gNil))) (tt := tYes) rfl sc__law_common.nd (pi_list (pv 0)) (blkOk_by (N := ["_law_xs", "_law_bottom", "_law_top", "_law_low"]) (sc := (defScope s__law_common)) (by decide +kernel)) (fun _ _ _ _ _ => (pg_tup rfl (pgs_cons (pg_name (i := 2) sc__law_common.nd rfl (Or.inl rfl)) (pgs_cons (pg_name (i := 3) sc__law_common.nd rfl (Or.inl rfl)) pgs_nil)))) (fun _ _ _ _ _ => pts_nil) (fun _ _ _ _ _ => (pe_op op_mulW (pv 2) (pe_op op_fdivW (pv 1) (pv 3))))) pa_nil))))))), ?_⟩
    obtain ⟨p, bs, qs, rfl, hF, h8, bq, k⟩ := h
    have ed := frs_edges hF.2
    have el : bs.length = qs.length := Paired.length hF.2
    have bq' : ∀ q ∈ qs, Bd 20 (q.den : Int) := fun q hq => (bq q hq).2
    have bP : ∀ i : Nat, 0 < Fq.comB (qs.take i) ∧ Bd 170 (Fq.comB (qs.take i)) := fun i => by
      refine ⟨(Fq.com_all _).1, ?_⟩
      have := Fq.com_bd (k := 20) (qs.take i) 1 1 (by decide) (by unfold Bd; decide) fun q h => bq' q (List.mem_of_mem_take h)
      refine this.mono ?_
      have : (qs.take i).length ≤ 8 := by rw [List.length_take]; omega
      omega
    refine s_asg (σ := [some (.ref p), none, none, none]) ev_c fun H1 e1 => ?_
    refine q_forL (σ := [some (.ref p), some (.int 1), none, none]) (xs := bs.map V.ref) (ev_var (i := 0) rfl) (SqL.of (e1 _ _ hF.1)) (fun i σ' H' => ∃ y2 y3 : Option V, σ' = [some (.ref p), some (.int (Fq.comB (qs.take i))), y2, y3] ∧ Ex H H') (fun H2 e2 => ⟨_, _, rfl, e1.trans e2⟩) (fun i σ' H' _ ⟨_, _, _, h⟩ => SqL.of (h _ _ hF.1)) (fun i x σ' H2 hx hP => ?_) (fun σ' H2 hP => ?_)
    · obtain ⟨y2, y3, rfl, e2⟩ := hP
      rw [List.getElem?_map] at hx
      obtain ⟨c, hc, rfl⟩ := Option.map_eq_some_iff.mp hx
      obtain ⟨q, hq, hcq⟩ := paired_get hF.2 hc
      have d0 := Fq.dpos q
      have bd := bq' q (List.mem_of_getElem? hq)
      obtain ⟨b0, bb⟩ := bP i
      refine ⟨c, _, rfl, SqT.of (e2 _ _ hcq), rfl, _, _, rfl, _, _, rfl, rfl, ?_⟩
      refine s_asg (σ := [some (.ref p), some (.int (Fq.comB (qs.take i))), some (.int q.num), some (.int (q.den : Int))]) (v := .int (Fq.stepB (Fq.comB (qs.take i)) (q.den : Int))) (ev_op (ev_op (ev_var (i := 1) rfl) (ev_var (i := 3) rfl) (rv_I (bb.mulOk bd))) (ev_fn (sp := sp__law_divisor K) (ea_cons (ev_var (i := 1) rfl) (ea_cons (ev_var (i := 3) rfl) ea_nil)) fun H2 e2 Q2 q2 => ⟨_, _, rfl, by omega, by omega, q2 H2 (Ex.refl _)⟩) (rv_I (Bd.divOk (gcdI_pos (by omega)) (bd.abs (gcdI_le (by omega)))))) fun H3 e3 => ⟨some (.int q.num), some (.int (q.den : Int)), ?_, e2.trans e3⟩
      rw [take_snoc hq, Fq.com_snoc]
      rfl
    · obtain ⟨y2, y3, rfl, e2⟩ := hP
      rw [List.length_map, el, List.take_length]
      have b8 := bP 8
      rw [List.take_of_length_le h8] at b8
      refine s_retUL (ev_var (i := 1) rfl) (el_pairs (K := K) (n := 0) (qs := qs.map fun q => (q.num, (q.den : Int))) (fun e => e.1 * (Fq.comB qs / e.2)) rfl (e2 _ _ hF.1) (EdgesAt.mono (fun a xs g => e2 _ _ g) ed) (by rw [List.length_map]; omega) (fun u v => rfl) (fun e H3 he e3 => ?_)) fun t pt H3 nt e3 ht hpt => k t pt H3 (fresh_back e2 nt) (e2.trans e3) ht ?_
      · obtain ⟨q, hq, rfl⟩ := List.mem_map.mp he
        refine ev_op (ev_var (i := 2) rfl) (ev_op (ev_var (i := 1) rfl) (ev_var (i := 3) rfl) (rv_I (Bd.divOk (Fq.dpos q) (bq' q hq)))) (rv_I ((bq q hq).1.mulOk (b8.2.abs (Int.natAbs_ediv_le_natAbs _ _))))
      · have e : ((qs.map fun q => (q.num, (q.den : Int))).map fun e => e.1 * (Fq.comB qs / e.2)) = Fq.tops qs := by
          rw [List.map_map]
          rfl
        rw [e] at hpt
        exact hpt
-- DEF _law_are_wholes

def sp__law_are_wholes (K : PySem.W.Frag) : Sp := fun vs H Q _ => ∃ (a : Addr) (ns : List Int) (n : Int), vs = [.ref a, .int n] ∧ H a = some (.lst (ns.map V.int)) ∧ (ns.length : Int) = n ∧ ns.length ≤ 100 ∧ ∀ H', Ex H H' → Q (.bl true) H'

theorem ok__law_are_wholes (T : Txt K mg) : FnOk P w K mg base CX0 2 T.f__law_are_wholes T.fd__law_are_wholes ["_law_thing", "_law_many"] (sp__law_are_wholes K) := by
  refine Fun.ok T.F__law_are_wholes sc__law_are_wholes (fun vs H Q E h => ?_) (fun cdv A outer s H vs Q E hr h => ?_)
  · obtain ⟨_, _, _, rfl, _⟩ := h; rfl
  · refine ⟨_, (pss_one (ps_ret (pe_and (pe_callB (id := "isinstance") (r := rIsi K) call_isi (by rfl) T.n_isinstance (by decide +kernel) (pa_cons (pv 0) (pa_cons (pe_bltn (v := .ty "list") (by rfl) T.n_list (by decide +kernel) rfl) pa_nil))) (pe_and (pe_cmpR op_eq (pe_callB (id := "len") (r := rLenS K) call_len_seq (by rfl) T.n_len PySem.boot_len (pa_cons (pv 0) pa_nil)) (pv 1) (nomark _)) (pe_one (pe_callB (id := "all") (r := rAll K) (cr_all rfl) (by rfl) T.n_all (by decide +kernel) (pa_cons (pe_lc (own := [("_law_one_here", 2)]) (wi := iList K _) (g := gName 2) (tt := tYes) rfl sc__law_are_wholes.nd (pi_list (pv 0)) (blkOk_by (N := ["_law_thing", "_law_many", "_law_one_here"]) (sc := (defScope s__law_are_wholes)) (by decide +kernel)) (fun _ _ _ _ _ => pg_name (i := 2) sc__law_are_wholes.nd rfl (Or.inl rfl)) (fun _ _ _ _ _ => pts_nil) (fun _ _ _ _ _ => (pe_call (ok__law_is_number T) hr (by rfl) T.g__law_is_number T.k__law_is_number T.b__law_is_number .nil pass0 (pa_cons (pv 2) pa_nil)))) pa_nil))))))), ?_⟩
    obtain ⟨a, ns, n, rfl, ha, hl, h8, k⟩ := h
    refine s_ret (ev_andV (a := true) (b := true) (ev_isi (t := "list") (b := true) (ev_var rfl) ev_c (fun H1 e => .base (.lst (e _ _ ha))) (by decide +kernel)) (fun _ => ev_andV (a := true) (b := true) (ev_is (ev_op (ev_len (ev_var rfl) (SqL.of ha)) (ev_var rfl) (rv_eq rfl)) (by rw [List.length_map, hl]; exact congrArg V.bl (decide_eq_true rfl))) (fun _ => ev_all (el_yes (a := a) rfl ha (by rw [List.length_map]; omega) (fun x H' hx e => ?_) (fun x => rfl))))) fun H' e => k H' e
    obtain ⟨y, _, rfl⟩ := List.mem_map.mp hx
    exact ev_fn (ea_cons (ev_var rfl) ea_nil) fun H3 e3 Q3 q3 => ⟨_, rfl, q3⟩
-- DEF _law_sums

theorem tops_bd {qs : List Rat} (bq : ∀ q ∈ qs, BdQ 110 20 q) (h8 : qs.length ≤ 8) : ∀ y ∈ Fq.tops qs, Bd 300 y := by
  intro y hy
  obtain ⟨q, hq, rfl⟩ := List.mem_map.mp hy
  have h1 := Fq.com_bd (k := 20) qs 1 1 (by decide) (by unfold Bd; decide) fun q h => (bq q h).2
  have h2 : Bd 170 (Fq.comB qs) := h1.mono (by omega)
  exact ((bq q hq).1.mul (h2.abs (Int.natAbs_ediv_le_natAbs _ _))).mono (by decide)
def sp__law_sums (K : PySem.W.Frag) : Sp := fun vs H Q _ => ∃ (p b : Addr) (as bs : List Addr) (rows : List (List Int)) (qs : List Rat), vs = [.ref p, .ref b] ∧ Tab H p as rows ∧ rows.length ≤ 8 ∧ (∀ r ∈ rows, r.length = qs.length ∧ ∀ y ∈ r, Bd 110 y) ∧ FrL H b bs qs ∧ qs.length ≤ 8 ∧ (∀ q ∈ qs, BdQ 110 20 q) ∧
  ∀ t pt H', H t = none → Ex H H' → H' t = some (.tup [.int (Fq.comB qs), .ref pt]) → H' pt = some (.lst ((Ls.totals rows (Fq.tops qs)).map V.int)) → Q (.ref t) H'

theorem ok__law_sums (T : Txt K mg) : FnOk P w K mg base CX0 3 T.f__law_sums T.fd__law_sums ["_law_rows", "_law_xs"] (sp__law_sums K) := by
  refine Fun.ok T.F__law_sums sc__law_sums (fun vs H Q E h => ?_) (fun cdv A outer s H vs Q E hr h => ?_)
  · obtain ⟨_, _, _, _, _, _, rfl, _⟩ := h; rfl
  · refine ⟨_, (pss_cons (ps_asg (pe_call (ok__law_common T) hr (by rfl) T.g__law_common T.k__law_common T.b__law_common .nil pass0 (pa_cons (pv 1) pa_nil)) (pg_tup rfl (pgs_cons (pg_name (i := 2) sc__law_sums.nd rfl (by first | exact Or.inl rfl | exact Or.inr rfl)) (pgs_cons (pg_name (i := 3) sc__law_sums.nd rfl (by first | exact Or.inl rfl | exact Or.inr rfl)) pgs_nil))))
      (pss_one (ps_ret (pe_tup (pa_cons (pv 2) (pa_cons (pe_lc (own := [("_law_row", 4)]) (wi := iList K _) (g := gName 4) (tt := tYes) rfl sc__law_sums.nd (pi_list (pv 0)) (blkOk_by (N := ["_law_rows", "_law_xs", "_law_bottom", "_law_tops", "_law_row", "_law_a", "_law_b"]) (sc := (defScope s__law_sums)) (by decide +kernel)) (fun _ _ _ _ _ => pg_name (i := 4) sc__law_sums.nd rfl (Or.inl rfl)) (fun _ _ _ _ _ => pts_nil) (fun _ _ _ _ _ => (pe_callB (id := "sum") (r := rSum K) (cr_sum rfl) (by rfl) T.n_sum (by decide +kernel) (pa_cons (pe_lc (own := [("_law_a", 5), ("_law_b", 6)]) (wi := iZip K _) (g := gTup K 2 (gCons (gName 5) (gCons (gName 6) gNil))) (tt := tYes) rfl sc__law_sums.nd (pi_zip (by rfl) T.n_zip (pa_cons (pv 4) (pa_cons (pv 3) pa_nil))) (blkOk_by (N := ["_law_rows", "_law_xs", "_law_bottom", "_law_tops", "_law_row", "_law_a", "_law_b"]) (sc := (relS ({ kind := .function, names := [(".0", .local), ("_law_row", .local), ("sum", .globalImplicit), ("zip", .globalImplicit), ("_law_tops", .free)], isGenerator := false, isCoroutine := false } : Scope) (defScope s__law_sums))) (by decide +kernel)) (fun _ _ _ _ _ => (pg_tup rfl (pgs_cons (pg_name (i := 5) sc__law_sums.nd rfl (Or.inl rfl)) (pgs_cons (pg_name (i := 6) sc__law_sums.nd rfl (Or.inl rfl)) pgs_nil)))) (fun _ _ _ _ _ => pts_nil) (fun _ _ _ _ _ => (pe_op op_mulW (pv 5) (pv 6)))) pa_nil)))) pa_nil)))))), ?_⟩
    obtain ⟨p, b, as, bs, rows, qs, rfl, hT, m8, hr, hF, h8, bq, k⟩ := h
    refine ⟨_, rfl, b, bs, qs, rfl, hF, h8, bq, fun t pt H1 nt e1 ht hpt => ⟨t, _, rfl, SqT.of ht, rfl, _, _, rfl, _, _, rfl, rfl, ?_⟩⟩
    have tl : (Fq.tops qs).length = qs.length := by unfold Fq.tops; rw [List.length_map]
    have tb := tops_bd bq h8
    have hT1 := hT.ex e1
    refine s_retUL (σ := [some (.ref p), some (.ref b), some (.int (Fq.comB qs)), some (.ref pt), none, none, none]) (ev_var (i := 2) rfl) (el_col (K := K) (n := 0) (vs := [4]) (f := fun r => Ls.dot r (Fq.tops qs)) rfl hT1.1 hT1.2 (by omega) (fun u => rfl) fun c r H2 hr' hc e2 => ?_) fun u pu H2 nu e2 hu hpu => k u pu H2 (fresh_back e1 nu) (e1.trans e2) hu hpu
    refine ev_sumL (el_zip (K := K) (vs := [5, 6]) (f := (· * ·)) (ea_cons (ev_var (i := 4) rfl) (ea_cons (ev_var (i := 3) rfl) ea_nil)) (SqL.of (e2 _ _ hc)) (SqL.of (e2 _ _ hpt)) (by rw [tl]; exact (hr r hr').1) (by have := (hr r hr').1; omega) (fun u v => rfl) fun x y H3 hx hy e3 => ?_)
    exact ev_op (ev_var (i := 5) rfl) (ev_var (i := 6) rfl) (rv_I (((hr r hr').2 x hx).mulOk (tb y hy)))
-- DEF _law_signed_xs

def sp__law_signed_xs (K : PySem.W.Frag) : Sp := fun vs H Q _ => ∃ (s : Addr) (n : Int) (m : Nat), vs = [.ref s, .int m] ∧ SrcAt H s n ∧ n ≤ 400000000 ∧ m ≤ 8 ∧
  ∀ p bs qs H', H p = none → ExB s H H' → SrcAt H' s (n + 40) → FrL H' p bs qs → qs.length = m → (∀ q ∈ qs, BdQ 110 20 q) → Q (.ref p) H'

theorem ok__law_signed_xs (T : Txt K mg) : FnOk P w K mg base CX0 3 T.f__law_signed_xs T.fd__law_signed_xs ["_law_source", "_law_many"] (sp__law_signed_xs K) := by
  refine Fun.ok T.F__law_signed_xs sc__law_signed_xs (fun vs H Q E h => ?_) (fun cdv A outer s H vs Q E hr h => ?_)
  · obtain ⟨_, _, _, rfl, _⟩ := h; rfl
  · refine ⟨_, (pss_cons (ps_set (i := 2) sc__law_signed_xs.nd rfl (by first | exact Or.inl rfl | exact Or.inr rfl) (pe_lst pa_nil))
      (pss_cons (ps_for PassesOwn.never rfl (pi_range1 (by rfl) T.n_range (pa_cons (pv 1) pa_nil)) (pg_name (i := 3) sc__law_signed_xs.nd rfl (by first | exact Or.inl rfl | exact Or.inr rfl))
        (pss_cut (ps_set (i := 4) sc__law_signed_xs.nd rfl (by first | exact Or.inl rfl | exact Or.inr rfl) (pe_call (ok__law_one T) hr (by rfl) T.g__law_one T.k__law_one T.b__law_one .nil pass0 (pa_cons (pv 0) (pa_cons (pe_lst (pa_cons pe_int (pa_cons pe_int (pa_cons pe_int (pa_cons pe_int (pa_cons pe_int (pa_cons (pe_op op_add pe_int (pe_call (ok__law_next T) (hr.mono (by decide)) (by rfl) T.g__law_next T.k__law_next T.b__law_next .nil pass0 (pa_cons (pv 0) (pa_cons pe_int pa_nil)))) pa_nil))))))) pa_nil))))
          (pss_cut (ps_set (i := 5) sc__law_signed_xs.nd rfl (by first | exact Or.inl rfl | exact Or.inr rfl) (pe_call (ok__law_one T) hr (by rfl) T.g__law_one T.k__law_one T.b__law_one .nil pass0 (pa_cons (pv 0) (pa_cons (pe_lst (pa_cons pe_int (pa_cons pe_int (pa_cons pe_int (pa_cons (pe_op op_pow pe_int pe_int) pa_nil))))) pa_nil))))
          (pss_one (ps_expr (pe_bm PySem.F.plainAttrs_list PySem.F.slot_list_append PySem.F.type_list_append mt_append (pv 2) (pa_cons (pe_call (ok__law_lowest T) hr (by rfl) T.g__law_lowest T.k__law_lowest T.b__law_lowest .nil pass0 (pa_cons (pe_op op_sub (pe_call (ok__law_next T) (hr.mono (by decide)) (by rfl) T.g__law_next T.k__law_next T.b__law_next .nil pass0 (pa_cons (pv 0) (pa_cons (pe_op op_add (pe_op op_mulW pe_int (pv 5)) pe_int) pa_nil))) (pv 5)) (pa_cons (pv 4) pa_nil))) pa_nil)))))))
      (pss_one (ps_ret (pv 2))))), ?_⟩
    obtain ⟨s, n, m, rfl, hs, hn, hm8, k⟩ := h
    refine ⟨Nat.zero_le _, fun p np => ?_⟩
    have x0 : Ex H (upd H p (.lst [])) := Ex.new np
    have nps := hs.ne np
    refine ⟨_, rfl, _, rfl, by omega, by omega, for_range (lo := 0) (n := (m : Int).toNat) (fun i σ H' => ∃ (y3 y4 y5 : Option V) (bs : List Addr) (qs : List Rat), σ = [some (.ref s), some (.int m), some (.ref p), y3, y4, y5] ∧ qs.length = i ∧ FrL H' p bs qs ∧ ExB s H H' ∧ SrcAt H' s (n + 4 * i) ∧ (∀ q ∈ qs, BdQ 110 20 q)) ⟨_, _, _, [], [], rfl, rfl, ⟨upd_same, .nil⟩, ExB.of x0, (hs.ex x0).le (by omega), fun q hq => by simp at hq⟩ ?_ ?_⟩
    rotate_left
    · rintro σ H2 ⟨y3, y4, y5, bs, qs, rfl, hl, hF, e2, s2, hb⟩
      exact ⟨_, rfl, k p bs qs H2 np e2 (s2.le (by omega)) hF (by omega) hb⟩
    rintro i σ H2 hi ⟨y3, y4, y5, bs, qs, rfl, hl, hF, e2, s2, hb⟩
    -- bottom
    refine ⟨fun σ' H' => ∃ g : Int, σ' = [some (.ref s), some (.int m), some (.ref p), some (.int (0 + (i : Int))), some (.int g), y5] ∧ 1 ≤ g ∧ g ≤ 30 ∧ ExB s H2 H' ∧ SrcAt H' s (n + 4 * i + 2), ?_, ?_⟩
    · refine ⟨_, rfl, _, rfl, s, 30, _, rfl, s2, by omega, by decide, by unfold Bd; decide, fun f H3 f0 f1 e3 s3 => ⟨_, _, rfl, rfl, (by show 6 ≤ sizeLine; decide), fun L nL => ?_⟩⟩
      have xL := Ex.new (o := .lst [V.int 1, .int 2, .int 2, .int 3, .int 4, .int (1 + f)]) nL
      refine ⟨s, L, _, _, rfl, s3.ex xL, by omega, s3.ne nL, SqL.of upd_same, by show 0 < 6; decide, by show 6 ≤ 1000; decide, fun v hv H' e' s' => ?_⟩
      have hg : ∃ g : Int, v = .int g ∧ 1 ≤ g ∧ g ≤ 30 := by
        simp only [List.mem_cons, List.not_mem_nil, or_false] at hv
        rcases hv with rfl | rfl | rfl | rfl | rfl | rfl
        · exact ⟨1, rfl, by decide, by decide⟩
        · exact ⟨2, rfl, by decide, by decide⟩
        · exact ⟨2, rfl, by decide, by decide⟩
        · exact ⟨3, rfl, by decide, by decide⟩
        · exact ⟨4, rfl, by decide, by decide⟩
        · exact ⟨1 + f, rfl, by omega, by omega⟩
      obtain ⟨g, rfl, g1, g2⟩ := hg
      exact ⟨g, rfl, g1, g2, e3.trans ((ExB.of xL).trans e'), s'.le (by omega)⟩
    rintro σ' H3 ⟨g, rfl, g1, g2, e3, s3⟩
    refine ⟨fun σ' H' => ∃ z : Int, σ' = [some (.ref s), some (.int m), some (.ref p), some (.int (0 + (i : Int))), some (.int g), some (.int z)] ∧ 1 ≤ z ∧ z ≤ 10 ^ 25 ∧ ExB s H3 H' ∧ SrcAt H' s (n + 4 * i + 3), ?_, ?_⟩
    · refine ⟨_, rfl, _, _, rfl, rfl, ⟨by decide, by decide, by decide⟩, (by show 4 ≤ sizeLine; decide), fun L nL => ?_⟩
      have xL := Ex.new (o := .lst [V.int 4, .int 20, .int 20, .int (10 ^ (25 : Int).toNat)]) nL
      refine ⟨s, L, _, _, rfl, s3.ex xL, by omega, s3.ne nL, SqL.of upd_same, by show 0 < 4; decide, by show 4 ≤ 1000; decide, fun v hv H' e' s' => ?_⟩
      have hg : ∃ g : Int, v = .int g ∧ 1 ≤ g ∧ g ≤ 10 ^ 25 := by
        simp only [List.mem_cons, List.not_mem_nil, or_false] at hv
        rcases hv with rfl | rfl | rfl | rfl
        · exact ⟨4, rfl, by decide, by decide⟩
        · exact ⟨20, rfl, by decide, by decide⟩
        · exact ⟨20, rfl, by decide, by decide⟩
        · exact ⟨10 ^ 25, rfl, by decide, by decide⟩
      obtain ⟨g', rfl, g1, g2⟩ := hg
      exact ⟨g', rfl, g1, g2, (ExB.of xL).trans e', s'.le (by omega)⟩
    rintro σ' H4 ⟨z, rfl, z1, z2, e4, s4⟩
    have e34 := e3.trans e4
    have h3 := e34 _ _ nps hF.1
    have bg : ∀ x : Int, x.natAbs ≤ 3 * 10000000000000000000000000 → Bd 110 x := fun x h => by
      unfold Bd
      exact Nat.lt_of_le_of_lt h (by decide +kernel)
    have e25 : (10 : Int) ^ 25 = 10000000000000000000000000 := by decide
    rw [e25] at z2
    refine ⟨_, rfl, .inl ⟨rfl, _, SqL.of h3⟩, ?_⟩
    refine ⟨_, rfl, _, rfl, _, _, rfl, rfl, (bg 2 (by decide)).mulOk (bg z (by omega)), _, _, rfl, rfl, ?_⟩
    refine ⟨s, _, _, rfl, s4, by omega, by omega, (bg (2 * z + 1) (by omega)).mono (by decide), fun f H5 f0 f1 e5 s5 => ?_⟩
    refine ⟨_, rfl, _, _, rfl, rfl, _, rfl, ?_⟩
    refine ⟨_, _, rfl, by omega, (bg g (by omega)).mono (by decide), fun t H6 nt e6 ht => ?_⟩
    have e36 := e34.trans (e5.trans (ExB.of e6))
    have h6 := e36 _ _ nps hF.1
    refine ⟨p, _, _, rfl, rfl, h6, small1000 (by rw [List.length_map, Paired.length hF.2]; omega), _, _, _, bs ++ [t], qs ++ [mkRat (f - z) g.toNat], rfl, by rw [List.length_append, hl]; rfl, ⟨by rw [upd_same, List.map_append]; rfl, ?_⟩, ?_, ?_, ?_⟩
    · refine paired_imp (fun c d h => tups_U h6 _ _ h) (paired_snoc (paired_imp (fun c d h => ?_) hF.2) ht)
      exact tups_E e6 _ _ (tups_B s4 e5 _ _ (tups_B s3 e4 _ _ (tups_B s2 e3 _ _ h)))
    · refine fun c o nc h => ?_
      rw [upd_ne (ne_of_none h np)]
      exact e36 _ _ nc (e2 _ _ nc h)
    · obtain ⟨a1, a2, a3, a4, a5, a6, a7, a8⟩ := s5.ex e6
      exact ⟨a1, a2, a3, by rw [upd_ne nps.symm]; exact a4, a5, a6, a7, by omega⟩
    · intro q hq
      rcases List.mem_append.mp hq with h | h
      · exact hb q h
      · rw [List.mem_singleton.mp h]
        refine mk_bd (by omega) (bg _ (by omega)) ?_
        rw [Int.toNat_of_nonneg (by omega)]
        unfold Bd
        exact Nat.lt_of_lt_of_le (show g.natAbs < 32 by omega) (by decide)
-- DEF _law_rounds

theorem el_zipB {K : PySem.W.Frag} {ta : TA} {te : TE} {vs : List Nat} {j1 j2 : Nat} {σ : L2.St} {H : Hp} {a b : Addr} {xs ys : List Int} (f : Int → Int → Bool) (h : EvA ta σ H [.ref a, .ref b]) (hx : SqL K H a (xs.map V.int)) (hy : SqL K H b (ys.map V.int)) (hl : xs.length = ys.length) (hz : xs.length ≤ 1000)
    (hw : ∀ u v, wipe (((wipe σ vs).set j1 (some u)).set j2 (some v)) vs = wipe σ vs)
    (he : ∀ x y H1, x ∈ xs → y ∈ ys → Ex H H1 → Ev te (((wipe σ vs).set j1 (some (.int x))).set j2 (some (.int y))) H1 (.bl (f x y))) : EvL (tLc (iZip K ta) (g2 K j1 j2) tYes te vs) σ H ((List.zipWith f xs ys).map V.bl) := fun H0 e Q q => h H0 e _ fun H1 e1 => by
  have hx1 := ex_l (e.trans e1) hx
  have hy1 := ex_l (e.trans e1) hy
  refine ⟨a, b, _, _, rfl, hx1, hy1, fun D hD => ?_⟩
  refine lc_zip (xs := xs.map V.int) (ys := ys.map V.int) (by rw [List.length_map, List.length_map]; exact hl) (fun i H' => Ex H1 H' ∧ H' D = some (.lst (((List.zipWith f xs ys).take i).map V.bl))) ⟨Ex.new hD, upd_same⟩ (fun i H' p => ⟨ex_l p.1 hx1, ex_l p.1 hy1⟩) (fun i x y T H' gx gy p nT => ?_) (fun H' p => ?_)
  · obtain ⟨p1, p2⟩ := p
    rw [List.getElem?_map] at gx gy
    obtain ⟨x', hx', rfl⟩ := Option.map_eq_some_iff.mp gx
    obtain ⟨y', hy', rfl⟩ := Option.map_eq_some_iff.mp gy
    refine ⟨T, _, rfl, SqT.of upd_same, rfl, _, _, rfl, _, _, rfl, rfl, hw _ _, ?_⟩
    show te _ _ _
    have xT : Ex H' (upd H' T (.tup [.int x', .int y'])) := Ex.new nT
    refine he x' y' H (List.mem_of_getElem? hx') (List.mem_of_getElem? hy') (Ex.refl H) _ ((e.trans e1).trans (p1.trans xT)) _ fun H4 e4 => ?_
    refine ⟨_, e4 _ _ (xT _ _ p2), ?_, Ex.mut ((p1.trans xT).trans e4) hD, ?_⟩
    · rw [List.length_map, List.length_take]
      have := (List.getElem?_eq_some_iff.mp hx').1
      exact small1000 (by omega)
    · have hzz : (List.zipWith f xs ys)[i]? = some (f x' y') := by
        rw [List.getElem?_zipWith, hx', hy']
      rw [upd_same, take_snoc hzz, List.map_append]
      rfl
  · obtain ⟨p1, p2⟩ := p
    rw [List.take_of_length_le (by rw [List.length_zipWith, List.length_map]; omega)] at p2
    exact q D H' (fresh_back e1 hD) (e1.trans p1) p2

/-- all([.. for x, q in zip(xs, fractions)]) where each is true -/
theorem el_zipYes {K : PySem.W.Frag} {ta : TA} {te : TE} {vs : List Nat} {j1 j2 : Nat} {σ : L2.St} {H : Hp} {a b : Addr} {bs : List Addr} {xs : List Int} {qs : List Rat} (h : EvA ta σ H [.ref a, .ref b]) (hx : H a = some (.lst (xs.map V.int))) (ht : FrL H b bs qs) (hl : xs.length = qs.length) (hz : xs.length ≤ 1000)
    (hw : ∀ u v, wipe (((wipe σ vs).set j1 (some u)).set j2 (some v)) vs = wipe σ vs)
    (he : ∀ (i : Nat) x c q H1, xs[i]? = some x → qs[i]? = some q → H1 c = some (.tup (frV q)) → Ex H H1 → Ev te (((wipe σ vs).set j1 (some (.int x))).set j2 (some (.ref c))) H1 (.bl true)) : EvL (tLc (iZip K ta) (g2 K j1 j2) tYes te vs) σ H ((List.replicate xs.length true).map V.bl) := fun H0 e Q q => h H0 e _ fun H1 e1 => by
  have e01 := e.trans e1
  have hx1 := e01 _ _ hx
  have ht1 := ht.ex e01
  have el : bs.length = qs.length := Paired.length ht.2
  refine ⟨a, b, _, _, rfl, SqL.of hx1, SqL.of ht1.1, fun D hD => ?_⟩
  refine lc_zip (xs := xs.map V.int) (ys := bs.map V.ref) (by rw [List.length_map, List.length_map, el]; exact hl) (fun i H' => Ex H1 H' ∧ H' D = some (.lst ((List.replicate i true).map V.bl))) ⟨Ex.new hD, upd_same⟩ (fun i H' p => ⟨SqL.of (p.1 _ _ hx1), SqL.of (p.1 _ _ ht1.1)⟩) (fun i x y T H' gx gy p nT => ?_) (fun H' p => ?_)
  · obtain ⟨p1, p2⟩ := p
    rw [List.getElem?_map] at gx gy
    obtain ⟨x', hx', rfl⟩ := Option.map_eq_some_iff.mp gx
    obtain ⟨c', hc', rfl⟩ := Option.map_eq_some_iff.mp gy
    obtain ⟨y', hy', hh⟩ := paired_get ht1.2 hc'
    have xT : Ex H' (upd H' T (.tup [.int x', .ref c'])) := Ex.new nT
    refine ⟨T, _, rfl, SqT.of upd_same, rfl, _, _, rfl, _, _, rfl, rfl, hw _ _, ?_⟩
    show te _ _ _
    refine he i x' c' y' _ hx' hy' ((p1.trans xT) _ _ hh) (e01.trans (p1.trans xT)) _ (Ex.refl _) _ fun H4 e4 => ?_
    refine ⟨_, e4 _ _ (xT _ _ p2), ?_, Ex.mut ((p1.trans xT).trans e4) hD, ?_⟩
    · rw [List.length_map, List.length_replicate]
      have := (List.getElem?_eq_some_iff.mp hx').1
      exact small1000 (by omega)
    · rw [upd_same, List.replicate_succ', List.map_append]
      rfl
  · obtain ⟨p1, p2⟩ := p
    rw [List.length_map] at p2
    exact q D H' (fresh_back e1 hD) (e1.trans p1) p2
theorem in_two {z x y : Int} (h : z = x ∨ z = y) : inV (.int z) [.int x, .int y] = true := by
  show ((x == z) || ((y == z) || false)) = true
  rcases h with rfl | rfl <;> simp
theorem pair_at {qs : List Rat} {zs : List Int} (h : Paired (fun (y : Int) (c : List Int) => y ∈ c) zs (qs.map Fq.ch)) {i : Nat} {x : Int} {q : Rat} (hx : zs[i]? = some x) (hq : qs[i]? = some q) : x ∈ Fq.ch q := by
  obtain ⟨c, hc, hm⟩ := paired_get h hx
  rw [List.getElem?_map, hq] at hc
  cases hc
  exact hm
def sp__law_rounds (K : PySem.W.Frag) : Sp := fun vs H Q _ => ∃ (p b a : Addr) (as bs : List Addr) (rows : List (List Int)) (m w : Nat) (qs : List Rat) (zs : List Int), vs = [.ref p, .ref b, .ref a] ∧ TabOk H p as rows m w ∧ (∀ r ∈ rows, ∀ y ∈ r, Bd 110 y) ∧ FrL H b bs qs ∧ qs.length = w ∧ (∀ q ∈ qs, BdQ 110 20 q) ∧ H a = some (.lst (zs.map V.int)) ∧ Paired (fun (y : Int) (c : List Int) => y ∈ c) zs (qs.map Fq.ch) ∧ ∀ H', Ex H H' → Q (.bl (Fq.betw rows qs zs)) H'

theorem ok__law_rounds (T : Txt K mg) : FnOk P w K mg base CX0 4 T.f__law_rounds T.fd__law_rounds ["_law_table_here", "_law_xs", "_law_zs"] (sp__law_rounds K) := by
  refine Fun.ok T.F__law_rounds sc__law_rounds (fun vs H Q E h => ?_) (fun cdv A outer s H vs Q E hr h => ?_)
  · obtain ⟨_, _, _, _, _, _, _, _, _, _, rfl, _⟩ := h; rfl
  · refine ⟨_, (pss_cons (ps_if (PW.pt (pw_or (pt_not (pt_val (pe_callB (id := "isinstance") (r := rIsi K) call_isi (by rfl) T.n_isinstance (by decide +kernel) (pa_cons (pv 2) (pa_cons (pe_bltn (v := .ty "list") (by rfl) T.n_list (by decide +kernel) rfl) pa_nil))))) (pw_or (pt_cmpR op_ne (pe_callB (id := "len") (r := rLenS K) call_len_seq (by rfl) T.n_len PySem.boot_len (pa_cons (pv 2) pa_nil)) (pe_callB (id := "len") (r := rLenS K) call_len_seq (by rfl) T.n_len PySem.boot_len (pa_cons (pv 1) pa_nil)) (nomark _)) (pw_or1 (pt_not (pt_val (pe_callB (id := "all") (r := rAll K) (cr_all rfl) (by rfl) T.n_all (by decide +kernel) (pa_cons (pe_lc (own := [("_law_one_here", 6)]) (wi := iList K _) (g := gName 6) (tt := tYes) rfl sc__law_rounds.nd (pi_list (pv 2)) (blkOk_by (N := ["_law_table_here", "_law_xs", "_law_zs", "_law_bottom", "_law_tops", "_law_sums_here", "_law_one_here", "_law_x", "_law_top"]) (sc := (defScope s__law_rounds)) (by decide +kernel)) (fun _ _ _ _ _ => pg_name (i := 6) sc__law_rounds.nd rfl (Or.inl rfl)) (fun _ _ _ _ _ => pts_nil) (fun _ _ _ _ _ => (pe_call (ok__law_is_number T) (hr.mono (by decide)) (by rfl) T.g__law_is_number T.k__law_is_number T.b__law_is_number .nil pass0 (pa_cons (pv 6) pa_nil)))) pa_nil))))))))
        (pss_one (ps_ret pe_bl))
        pss_nil)
      (pss_cons (ps_if (pt_not (pt_val (pe_callB (id := "all") (r := rAll K) (cr_all rfl) (by rfl) T.n_all (by decide +kernel) (pa_cons (pe_lc (own := [("_law_one_here", 6), ("_law_x", 7)]) (wi := iZip K _) (g := gTup K 2 (gCons (gName 6) (gCons (gName 7) gNil))) (tt := tYes) rfl sc__law_rounds.nd (pi_zip (by rfl) T.n_zip (pa_cons (pv 2) (pa_cons (pv 1) pa_nil))) (blkOk_by (N := ["_law_table_here", "_law_xs", "_law_zs", "_law_bottom", "_law_tops", "_law_sums_here", "_law_one_here", "_law_x", "_law_top"]) (sc := (defScope s__law_rounds)) (by decide +kernel)) (fun _ _ _ _ _ => (pg_tup rfl (pgs_cons (pg_name (i := 6) sc__law_rounds.nd rfl (Or.inl rfl)) (pgs_cons (pg_name (i := 7) sc__law_rounds.nd rfl (Or.inl rfl)) pgs_nil)))) (fun _ _ _ _ _ => pts_nil) (fun _ _ _ _ _ => (pe_cmpR (r := rIn K false) op_in_seq (pv 6) (pe_tup (pa_cons (pe_call (ok__law_floor T) (hr.mono (by decide)) (by rfl) T.g__law_floor T.k__law_floor T.b__law_floor .nil pass0 (pa_cons (pv 7) pa_nil)) (pa_cons (pe_call (ok__law_ceiling T) (hr.mono (by decide)) (by rfl) T.g__law_ceiling T.k__law_ceiling T.b__law_ceiling .nil pass0 (pa_cons (pv 7) pa_nil)) pa_nil))) (by rfl)))) pa_nil))))
        (pss_one (ps_ret pe_bl))
        pss_nil)
      (pss_cons (ps_asg (pe_call (ok__law_sums T) hr (by rfl) T.g__law_sums T.k__law_sums T.b__law_sums .nil pass0 (pa_cons (pv 0) (pa_cons (pv 1) pa_nil))) (pg_tup rfl (pgs_cons (pg_name (i := 3) sc__law_rounds.nd rfl (by first | exact Or.inl rfl | exact Or.inr rfl)) (pgs_cons (pg_name (i := 4) sc__law_rounds.nd rfl (by first | exact Or.inl rfl | exact Or.inr rfl)) pgs_nil))))
      (pss_cons (ps_set (i := 5) sc__law_rounds.nd rfl (by first | exact Or.inl rfl | exact Or.inr rfl) (pe_call (ok__law_whole_sums T) (hr.mono (by decide)) (by rfl) T.g__law_whole_sums T.k__law_whole_sums T.b__law_whole_sums .nil pass0 (pa_cons (pv 0) (pa_cons (pv 2) pa_nil))))
      (pss_one (ps_ret (pe_callB (id := "all") (r := rAll K) (cr_all rfl) (by rfl) T.n_all (by decide +kernel) (pa_cons (pe_lc (own := [("_law_top", 8), ("_law_one_here", 6)]) (wi := iZip K _) (g := gTup K 2 (gCons (gName 8) (gCons (gName 6) gNil))) (tt := tYes) rfl sc__law_rounds.nd (pi_zip (by rfl) T.n_zip (pa_cons (pv 4) (pa_cons (pv 5) pa_nil))) (blkOk_by (N := ["_law_table_here", "_law_xs", "_law_zs", "_law_bottom", "_law_tops", "_law_sums_here", "_law_one_here", "_law_x", "_law_top"]) (sc := (defScope s__law_rounds)) (by decide +kernel)) (fun _ _ _ _ _ => (pg_tup rfl (pgs_cons (pg_name (i := 8) sc__law_rounds.nd rfl (Or.inl rfl)) (pgs_cons (pg_name (i := 6) sc__law_rounds.nd rfl (Or.inl rfl)) pgs_nil)))) (fun _ _ _ _ _ => pts_nil) (fun _ _ _ _ _ => (pe_chain op_le op_le (pe_op op_fdivW (pv 8) (pv 3)) (pv 6) (pe_op op_sub pe_int (pe_op op_fdivW (pe_op op_sub pe_int (pv 8)) (pv 3)))))) pa_nil)))))))), ?_⟩
    obtain ⟨p, b, a, as, bs, rows, m, w, qs, zs, rfl, hT, bn, hF, hq, bq, ha, pz, k⟩ := h
    have hd := hT.b
    have lz := Paired.length pz
    rw [List.length_map] at lz
    have el : bs.length = qs.length := Paired.length hF.2
    have bz := Fq.ch_all bq pz
    refine s_when (σ := [some (.ref p), some (.ref b), some (.ref a), none, none, none, none, none, none]) (b := false) (et_is (et_or (a := false) (b := false) (et_is (et_not (et_B (b := true) (ev_isi (t := "list") (b := true) (ev_var (i := 2) rfl) ev_c (fun H1 e => .base (.lst (e _ _ ha))) (by decide +kernel)))) rfl) (fun _ => et_is (et_or (a := false) (b := false) (et_is (et_test (ev_op (ev_len (ev_var (i := 2) rfl) (SqL.of ha)) (ev_len (ev_var (i := 1) rfl) (SqL.of hF.1)) (rv_ne rfl))) (by rw [List.length_map, List.length_map, el, lz, decide_eq_true rfl]; rfl)) (fun _ => et_is (et_not (et_B (b := true) (ev_all (el_yes (n := 2) (a := a) (vs := [6]) (j := 6) rfl ha (by rw [List.length_map]; omega) (fun x H' hx e => ?_) (fun x => rfl))))) rfl)) rfl)) rfl) (fun z => nomatch z) fun _ H1 e1 => ?_
    · obtain ⟨y, _, rfl⟩ := List.mem_map.mp hx
      exact ev_fn (ea_cons (ev_var (i := 6) rfl) ea_nil) fun H3 e3 Q3 q3 => ⟨_, rfl, q3⟩
    refine s_when (σ := [some (.ref p), some (.ref b), some (.ref a), none, none, none, none, none, none]) (b := false) (et_is (et_not (et_B (b := true) (ev_all (el_zipYes (K := K) (vs := [6, 7]) (j1 := 6) (j2 := 7) (ea_cons (ev_var (i := 2) rfl) (ea_cons (ev_var (i := 1) rfl) ea_nil)) (e1 _ _ ha) (hF.ex e1) (by omega) (by omega) (fun u v => rfl) (fun i x c q H2 hx hq hc e2 => ?_))))) rfl) (fun z => nomatch z) fun _ H2 e2 => ?_
    · have bd := (bq q (List.mem_of_getElem? hq)).2.mono (show 20 ≤ 1000 by decide)
      refine ev_is (ev_inU (ev_var (i := 6) rfl) (eu_tup (ea_cons (ev_fn (sp := sp__law_floor K) (ea_cons (ev_var (i := 7) rfl) ea_nil) fun H3 e3 Q3 q3 => ⟨c, q, rfl, e3 _ _ hc, bd, q3 H3 (Ex.refl _)⟩) (ea_cons (ev_fn (sp := sp__law_ceiling K) (ea_cons (ev_var (i := 7) rfl) ea_nil) fun H3 e3 Q3 q3 => ⟨c, q, rfl, e3 _ _ hc, bd, q3 H3 (Ex.refl _)⟩) ea_nil)) (Nat.le_of_ble_eq_true rfl)) rfl rfl) ?_
      rw [in_two (Fq.ch_mem (pair_at pz hx hq))]
    have e12 := e1.trans e2
    have T2 := hT.ex e12
    -- sums
    refine ⟨_, rfl, _, rfl, p, b, as, bs, rows, qs, rfl, T2.tab, by rw [hT.m_]; omega, fun r hr => ⟨by rw [hT.w_ r hr]; omega, bn r hr⟩, hF.ex e12, by omega, bq, fun t pt H3 nt e3 ht hpt => ⟨t, _, rfl, SqT.of ht, rfl, _, _, rfl, _, _, rfl, rfl, ?_⟩⟩
    have e13 := e12.trans e3
    refine ⟨_, rfl, _, rfl, p, a, as, rows, zs, rfl, (T2.ex e3).tab, by rw [hT.m_]; omega, fun r hr => ⟨by rw [hT.w_ r hr]; omega, bn r hr⟩, by omega, e13 _ _ ha, bz, fun d H4 nd e4 hd' => ?_⟩
    have c0 := Fq.com_all qs
    have cb : Bd 170 (Fq.comB qs) := (Fq.com_bd (k := 20) qs 1 1 (by decide) (by unfold Bd; decide) fun q h => (bq q h).2).mono (by omega)
    refine s_ret (σ := [some (.ref p), some (.ref b), some (.ref a), some (.int (Fq.comB qs)), some (.ref pt), some (.ref d), none, none, none]) (ev_is (ev_allL (el_zipB (K := K) (vs := [8, 6]) (j1 := 8) (j2 := 6) (fun t s => decide (t / Fq.comB qs ≤ s) && decide (s ≤ 0 - (0 - t) / Fq.comB qs)) (ea_cons (ev_var (i := 4) rfl) (ea_cons (ev_var (i := 5) rfl) ea_nil)) (SqL.of (e4 _ _ hpt)) (SqL.of hd') (by unfold Ls.totals; rw [List.length_map, List.length_map]) (by unfold Ls.totals; rw [List.length_map, hT.m_]; omega) (fun u v => rfl) (fun x y H5 hx hy e5 => ?_))) (by rw [Fq.law_betw])) fun H5 e5 => k H5 ((e13.trans e4).trans e5)
    exact ev_chain (ev_op (ev_var (i := 8) rfl) (ev_var (i := 3) rfl) (rv_I (g := fun i j => .int (i / j)) (Bd.divOk c0.1 cb))) (ev_var (i := 6) rfl) (ev_op ev_c (ev_op (ev_op ev_c (ev_var (i := 8) rfl) rv_I0) (ev_var (i := 3) rfl) (rv_I (g := fun i j => .int (i / j)) (Bd.divOk c0.1 cb))) rv_I0) rv_I0 rv_I0
-- DEF law
theorem tf_le {M : Nat} : ∀ (ts : List Str) (k : Nat) (acc : Str), (∀ t ∈ ts, t.length ≤ M) → (PySem.textFrom k acc ts).length ≤ acc.length + ts.length * (M + 2)
  | [], _, acc, _ => by show acc.length ≤ _; omega
  | t :: ts, k, acc, h => by
    have ih := tf_le ts (k + 1) (acc ++ (if k > 0 then ", " else "" : String) ++ t) (fun u hu => h u (.tail _ hu))
    have h1 := h t (.head _)
    have e : (acc ++ (if k > 0 then ", " else "" : String) ++ t).length ≤ acc.length + 2 + t.length := by
      rw [PySem.strLen_append, PySem.strLen_append]
      by_cases c : k > 0
      · rw [if_pos c]
        have : (Str.ofString ", ").length = 2 := by decide +kernel
        omega
      · rw [if_neg c]
        have : (Str.ofString "").length = 0 := by decide +kernel
        omega
    show (PySem.textFrom (k + 1) (acc ++ (if k > 0 then ", " else "" : String) ++ t) ts).length ≤ _
    rw [List.length_cons, Nat.add_mul]
    omega
theorem lt_le {M n : Nat} {ts : List Str} (h : ∀ t ∈ ts, t.length ≤ M) (hn : ts.length ≤ n) : (PySem.listText ts).length ≤ 2 + n * (M + 2) := by
  have h1 := tf_le ts 0 "[" h
  have e : (PySem.listText ts).length = (PySem.textFrom 0 "[" ts).length + 1 := by
    show (PySem.textFrom 0 "[" ts ++ "]").length = _
    rw [PySem.strLen_append]
    rfl
  have e2 : (Str.ofString "[").length = 1 := by decide +kernel
  have := Nat.mul_le_mul_right (M + 2) hn
  omega
theorem all_shown {M : Nat} : ∀ {ds : List PyData}, (∀ d ∈ ds, d.shown.length ≤ M) → (∀ t ∈ PyData.shownAll ds, t.length ≤ M) ∧ (PyData.shownAll ds).length = ds.length
  | [], _ => ⟨fun t ht => (nomatch ht), rfl⟩
  | d :: ds, h => by
    obtain ⟨i1, i2⟩ := all_shown (ds := ds) fun x hx => h x (.tail _ hx)
    refine ⟨fun t ht => ?_, congrArg (· + 1) i2⟩
    rcases List.mem_cons.mp ht with rfl | ht
    · exact h d (.head _)
    · exact i1 t ht
theorem list_shown {M n : Nat} {ds : List PyData} (h : ∀ d ∈ ds, d.shown.length ≤ M) (hn : ds.length ≤ n) : (PyData.list ds).shown.length ≤ 2 + n * (M + 2) := by
  obtain ⟨i1, i2⟩ := all_shown h
  exact lt_le i1 (by rw [i2]; exact hn)
theorem all_showable : ∀ {ds : List PyData}, (∀ d ∈ ds, d.showable = true) → PyData.showableAll ds = true
  | [], _ => rfl
  | d :: ds, h => by
    show (d.showable && PyData.showableAll ds) = true
    rw [h d (.head _), all_showable fun x hx => h x (.tail _ hx)]
    rfl
theorem int_text {i : Int} (h : i.natAbs.log2 < 1920) : (Str.ofString (toString i)).length ≤ 1000 := by
  have h2 : i.natAbs < 10 ^ 600 := by
    by_cases z : i.natAbs = 0
    · rw [z]; decide +kernel
    · exact Nat.lt_of_lt_of_le ((Nat.log2_lt z).mp h) (by decide +kernel)
  have e := PySem.int_text_length_le10 (k := 600) (by decide) h2
  rw [PySem.ofString_length]
  omega
theorem bd_log {n : Nat} {i : Int} (h : Bd n i) (hn : n ≤ 1900) : i.natAbs.log2 < 1920 := by
  by_cases z : i.natAbs = 0
  · rw [z]
    decide
  · exact (Nat.log2_lt z).mpr (Nat.lt_of_lt_of_le h (Nat.pow_le_pow_right (by decide) (by omega)))
def tabD (rows : List (List Int)) : PyData := .list (rows.map fun r => .list (r.map .int))
theorem tabD_ok {n : Nat} {rows : List (List Int)} (hb : ∀ r ∈ rows, ∀ y ∈ r, Bd n y) (hn : n ≤ 1900) (hm : rows.length ≤ 8) (hw : ∀ r ∈ rows, r.length ≤ 8) : (tabD rows).showable = true ∧ (tabD rows).shown.length ≤ 70000 := by
  have row : ∀ d ∈ rows.map (fun r => PyData.list (r.map .int)), d.showable = true ∧ d.shown.length ≤ 8018 := fun d hd => by
    obtain ⟨r, hr, rfl⟩ := List.mem_map.mp hd
    refine ⟨all_showable fun x hx => ?_, list_shown (M := 1000) (n := 8) (fun x hx => ?_) (by rw [List.length_map]; exact hw r hr)⟩
    · obtain ⟨y, hy, rfl⟩ := List.mem_map.mp hx
      exact decide_eq_true (bd_log (hb r hr y hy) hn)
    · obtain ⟨y, hy, rfl⟩ := List.mem_map.mp hx
      exact int_text (bd_log (hb r hr y hy) hn)
  refine ⟨all_showable fun d hd => (row d hd).1, ?_⟩
  have := list_shown (M := 8018) (n := 8) (fun d hd => (row d hd).2) (by rw [List.length_map]; exact hm)
  exact Nat.le_trans this (by decide)
theorem tab_dp {K : PySem.W.Frag} {H : Hp} {p : Addr} {as : List Addr} {rows : List (List Int)} (h : Tab H p as rows) : Dp K H (.ref p) (tabD rows) := .lst (SqL.of h.1) (dp_rows h.2)
theorem tabD_lay (rows : List (List Int)) : (tabD rows).canLay0 = true := canLay_rows rows
theorem tabD_depth (rows : List (List Int)) : (tabD rows).depth ≤ 2 := by
  have := depth_rows rows
  show PyData.depthAll _ + 1 ≤ 2
  omega
def Small (n : Nat) (rows : List (List Int)) : Prop := (∀ r ∈ rows, ∀ y ∈ r, Bd n y) ∧ rows.length ≤ 8 ∧ ∀ r ∈ rows, r.length ≤ 8
theorem ev_wide {K : PySem.W.Frag} {tt : TE} {σ : L2.St} {H : Hp} {p : Addr} {as : List Addr} {rows : List (List Int)} {m w : Nat} (ht : Ev tt σ H (.ref p)) (hT : TabOk H p as rows m w) : Ev (tCB (rLenS K) (tCons (tOp (rIxL K) tt (tC (.int 0))) tNil)) σ H (.int (w : Int)) := by
  obtain ⟨a0, r0, _, _, hh0, hl0, at0⟩ := hT.row0
  exact ev_is (ev_len (ev_op ht ev_c (rv_ixL (SqL.of hT.tab.1) at0)) (SqL.of hh0)) (by rw [List.length_map, hl0])
structure Dim (rows : List (List Int)) (m w : Nat) : Prop where
  m_ : rows.length = m
  w_ : ∀ r ∈ rows, r.length = w
  b : 1 ≤ m ∧ m ≤ 8 ∧ 1 ≤ w ∧ w ≤ 8
theorem Dim.ok {H : Hp} {p : Addr} {as : List Addr} {rows : List (List Int)} {m w : Nat} (d : Dim rows m w) (t : Tab H p as rows) : TabOk H p as rows m w := ⟨t, d.m_, d.w_, d.b⟩
theorem tup_shown (a b : PyData) : (PyData.tuple [a, b]).shown.length ≤ a.shown.length + b.shown.length + 7 := by
  have h := PySem.tupleText_len_le [a.shown, b.shown]
  have e : (([a.shown, b.shown] : List Str).map (·.length)).sum = a.shown.length + b.shown.length := by simp
  rw [e] at h
  exact Nat.le_trans h (by show _ + 2 * 2 + 3 ≤ _; omega)
theorem most_at {i : Nat} (h : i < 5) : ∃ mo : Nat, atI [V.int 8, .int 6, .int 6, .int 5, .int 7] (i : Int) = some (.int (mo : Int)) ∧ 1 ≤ mo ∧ mo ≤ 8 := by
  have hi : i = 0 ∨ i = 1 ∨ i = 2 ∨ i = 3 ∨ i = 4 := by omega
  rcases hi with rfl | rfl | rfl | rfl | rfl
  · exact ⟨8, rfl, by decide, by decide⟩
  · exact ⟨6, rfl, by decide, by decide⟩
  · exact ⟨6, rfl, by decide, by decide⟩
  · exact ⟨5, rfl, by decide, by decide⟩
  · exact ⟨7, rfl, by decide, by decide⟩
theorem cut_four (xs : List V) : (cutV xs (some 1) (some 5)).length ≤ 4 := by
  unfold cutV
  have e1 : HT.sIx xs.length 0 (some (1 : Int)) = min 1 xs.length := HT.sIx_nat _ _ 1
  have e2 : HT.sIx xs.length xs.length (some (5 : Int)) = min 5 xs.length := HT.sIx_nat _ _ 5
  rw [e1, e2, List.length_take]
  omega

def qD (q : Rat) : PyData := .tuple [.int q.num, .int (q.den : Int)]
theorem dp_qs {K : PySem.W.Frag} {H : Hp} {bs : List Addr} {qs : List Rat} (h : FrsAt H bs qs) : DpAll K H (bs.map V.ref) (qs.map qD) := by
  induction h with
  | nil => exact .nil
  | cons r t ih => exact .cons (.tup (SqT.of r) (.cons (.int _) (.cons (.int _) .nil))) ih
theorem lay_qs : ∀ qs : List Rat, PyData.canLayAll0 (qs.map qD) = true
  | [] => rfl
  | q :: qs => by
    show ((qD q).canLay0 && PyData.canLayAll0 (qs.map qD)) = true
    rw [lay_qs qs]
    rfl
theorem depth_qs : ∀ qs : List Rat, PyData.depthAll (qs.map qD) ≤ 1
  | [] => Nat.zero_le _
  | q :: qs => by
    have := depth_qs qs
    have h : (qD q).depth = 1 := rfl
    show max (qD q).depth (PyData.depthAll (qs.map qD)) ≤ 1
    omega
theorem qs_ok {qs : List Rat} (hb : ∀ q ∈ qs, BdQ 110 20 q) (h8 : qs.length ≤ 8) : (PyData.list (qs.map qD)).showable = true ∧ (PyData.list (qs.map qD)).shown.length ≤ 70000 := by
  have one : ∀ q ∈ qs, (qD q).showable = true ∧ (qD q).shown.length ≤ 2007 := fun q hq => by
    obtain ⟨b1, b2⟩ := hb q hq
    refine ⟨all_showable fun d hd => ?_, ?_⟩
    · rcases List.mem_cons.mp hd with rfl | hd
      · exact decide_eq_true (bd_log b1 (by decide))
      · rw [List.mem_singleton.mp hd]
        exact decide_eq_true (bd_log b2 (by decide))
    · have t1 : (PyData.int q.num).shown.length ≤ 1000 := int_text (bd_log b1 (by decide))
      have t2 : (PyData.int (q.den : Int)).shown.length ≤ 1000 := int_text (bd_log b2 (by decide))
      exact Nat.le_trans (tup_shown _ _) (by omega)
  refine ⟨all_showable fun d hd => ?_, Nat.le_trans (list_shown (M := 2007) (n := 8) (fun d hd => ?_) (by rw [List.length_map]; exact h8)) (by decide)⟩
  · obtain ⟨y, hy, rfl⟩ := List.mem_map.mp hd
    exact (one y hy).1
  · obtain ⟨y, hy, rfl⟩ := List.mem_map.mp hd
    exact (one y hy).2
theorem ev_reprF {K : PySem.W.Frag} {ta tb : TE} {σ : L2.St} {H : Hp} {p q : Addr} {as bs : List Addr} {A : List (List Int)} {qs : List Rat} (ha : Ev ta σ H (.ref p)) (hb : Ev tb σ H (.ref q)) (hA : Tab H p as A) (hq : FrL H q bs qs) (sA : Small 110 A) (bx : ∀ q ∈ qs, BdQ 110 20 q) (l8 : qs.length ≤ 8) :
    Ev (tCB (Own2.rShown2 K) (tCons (tTup (tCons ta (tCons tb tNil))) tNil)) σ H (.str (PyData.tuple [tabD A, .list (qs.map qD)]).shown) := fun H1 e Q k =>
  ha H1 e _ fun H2 e2 => hb H2 (e.trans e2) _ fun H3 e3 => ⟨(by show 2 ≤ sizeLine; decide), fun L nL => by
    have xL := Ex.new (o := .tup [V.ref p, .ref q]) nL
    have e03 := ((e.trans e2).trans e3).trans xL
    have a1 := tabD_ok sA.1 (by decide) sA.2.1 sA.2.2
    have b1 := qs_ok bx l8
    have hq' := hq.ex e03
    refine .inl ⟨L, _, rfl, .tup (SqT.of upd_same) (.cons (tab_dp (hA.ex e03)) (.cons (.lst (SqL.of hq'.1) (dp_qs hq'.2)) .nil)), all_showable (fun d hd => ?_), PyData.hasDict_of_canLay _ ?_, ?_, ?_, k _ ((e2.trans e3).trans xL)⟩
    · rcases List.mem_cons.mp hd with rfl | hd
      · exact a1.1
      · rw [List.mem_singleton.mp hd]
        exact b1.1
    · show ((tabD A).canLay0 && (PyData.canLayAll0 (qs.map qD) && true)) = true
      rw [tabD_lay, lay_qs]
      rfl
    · have d1 := tabD_depth A
      have d2 := depth_qs qs
      show max (tabD A).depth (max (PyData.depthAll (qs.map qD) + 1) 0) + 1 ≤ 50
      omega
    · exact Nat.le_trans (tup_shown _ _) (Nat.le_trans (Nat.add_le_add_right (Nat.add_le_add a1.2 b1.2) 7) (by decide))⟩
theorem choices_ch : ∀ qs : List Rat, choicesOf (qs.map Fq.fl) (qs.map Fq.ce) = qs.map Fq.ch
  | [] => rfl
  | q :: qs => by
    have := choices_ch qs
    unfold choicesOf at this ⊢
    rw [List.map_cons, List.map_cons, List.zipWith_cons_cons, this, List.map_cons]
    rfl
/-- [r for r in rows if p(r)]: the rows themselves -/
theorem lc_keep {K : PySem.W.Frag} {nn j : Nat} {tt : TT} {vs : List Nat} {σ : L2.St} {H : Hp} {Q : VK} {a : Addr} {as0 : List Addr} {rows : List (List Int)} (p : List Int → Bool) (hσ : σ[nn]? = some (some (.ref a))) (ht : Tab H a as0 rows) (hm : rows.length ≤ 1000) (hw : ∀ u, wipe ((wipe σ vs).set j (some u)) vs = wipe σ vs) (hj : ∀ u, ((wipe σ vs).set j (some u))[j]? = some (some u))
    (hc : ∀ c r H1, r ∈ rows → H1 c = some (.lst (r.map V.int)) → Ex H H1 → EvT tt ((wipe σ vs).set j (some (.ref c))) H1 (p r))
    (k : ∀ D as H2, H D = none → Ex H H2 → Tab H2 D as (rows.filter p) → Q (.ref D) H2) : tLc (iList K (tVar nn)) (gName j) tt (tVar j) vs σ H Q := by
  refine ⟨_, hσ, a, rfl, ⟨_, SqL.of ht.1⟩, fun D hD => ?_⟩
  refine lc_list (K := K) (a := a) (xs := as0.map V.ref) (fun i H' => ∃ as, Ex H H' ∧ H' D = some (.lst (as.map V.ref)) ∧ RowsAt H as ((rows.take i).filter p) ∧ as.length ≤ i) ⟨[], Ex.new hD, upd_same, .nil, Nat.le_refl _⟩ (fun i H' _ ⟨_, p1, _⟩ => SqL.of (p1 _ _ ht.1)) (fun i x H' gx pp => ?_) (fun H' pp => ?_)
  · obtain ⟨as, p1, p2, p3, p4⟩ := pp
    rw [List.getElem?_map] at gx
    obtain ⟨c0, hc0, rfl⟩ := Option.map_eq_some_iff.mp gx
    obtain ⟨y, hy, hh⟩ := paired_get ht.2 hc0
    have hi := (List.getElem?_eq_some_iff.mp hy).1
    refine ⟨hw _, ?_⟩
    refine hc c0 y H' (List.mem_of_getElem? hy) (p1 _ _ hh) p1 H' (Ex.refl _) _ fun H3 e3 => ?_
    by_cases hp : p y = true
    · rw [if_pos hp]
      refine ⟨_, hj _, _, e3 _ _ p2, ?_, as ++ [c0], Ex.mut (p1.trans e3) hD, ?_, ?_, ?_⟩
      · rw [List.length_map]
        exact small1000 (by omega)
      · rw [upd_same, List.map_append]
        rfl
      · rw [take_snoc hy, List.filter_append, List.filter_cons_of_pos hp]
        exact paired_snoc p3 hh
      · rw [List.length_append]
        show as.length + 1 ≤ i + 1
        omega
    · rw [if_neg hp]
      refine ⟨as, p1.trans e3, e3 _ _ p2, ?_, by omega⟩
      rw [take_snoc hy, List.filter_append, List.filter_cons_of_neg hp, List.filter_nil, List.append_nil]
      exact p3
  · obtain ⟨as, p1, p2, p3, p4⟩ := pp
    rw [List.length_map, Paired.length ht.2, List.take_length] at p3
    exact k D as H' hD p1 ⟨p2, p3.ex p1⟩
def optD : Option (List Int) → PyData
  | none => .none
  | some z => .list (z.map .int)
theorem RndAt.ex {H0 H H' : Hp} {v : V} {o : Option (List Int)} (h : RndAt H0 H v o) (e : Ex H H') : RndAt H0 H' v o := by
  cases o with
  | none => exact h
  | some z =>
    obtain ⟨a, rfl, h1, h2⟩ := h
    exact ⟨a, rfl, e _ _ h1, h2⟩
theorem dp_opt {K : PySem.W.Frag} {H0 H : Hp} {v : V} {o : Option (List Int)} (h : RndAt H0 H v o) : Dp K H v (optD o) := by
  cases o with
  | none =>
    have h : v = .non := h
    rw [h]
    exact .non
  | some z =>
    obtain ⟨a, rfl, h1, h2⟩ := h
    exact .lst (SqL.of h1) (dpAll_ints _)
theorem sh_opt (o : Option (List Int)) : SeqAt.shaped (optD o) = true := by
  cases o with
  | none => rfl
  | some z =>
    unfold SeqAt.shaped
    have l : (optD (some z)).canLay0 = true := canLay_ints z
    have d : (optD (some z)).depth ≤ 50 := by
      show PyData.depthAll (z.map PyData.int) + 1 ≤ 50
      rw [depth_ints]
      decide
    rw [l, decide_eq_true (Nat.le_trans d (by decide))]
    rfl
theorem rv_neO {K : PySem.W.Frag} {H0 H1 H : Hp} {v u : V} {o : Option (List Int)} (h1 : RndAt H0 H v o) (h2 : RndAt H1 H u o) : RV (rNeD K) v u H (.bl false) := fun G e Q k => by
  refine ⟨_, _, dp_opt (h1.ex e), dp_opt (h2.ex e), sh_opt o, sh_opt o, ?_⟩
  rw [SeqAt.eqv_refl _ (SeqAt.canLay_of_shaped (sh_opt o))]
  exact k G (Ex.refl _)
theorem sh_tab (A : List (List Int)) : SeqAt.shaped (tabD A) = true := by
  unfold SeqAt.shaped
  rw [tabD_lay, decide_eq_true (Nat.le_trans (tabD_depth A) (by decide))]
  rfl
theorem asg_call2 {sp : Sp} {E : XK} {ta te : TE} {g : TG} {D : Ends} {σ : L2.St} {H : Hp} (h : ta σ H fun v H1 => te σ H1 fun u H2 => sp [v, u] H2 (fun x H3 => g x σ H3 D.nx) E) : tAsg (tCall sp [] E (tCons ta (tCons te tNil))) g D σ H := h
def sp_law (K : PySem.W.Frag) : Sp := fun vs H Q _ => ∃ (a : Addr) (ns : List Int), vs = [.ref a] ∧ SqL K H a (ns.map V.int) ∧ ns.length ≤ 63 ∧ ∀ H', Q (.bl true) H'

theorem run_law (T : Txt K mg) {s : Shared} {H : Hp} {a : Addr} {Q : VK} {E : XK} (e0 : Env0 P w K mg base callerA [] s H) (h : sp_law K [.ref a] H Q E) : codeAny (model P w) callerA (.call (.ref T.f_law) ⟨[.ref a], []⟩) (CR CX0 [] P w H s Q E) s := by
  obtain ⟨oc_, od_, kV_, doc_, pm_, an_, cdv, ct_, osl_, e_, lk_, hc_⟩ := T.F_law.ex
  have hb_ := T.b_law
  rw [e_] at lk_ hb_
  have inK_ : K.In s.heap := e0.mod.kin.keeps fun b o look => (e0.bs b o look).1
  refine LamX.run_ofS (CX := CX0) (k := 6) (N := ["_law_script", "_law_k", "_law_cell", "_law_source", "_law_table_here", "_law_xs", "_law_handed", "_law_some", "_law_right", "_law_due", "_law_turn", "_law_found", "_law_x", "_law_zs"]) (ps := ["_law_script"]) (us := [.ref a]) (vs := [.ref a]) lk_ hc_ sc_law ⟨rfl, by decide, by decide⟩ e0 (hb_ s [.ref a] inK_ rfl) (.cons rfl .nil) rfl fun hr => ?_
  refine ⟨_, PSs.nox (pss_cons (ps_for PassesOwn.never rfl (pi_enum (by rfl) T.n_enumerate (pa_cons (pe_op op_cat (pe_lst (pa_cons (pe_call (ok__law_cell_at T) (hr.mono (by decide)) (by rfl) T.g__law_cell_at T.k__law_cell_at T.b__law_cell_at .nil pass0 (pa_cons (pv 0) (pa_cons pe_int pa_nil))) pa_nil)) (pe_slice (r := rSlL K) sl_list (pv 0) (po_some pe_int) (po_some pe_int))) pa_nil)) (pg_tup rfl (pgs_cons (pg_name (i := 1) sc_law.nd rfl (by first | exact Or.inl rfl | exact Or.inr rfl)) (pgs_cons (pg_name (i := 2) sc_law.nd rfl (by first | exact Or.inl rfl | exact Or.inr rfl)) pgs_nil)))
        (pss_cons (ps_set (i := 3) sc_law.nd rfl (by first | exact Or.inl rfl | exact Or.inr rfl) (pe_call (ok__law_source_of T) (hr.mono (by decide)) (by rfl) T.g__law_source_of T.k__law_source_of T.b__law_source_of .nil pass0 (pa_cons (pv 2) pa_nil)))
          (pss_cut (ps_set (i := 4) sc_law.nd rfl (by first | exact Or.inl rfl | exact Or.inr rfl) (pe_call (ok__law_table T) (hr.mono (by decide)) (by rfl) T.g__law_table T.k__law_table T.b__law_table .nil pass0 (pa_cons (pv 3) (pa_cons (pe_ix (r := rIxL K) ix_list (pe_lst (pa_cons pe_int (pa_cons pe_int (pa_cons pe_int (pa_cons pe_int (pa_cons pe_int pa_nil)))))) (pv 1) (fun _ _ => rfl)) pa_nil))))
          (pss_cut (ps_set (i := 5) sc_law.nd rfl (by first | exact Or.inl rfl | exact Or.inr rfl) (pe_call (ok__law_signed_xs T) (hr.mono (by decide)) (by rfl) T.g__law_signed_xs T.k__law_signed_xs T.b__law_signed_xs .nil pass0 (pa_cons (pv 3) (pa_cons (pe_callB (id := "len") (r := rLenS K) call_len_seq (by rfl) T.n_len PySem.boot_len (pa_cons (pe_ix (r := rIxL K) ix_list (pv 4) pe_int (fun _ _ => rfl)) pa_nil)) pa_nil))))
          (pss_cut (ps_set (i := 6) sc_law.nd rfl (by first | exact Or.inl rfl | exact Or.inr rfl) (pe_callB (id := "repr") (r := Own2.rShown2 K) (Own2.repr_shown2 rfl hr.units) (by rfl) T.n_repr (by decide +kernel) (pa_cons (pe_tup (pa_cons (pv 4) (pa_cons (pv 5) pa_nil))) pa_nil)))
          (pss_cut (ps_set (i := 7) sc_law.nd rfl (by first | exact Or.inl rfl | exact Or.inr rfl) (pe_call (ok__law_lists T) (hr.mono (by decide)) (by rfl) T.g__law_lists T.k__law_lists T.b__law_lists .nil pass0 (pa_cons (pe_lc (own := [("_law_x", 12)]) (wi := iList K _) (g := gName 12) (tt := tYes) rfl sc_law.nd (pi_list (pv 5)) (blkOk_by (N := ["_law_script", "_law_k", "_law_cell", "_law_source", "_law_table_here", "_law_xs", "_law_handed", "_law_some", "_law_right", "_law_due", "_law_turn", "_law_found", "_law_x", "_law_zs"]) (sc := (defScope s_law)) (by decide +kernel)) (fun _ _ _ _ _ => pg_name (i := 12) sc_law.nd rfl (Or.inl rfl)) (fun _ _ _ _ _ => pts_nil) (fun _ _ _ _ _ => (pe_call (ok__law_floor T) (hr.mono (by decide)) (by rfl) T.g__law_floor T.k__law_floor T.b__law_floor .nil pass0 (pa_cons (pv 12) pa_nil)))) (pa_cons (pe_lc (own := [("_law_x", 12)]) (wi := iList K _) (g := gName 12) (tt := tYes) rfl sc_law.nd (pi_list (pv 5)) (blkOk_by (N := ["_law_script", "_law_k", "_law_cell", "_law_source", "_law_table_here", "_law_xs", "_law_handed", "_law_some", "_law_right", "_law_due", "_law_turn", "_law_found", "_law_x", "_law_zs"]) (sc := (defScope s_law)) (by decide +kernel)) (fun _ _ _ _ _ => pg_name (i := 12) sc_law.nd rfl (Or.inl rfl)) (fun _ _ _ _ _ => pts_nil) (fun _ _ _ _ _ => (pe_call (ok__law_ceiling T) (hr.mono (by decide)) (by rfl) T.g__law_ceiling T.k__law_ceiling T.b__law_ceiling .nil pass0 (pa_cons (pv 12) pa_nil)))) pa_nil))))
          (pss_cut (ps_setLc (i := 8) (own := [("_law_zs", 13)]) (wi := iList K _) (g := gName 13) (tt := _) rfl sc_law.nd rfl rfl (sw_true rfl rfl rfl (by decide +kernel)) (pi_list (pv 7)) (blkOk_by (N := ["_law_script", "_law_k", "_law_cell", "_law_source", "_law_table_here", "_law_xs", "_law_handed", "_law_some", "_law_right", "_law_due", "_law_turn", "_law_found", "_law_x", "_law_zs"]) (sc := (defScope s_law)) (by decide +kernel)) (fun _ _ _ _ _ => pg_name (i := 13) sc_law.nd rfl (Or.inl rfl)) (fun _ _ _ _ _ => pts_one (pt_val (pe_call (ok__law_rounds T) (hr.mono (by decide)) (by rfl) T.g__law_rounds T.k__law_rounds T.b__law_rounds .nil pass0 (pa_cons (pv 4) (pa_cons (pv 5) (pa_cons (pv 13) pa_nil)))))) (fun _ _ _ _ _ => (pv 13)))
          (pss_cut (ps_set (i := 9) sc_law.nd rfl (by first | exact Or.inl rfl | exact Or.inr rfl) (pe_ifExp (pt_cmpR (r := rNeD K) (op_neD hr.units) (pv 8) (pe_lst pa_nil) (nomark _)) (pe_ix (r := rIxL K) ix_list (pv 8) pe_int (fun _ _ => rfl)) pe_non))
          (pss_one (ps_for PassesOwn.never rfl (pi_range1 (by rfl) T.n_range (pa_cons pe_int pa_nil)) (pg_name (i := 10) sc_law.nd rfl (by first | exact Or.inl rfl | exact Or.inr rfl))
            (pss_cut (ps_set (i := 11) sc_law.nd rfl (by first | exact Or.inl rfl | exact Or.inr rfl) (pe_call (ok_rounded T) hr (by rfl) T.g_rounded T.k_rounded T.b_rounded .nil pass0 (pa_cons (pv 4) (pa_cons (pv 5) pa_nil))))
              (pss_cons (ps_if (PW.pt (pw_or (pt_cmpR (r := rNeD K) (op_neD hr.units) (pv 11) (pv 9) (nomark _)) (pw_or (PW.pt (pw_and (pt_cmpR op_notN (pv 9) pe_non (nomark _)) (pw_and1 (pt_not (pt_val (pe_call (ok__law_are_wholes T) (hr.mono (by decide)) (by rfl) T.g__law_are_wholes T.k__law_are_wholes T.b__law_are_wholes .nil pass0 (pa_cons (pv 11) (pa_cons (pe_callB (id := "len") (r := rLenS K) call_len_seq (by rfl) T.n_len PySem.boot_len (pa_cons (pv 5) pa_nil)) pa_nil)))))))) (pw_or1 (pt_cmpR op_ne (pe_callB (id := "repr") (r := Own2.rShown2 K) (Own2.repr_shown2 rfl hr.units) (by rfl) T.n_repr (by decide +kernel) (pa_cons (pe_tup (pa_cons (pv 4) (pa_cons (pv 5) pa_nil))) pa_nil)) (pv 6) (nomark _))))))
                (pss_one (ps_ret pe_bl))
                pss_nil)
              (pss_one (ps_if (pt_cmpR op_notN (pv 11) pe_non (nomark _))
                (pss_one (ps_expr (pe_bm PySem.F.plainAttrs_list PySem.F.slot_list_append PySem.F.type_list_append mt_append (pv 11) (pa_cons pe_non pa_nil))))
                pss_nil))))))))))))))
      (pss_one (ps_ret pe_bl))), ?_⟩
  obtain ⟨a0, ns, ev0, hS, hlen, q⟩ := h
  have ea : a0 = a := by cases ev0; rfl
  subst ea
  clear ev0
  refine ⟨_, rfl, a0, ns, 0, rfl, hS, by decide, fun c0 => ⟨(by show 1 ≤ sizeLine; decide), fun p0 np0 => ⟨_, rfl, ?_⟩⟩⟩
  have x0 := Ex.new (o := .lst [V.int c0]) np0
  refine ⟨1, rfl, 5, rfl, a0, _, rfl, ex_l x0 hS, fun p1 np1 => ?_⟩
  obtain ⟨ys, hys⟩ := cutV_ints ns (some 1) (some 5)
  have hyl : ys.length ≤ 4 := by
    have h1 := cut_four (ns.map V.int)
    rwa [hys, List.length_map] at h1
  rw [hys]
  have x1 := Ex.new (o := .lst (ys.map V.int)) np1
  refine ⟨p0, p1, _, _, rfl, rfl, x1 _ _ upd_same, upd_same, ?_, fun p2 np2 => ?_⟩
  · have : ([V.int c0].length + (ys.map V.int).length) ≤ 1000 := by
      rw [List.length_map]
      show 1 + ys.length ≤ 1000
      omega
    exact Nat.le_trans this (by decide)
  refine ⟨p2, _, rfl, SqL.of upd_same, ?_⟩
  refine for_enum (K := K) (a := p2) (xs := [V.int c0] ++ ys.map V.int) (fun i σ H' => ∃ y1 y2 y3 y4 y5 y6 y7 y8 y9 y10 y11 y12 y13 : Option V, σ = [some (.ref a0), y1, y2, y3, y4, y5, y6, y7, y8, y9, y10, y11, y12, y13] ∧ H' p2 = some (.lst ([V.int c0] ++ ys.map V.int)))
    ⟨_, _, _, _, _, _, _, _, _, _, _, _, _, rfl, upd_same⟩ (fun i σ H' ⟨_, _, _, _, _, _, _, _, _, _, _, _, _, _, h⟩ => SqL.of h) (fun i x tt σ H0 hi hP ntt => ?_) (fun σ H' _ => ?_)
  rotate_left
  · dsimp only
    refine s_ret (v := .bl true) ?_ ?_
    · exact ev_c
    · exact fun H2 _ => q H2
  obtain ⟨y1, y2, y3, y4, y5, y6, y7, y8, y9, y10, y11, y12, y13, rfl, hp2⟩ := hP
  have i5 : i < 5 := by
    have := (List.getElem?_eq_some_iff.mp hi).1
    rw [List.length_append, List.length_map] at this
    have h1 : [V.int c0].length = 1 := rfl
    omega
  obtain ⟨c, rfl⟩ : ∃ c : Int, x = .int c := by
    rcases List.mem_append.mp (List.mem_of_getElem? hi) with h | h
    · exact ⟨c0, by simpa using h⟩
    · obtain ⟨c, _, rfl⟩ := List.mem_map.mp h
      exact ⟨c, rfl⟩
  have xtt := Ex.new (o := .tup [V.int (i : Nat), .int c]) ntt
  have hp2 := xtt _ _ hp2
  refine ⟨tt, _, rfl, SqT.of upd_same, rfl, _, _, rfl, _, _, rfl, rfl, ?_⟩
  generalize upd H0 tt (.tup [V.int (i : Nat), .int c]) = H0' at hp2 ⊢
  generalize p2 = pL at hp2 ⊢
  clear hi hyl hys hS hlen x0 x1 xtt
  -- source, table
  refine ⟨_, rfl, c, rfl, fun s H1 n1 e1 s1 => ?_⟩
  obtain ⟨mo, hmo, mo1, mo8⟩ := most_at i5
  refine ⟨fun σ' H' => ∃ (p : Addr) (as : List Addr) (rows : List (List Int)) (m w : Nat), σ' = [some (.ref a0), some (.int (i : Nat)), some (.int c), some (.ref s), some (.ref p), y5, y6, y7, y8, y9, y10, y11, y12, y13] ∧ TN s H' p as rows ∧ Dim rows m w ∧ (∀ r ∈ rows, ∀ y ∈ r, Bd 110 y) ∧ ExB s H1 H' ∧ SrcAt H' s 1000, ?_, ?_⟩
  · refine ⟨_, rfl, (by show 5 ≤ sizeLine; decide), fun L nL => ?_⟩
    have xL := Ex.new (o := .lst [V.int 8, .int 6, .int 6, .int 5, .int 7]) nL
    refine ⟨_, rfl, L, _, (i : Int), .int (mo : Int), rfl, rfl, SqL.of upd_same, hmo, ?_⟩
    refine ⟨s, 0, mo, rfl, s1.ex xL, by decide, mo1, mo8, fun as rows p H2 m w m1 m2 w1 w2 N hl e2 s2 => ⟨p, as, rows, m, w, rfl, TN.of (s1.ex xL) N.p0 N.a0 N.tab, ⟨hl, fun r hr => (N.ok r hr).1, by omega⟩, fun r hr y hy => Nat.lt_of_le_of_lt ((N.ok r hr).2 y hy) (by decide +kernel), (ExB.of xL).trans e2, s2⟩⟩
  rintro σ' H2 ⟨p, as, rows, m, w, rfl, T1, d, bd, e2, s2⟩
  have dm := d.b
  -- xs
  refine ⟨fun σ' H' => ∃ (px : Addr) (bs : List Addr) (qs : List Rat), σ' = [some (.ref a0), some (.int (i : Nat)), some (.int c), some (.ref s), some (.ref p), some (.ref px), y6, y7, y8, y9, y10, y11, y12, y13] ∧ qs.length = w ∧ (∀ q ∈ qs, BdQ 110 20 q) ∧ FrL H' px bs qs ∧ Tab H' p as rows ∧ ExB s H1 H', ?_, ?_⟩
  · refine ⟨_, rfl, ?_⟩
    refine (ev_wide (σ := [some (.ref a0), some (.int (i : Nat)), some (.int c), some (.ref s), some (.ref p), y5, y6, y7, y8, y9, y10, y11, y12, y13]) (ev_var (i := 4) rfl) (d.ok T1.tab)) H2 (Ex.refl _) _ fun H3 e3 => ⟨s, 1000, w, rfl, s2.ex e3, by decide, by omega, fun px bs qs H4 np e4 s4 hF hl hq => ⟨px, bs, qs, rfl, hl, hq, hF, ((T1.ex e3).exB e4).tab, e2.trans ((ExB.of e3).trans e4)⟩⟩
  rintro σ' H3 ⟨px, bs, qs, rfl, lq, bq, hF, T, e3⟩
  have hL := (e3.ex n1 e1) _ _ hp2
  have sA : Small 110 rows := ⟨bd, by have := d.m_; omega, fun r hr => by rw [d.w_ r hr]; omega⟩
  clear T1 e2 s2 e3 s1 e1 n1 hp2
  -- handed
  refine ⟨fun σ' H' => σ' = [some (.ref a0), some (.int (i : Nat)), some (.int c), some (.ref s), some (.ref p), some (.ref px), some (.str (PyData.tuple [tabD rows, .list (qs.map qD)]).shown), y7, y8, y9, y10, y11, y12, y13] ∧ Ex H3 H', ?_, ?_⟩
  · exact s_asg (ev_reprF (ev_var (i := 4) rfl) (ev_var (i := 5) rfl) T hF sA bq (by omega)) fun H5 e5 => ⟨rfl, e5⟩
  rintro σ' H5 ⟨rfl, e5⟩
  replace T := T.ex e5
  replace hF := hF.ex e5
  replace hL := e5 _ _ hL
  clear e5
  -- some
  refine ⟨fun σ' H' => ∃ (pu : Addr) (us : List Addr), σ' = [some (.ref a0), some (.int (i : Nat)), some (.int c), some (.ref s), some (.ref p), some (.ref px), some (.str (PyData.tuple [tabD rows, .list (qs.map qD)]).shown), some (.ref pu), y8, y9, y10, y11, y12, y13] ∧ Ex H5 H' ∧ Tab H' pu us (Ls.allL (qs.map Fq.ch)), ?_, ?_⟩
  · refine asg_call2 (σ := [some (.ref a0), some (.int (i : Nat)), some (.int c), some (.ref s), some (.ref p), some (.ref px), some (.str (PyData.tuple [tabD rows, .list (qs.map qD)]).shown), y7, y8, y9, y10, y11, y12, y13]) ?_
    refine (el_colF (K := K) (n := 5) (σ := [some (.ref a0), some (.int (i : Nat)), some (.int c), some (.ref s), some (.ref p), some (.ref px), some (.str (PyData.tuple [tabD rows, .list (qs.map qD)]).shown), y7, y8, y9, y10, y11, y12, y13]) (vs := [12]) (j := 12) Fq.fl rfl hF.1 hF.2 (by omega) (fun u => rfl) fun b q H6 hq hb e6 => ev_fn (sp := sp__law_floor K) (ea_cons (ev_var (i := 12) rfl) ea_nil) fun H7 e7 Q7 q7 => ⟨b, q, rfl, (e6.trans e7) _ _ hb, (bq q hq).2.mono (by decide), q7 H7 (Ex.refl _)⟩) H5 (Ex.refl _) _ fun c1 H6 nc1 e6 h1 => ?_
    have hF6 := hF.ex e6
    refine (el_colF (K := K) (n := 5) (σ := [some (.ref a0), some (.int (i : Nat)), some (.int c), some (.ref s), some (.ref p), some (.ref px), some (.str (PyData.tuple [tabD rows, .list (qs.map qD)]).shown), y7, y8, y9, y10, y11, y12, y13]) (vs := [12]) (j := 12) Fq.ce rfl hF6.1 hF6.2 (by omega) (fun u => rfl) fun b q H6 hq hb e6 => ev_fn (sp := sp__law_ceiling K) (ea_cons (ev_var (i := 12) rfl) ea_nil) fun H7 e7 Q7 q7 => ⟨b, q, rfl, (e6.trans e7) _ _ hb, (bq q hq).2.mono (by decide), q7 H7 (Ex.refl _)⟩) H6 (Ex.refl _) _ fun c2 H7 nc2 e7 h2 => ?_
    refine ⟨c1, c2, _, _, rfl, e7 _ _ h1, h2, by rw [List.length_map, List.length_map], by rw [List.length_map]; omega, fun c hc => ?_, fun u us H8 nu e8 hu => ?_⟩
    · rw [choices_ch] at hc
      obtain ⟨x, _, rfl⟩ := List.mem_map.mp hc
      exact Fq.ch_len x
    · rw [choices_ch] at hu
      exact ⟨u, us, rfl, (e6.trans e7).trans e8, hu⟩
  rintro σ' H6 ⟨pu, us, rfl, e6, hu⟩
  replace T := T.ex e6
  replace hF := hF.ex e6
  replace hL := e6 _ _ hL
  have ll : (Ls.allL (qs.map Fq.ch)).length ≤ 256 := by
    refine Nat.le_trans (Ls.allL_len (b := 2) fun c hc => ?_) ?_
    · obtain ⟨x, _, rfl⟩ := List.mem_map.mp hc
      exact Fq.ch_len x
    · rw [List.length_map]
      exact Nat.le_trans (Nat.pow_le_pow_right (by decide) (show _ ≤ 8 by omega)) (by decide)
  clear e6
  -- right
  refine ⟨fun σ' H' => ∃ (pr : Addr) (rs : List Addr), σ' = [some (.ref a0), some (.int (i : Nat)), some (.int c), some (.ref s), some (.ref p), some (.ref px), some (.str (PyData.tuple [tabD rows, .list (qs.map qD)]).shown), some (.ref pu), some (.ref pr), y9, y10, y11, y12, y13] ∧ Ex H6 H' ∧ Tab H' pr rs ((Ls.allL (qs.map Fq.ch)).filter (Fq.betw rows qs)), ?_, ?_⟩
  · refine lc_keep (K := K) (nn := 7) (j := 13) (vs := [13]) (σ := [some (.ref a0), some (.int (i : Nat)), some (.int c), some (.ref s), some (.ref p), some (.ref px), some (.str (PyData.tuple [tabD rows, .list (qs.map qD)]).shown), some (.ref pu), y8, y9, y10, y11, y12, y13]) (Fq.betw rows qs) rfl hu (by omega) (fun u => rfl) (fun u => rfl) (fun c r H7 hr hc e7 => ?_) (fun D rs H7 nD e7 hD => ⟨D, rs, rfl, e7, hD⟩)
    exact et_B (ev_fn (sp := sp__law_rounds K) (ea_cons (ev_var (i := 4) rfl) (ea_cons (ev_var (i := 5) rfl) (ea_cons (ev_var (i := 13) rfl) ea_nil))) fun H8 e8 Q8 q8 => ⟨p, px, c, as, bs, rows, m, w, qs, r, rfl, d.ok (T.ex (e7.trans e8)), bd, hF.ex (e7.trans e8), lq, bq, e8 _ _ hc, Ls.allL_each _ _ rfl r hr, q8⟩)
  rintro σ' H7 ⟨pr, rs, rfl, e7, hr⟩
  replace T := T.ex e7
  replace hF := hF.ex e7
  replace hL := e7 _ _ hL
  clear e7 hu
  -- due
  refine ⟨fun σ' H' => ∃ v : V, σ' = [some (.ref a0), some (.int (i : Nat)), some (.int c), some (.ref s), some (.ref p), some (.ref px), some (.str (PyData.tuple [tabD rows, .list (qs.map qD)]).shown), some (.ref pu), some (.ref pr), some v, y10, y11, y12, y13] ∧ Ex H7 H' ∧ RndAt (fun _ => none) H' v (Fq.rnd rows qs), ?_, ?_⟩
  · have hf : Fq.rnd rows qs = ((Ls.allL (qs.map Fq.ch)).filter (Fq.betw rows qs)).head? := (List.head?_filter ..).symm
    rw [hf]
    generalize (Ls.allL (qs.map Fq.ch)).filter (Fq.betw rows qs) = R at hr ⊢
    cases R with
    | nil =>
      refine s_asg (σ := [some (.ref a0), some (.int (i : Nat)), some (.int c), some (.ref s), some (.ref p), some (.ref px), some (.str (PyData.tuple [tabD rows, .list (qs.map qD)]).shown), some (.ref pu), some (.ref pr), y9, y10, y11, y12, y13]) (v := .non) (ev_if (b := false) ?_ (fun z => nomatch z) (fun _ => ev_c)) fun H8 e8 => ⟨.non, rfl, e8, rfl⟩
      exact fun H1 e1 Q1 k1 => ⟨_, rfl, Nat.zero_le _, fun L nL => ⟨tabD [], .list [], tab_dp ((hr.ex e1).ex (Ex.new nL)), .lst (SqL.of upd_same) .nil, sh_tab _, sh_tab [], _, rfl, k1 _ (Ex.new nL)⟩⟩
    | cons z R' =>
      have hr0 := hr
      obtain ⟨hp, hrows⟩ := hr
      cases hrows with
      | cons h t =>
        rename_i a rs'
        refine s_asg (σ := [some (.ref a0), some (.int (i : Nat)), some (.int c), some (.ref s), some (.ref p), some (.ref px), some (.str (PyData.tuple [tabD rows, .list (qs.map qD)]).shown), some (.ref pu), some (.ref pr), y9, y10, y11, y12, y13]) (v := .ref a) (ev_if (b := true) ?_ (fun _ => ev_op (ev_var (i := 8) rfl) ev_c (rv_ixL (SqL.of hp) (at_of (j := 0) (by omega) rfl))) (fun z => nomatch z)) fun H8 e8 => ⟨.ref a, rfl, e8, a, rfl, e8 _ _ h, rfl⟩
        exact fun H1 e1 Q1 k1 => ⟨_, rfl, Nat.zero_le _, fun L nL => ⟨tabD (z :: R'), .list [], tab_dp ((hr0.ex e1).ex (Ex.new nL)), .lst (SqL.of upd_same) .nil, sh_tab _, sh_tab [], _, rfl, k1 _ (Ex.new nL)⟩⟩
  rintro σ' H8 ⟨v, rfl, e8, hv⟩
  replace T := T.ex e8
  replace hF := hF.ex e8
  replace hL := e8 _ _ hL
  clear e8 hr
  -- twice
  refine s_forR1 (n := 2) (ea_cons ev_c ea_nil) (by decide) (fun a σ' H' => ∃ y10 y11 : Option V, σ' = [some (.ref a0), some (.int (i : Nat)), some (.int c), some (.ref s), some (.ref p), some (.ref px), some (.str (PyData.tuple [tabD rows, .list (qs.map qD)]).shown), some (.ref pu), some (.ref pr), some v, y10, y11, y12, y13] ∧ Ex H8 H') (fun H9 e9 => ⟨_, _, rfl, e9⟩) (fun a σ' H9 ha hP => ?_) (fun σ' H9 hP => ?_)
  rotate_left
  · obtain ⟨y10, y11, rfl, e9⟩ := hP
    exact ⟨_, _, _, _, _, _, _, _, _, _, _, _, _, rfl, e9 _ _ hL⟩
  obtain ⟨y10, y11, rfl, e9⟩ := hP
  have T9 := T.ex e9
  refine ⟨fun σ' H' => ∃ u : V, σ' = [some (.ref a0), some (.int (i : Nat)), some (.int c), some (.ref s), some (.ref p), some (.ref px), some (.str (PyData.tuple [tabD rows, .list (qs.map qD)]).shown), some (.ref pu), some (.ref pr), some v, some (.int (a : Int)), some u, y12, y13] ∧ Ex H9 H' ∧ RndAt H9 H' u (Fq.rnd rows qs), ?_, ?_⟩
  · exact ⟨_, rfl, _, rfl, p, px, as, bs, rows, m, w, qs, rfl, d.ok T9, hF.ex e9, lq, bd, bq, fun v H10 e10 hv => ⟨v, rfl, e10, hv⟩⟩
  rintro σ' H10 ⟨u, rfl, e10, hu⟩
  have e910 := e9.trans e10
  have T10 := T9.ex e10
  have hF10 := hF.ex e910
  refine q_when (b := false) (et_is (et_or (a := false) (b := false) (et_test (ev_op (ev_var (i := 11) rfl) (ev_var (i := 9) rfl) (rv_neO hu (hv.ex e910)))) (fun _ => et_is (et_or (a := false) (b := false) ?_ (fun _ => et_is (et_test (ev_op (ev_reprF (ev_var (i := 4) rfl) (ev_var (i := 5) rfl) T10 hF10 sA bq (by omega)) (ev_var (i := 6) rfl) (rv_ne rfl))) (by rw [decide_eq_true rfl]; rfl))) rfl)) rfl) (fun z => nomatch z) (fun _ H11 e11 => ?_)
  · have hv10 := hv.ex e910
    cases ho : Fq.rnd rows qs with
    | none =>
      rw [ho] at hv10
      have hv10 : v = .non := hv10
      exact et_is (et_and (a := false) (b := false) (et_is (et_test (ev_op (ev_var (i := 9) rfl) ev_c (fun G g Q1 k1 => ⟨rfl, k1 G (Ex.refl _)⟩))) (by rw [hv10]; rfl)) (fun z => nomatch z)) rfl
    | some zz =>
      rw [ho] at hv10 hu
      obtain ⟨a', rfl, _, _⟩ := hv10
      obtain ⟨f, rfl, h1, h2⟩ := hu
      have lz := Paired.length (Ls.allL_each _ _ rfl zz (List.mem_of_find?_eq_some ho))
      rw [List.length_map] at lz
      have lb : bs.length = qs.length := Paired.length hF.2
      exact et_is (et_and (a := true) (b := false) (et_is (et_test (ev_op (ev_var (i := 9) rfl) ev_c (fun G g Q1 k1 => ⟨rfl, k1 G (Ex.refl _)⟩))) rfl) (fun _ => et_is (et_not (et_B (b := true) (ev_fn (sp := sp__law_are_wholes K) (ea_cons (ev_var (i := 11) rfl) (ea_cons (ev_len (ev_var (i := 5) rfl) (SqL.of hF10.1)) ea_nil)) fun H3 e3 Q3 q3 => ⟨f, zz, _, rfl, e3 _ _ h1, by rw [List.length_map, lb, lz], by omega, q3⟩))) rfl)) rfl
  have hu11 := hu.ex e11
  refine s_when (b := !decide (u = .non)) (et_test (ev_op (ev_var (i := 11) rfl) ev_c (fun G g Q1 k1 => ⟨rfl, k1 G (Ex.refl _)⟩))) (fun z H12 e12 => ?_) (fun z H12 e12 => ⟨_, _, rfl, e910.trans (e11.trans e12)⟩)
  have hu12 := hu11.ex e12
  have e812 := e910.trans (e11.trans e12)
  cases ho : Fq.rnd rows qs with
  | none =>
    rw [ho] at hu12
    have hu12 : u = .non := hu12
    rw [hu12, decide_eq_true rfl] at z
    cases z
  | some zz =>
    rw [ho] at hu12
    obtain ⟨f, rfl, h1, h2⟩ := hu12
    have lz := Paired.length (Ls.allL_each _ _ rfl zz (List.mem_of_find?_eq_some ho))
    rw [List.length_map] at lz
    exact ⟨_, rfl, .inl ⟨rfl, _, SqL.of h1⟩, f, _, _, rfl, rfl, h1, small1000 (by rw [List.length_map]; omega), _, _, rfl, Ex.mut e812 (fresh_back e9 h2)⟩
end
/-! ### what the top has written; the end -/
theorem all_mk {P : Program} {w : World} {K : PySem.W.Frag} {h : Heap} {mg : Str → Option Value} {fa : Addr} (X : K.In h) (G : h.Ns mainGlobals mg) (hfa : mg "law" = some (.ref fa))
    {f1 : Addr} {od1 an1 : Option Addr} {sl1 : Array (Option Value)} {oc1 kV1 dc1 pm1 cd1 ct1 : Value}
    (a1 : PySem.W.nsIn K mainGlobals "is_whole" = some (some (.ref f1))) (l1 : K.lookup f1 = some ⟨oc1, od1, .func (PySem.W.fnOf "is_whole" "is_whole" (defArgs s_is_whole) (defBody s_is_whole) (defScope s_is_whole) (.none) kV1 dc1 pm1 an1 cd1 ct1), sl1⟩) (c1 : PySem.W.codeIn K cd1 "is_whole" = true) (k1 : PySem.W.keepIn K (.ref f1) = true)
    {f2 : Addr} {od2 an2 : Option Addr} {sl2 : Array (Option Value)} {oc2 kV2 dc2 pm2 cd2 ct2 : Value}
    (a2 : PySem.W.nsIn K mainGlobals "is_fraction" = some (some (.ref f2))) (l2 : K.lookup f2 = some ⟨oc2, od2, .func (PySem.W.fnOf "is_fraction" "is_fraction" (defArgs s_is_fraction) (defBody s_is_fraction) (defScope s_is_fraction) (.none) kV2 dc2 pm2 an2 cd2 ct2), sl2⟩) (c2 : PySem.W.codeIn K cd2 "is_fraction" = true) (k2 : PySem.W.keepIn K (.ref f2) = true)
    {f3 T3 : Addr} {od3 an3 : Option Addr} {sl3 : Array (Option Value)} {oc3 kV3 dc3 pm3 cd3 ct3 : Value} {oT3 : Obj} {its3 : List Value} {nT3 : Nat}
    (a3 : PySem.W.nsIn K mainGlobals "fraction" = some (some (.ref f3))) (l3 : K.lookup f3 = some ⟨oc3, od3, .func (PySem.W.fnOf "fraction" "fraction" (defArgs s_fraction) (defBody s_fraction) (defScope s_fraction) (.ref T3) kV3 dc3 pm3 an3 cd3 ct3), sl3⟩) (c3 : PySem.W.codeIn K cd3 "fraction" = true) (k3 : PySem.W.keepIn K (.ref f3) = true)
    (t3 : K.lookup T3 = some oT3) (u3 : oT3.data = .seq its3.toArray nT3) (v3 : its3.length = 1 ∧ Vals [.int 1] its3)
    {f4 : Addr} {od4 an4 : Option Addr} {sl4 : Array (Option Value)} {oc4 kV4 dc4 pm4 cd4 ct4 : Value}
    (a4 : PySem.W.nsIn K mainGlobals "plus" = some (some (.ref f4))) (l4 : K.lookup f4 = some ⟨oc4, od4, .func (PySem.W.fnOf "plus" "plus" (defArgs s_plus) (defBody s_plus) (defScope s_plus) (.none) kV4 dc4 pm4 an4 cd4 ct4), sl4⟩) (c4 : PySem.W.codeIn K cd4 "plus" = true) (k4 : PySem.W.keepIn K (.ref f4) = true)
    {f5 : Addr} {od5 an5 : Option Addr} {sl5 : Array (Option Value)} {oc5 kV5 dc5 pm5 cd5 ct5 : Value}
    (a5 : PySem.W.nsIn K mainGlobals "times" = some (some (.ref f5))) (l5 : K.lookup f5 = some ⟨oc5, od5, .func (PySem.W.fnOf "times" "times" (defArgs s_times) (defBody s_times) (defScope s_times) (.none) kV5 dc5 pm5 an5 cd5 ct5), sl5⟩) (c5 : PySem.W.codeIn K cd5 "times" = true) (k5 : PySem.W.keepIn K (.ref f5) = true)
    {f6 : Addr} {od6 an6 : Option Addr} {sl6 : Array (Option Value)} {oc6 kV6 dc6 pm6 cd6 ct6 : Value}
    (a6 : PySem.W.nsIn K mainGlobals "floor_of" = some (some (.ref f6))) (l6 : K.lookup f6 = some ⟨oc6, od6, .func (PySem.W.fnOf "floor_of" "floor_of" (defArgs s_floor_of) (defBody s_floor_of) (defScope s_floor_of) (.none) kV6 dc6 pm6 an6 cd6 ct6), sl6⟩) (c6 : PySem.W.codeIn K cd6 "floor_of" = true) (k6 : PySem.W.keepIn K (.ref f6) = true)
    {f7 : Addr} {od7 an7 : Option Addr} {sl7 : Array (Option Value)} {oc7 kV7 dc7 pm7 cd7 ct7 : Value}
    (a7 : PySem.W.nsIn K mainGlobals "ceiling_of" = some (some (.ref f7))) (l7 : K.lookup f7 = some ⟨oc7, od7, .func (PySem.W.fnOf "ceiling_of" "ceiling_of" (defArgs s_ceiling_of) (defBody s_ceiling_of) (defScope s_ceiling_of) (.none) kV7 dc7 pm7 an7 cd7 ct7), sl7⟩) (c7 : PySem.W.codeIn K cd7 "ceiling_of" = true) (k7 : PySem.W.keepIn K (.ref f7) = true)
    {f8 : Addr} {od8 an8 : Option Addr} {sl8 : Array (Option Value)} {oc8 kV8 dc8 pm8 cd8 ct8 : Value}
    (a8 : PySem.W.nsIn K mainGlobals "is_long" = some (some (.ref f8))) (l8 : K.lookup f8 = some ⟨oc8, od8, .func (PySem.W.fnOf "is_long" "is_long" (defArgs s_is_long) (defBody s_is_long) (defScope s_is_long) (.none) kV8 dc8 pm8 an8 cd8 ct8), sl8⟩) (c8 : PySem.W.codeIn K cd8 "is_long" = true) (k8 : PySem.W.keepIn K (.ref f8) = true)
    {f9 : Addr} {od9 an9 : Option Addr} {sl9 : Array (Option Value)} {oc9 kV9 dc9 pm9 cd9 ct9 : Value}
    (a9 : PySem.W.nsIn K mainGlobals "is_fractions" = some (some (.ref f9))) (l9 : K.lookup f9 = some ⟨oc9, od9, .func (PySem.W.fnOf "is_fractions" "is_fractions" (defArgs s_is_fractions) (defBody s_is_fractions) (defScope s_is_fractions) (.none) kV9 dc9 pm9 an9 cd9 ct9), sl9⟩) (c9 : PySem.W.codeIn K cd9 "is_fractions" = true) (k9 : PySem.W.keepIn K (.ref f9) = true)
    {f10 : Addr} {od10 an10 : Option Addr} {sl10 : Array (Option Value)} {oc10 kV10 dc10 pm10 cd10 ct10 : Value}
    (a10 : PySem.W.nsIn K mainGlobals "check_fractions" = some (some (.ref f10))) (l10 : K.lookup f10 = some ⟨oc10, od10, .func (PySem.W.fnOf "check_fractions" "check_fractions" (defArgs s_check_fractions) (defBody s_check_fractions) (defScope s_check_fractions) (.none) kV10 dc10 pm10 an10 cd10 ct10), sl10⟩) (c10 : PySem.W.codeIn K cd10 "check_fractions" = true) (k10 : PySem.W.keepIn K (.ref f10) = true)
    {f11 : Addr} {od11 an11 : Option Addr} {sl11 : Array (Option Value)} {oc11 kV11 dc11 pm11 cd11 ct11 : Value}
    (a11 : PySem.W.nsIn K mainGlobals "all_lists" = some (some (.ref f11))) (l11 : K.lookup f11 = some ⟨oc11, od11, .func (PySem.W.fnOf "all_lists" "all_lists" (defArgs s_all_lists) (defBody s_all_lists) (defScope s_all_lists) (.none) kV11 dc11 pm11 an11 cd11 ct11), sl11⟩) (c11 : PySem.W.codeIn K cd11 "all_lists" = true) (k11 : PySem.W.keepIn K (.ref f11) = true)
    {f12 : Addr} {od12 an12 : Option Addr} {sl12 : Array (Option Value)} {oc12 kV12 dc12 pm12 cd12 ct12 : Value}
    (a12 : PySem.W.nsIn K mainGlobals "is_table" = some (some (.ref f12))) (l12 : K.lookup f12 = some ⟨oc12, od12, .func (PySem.W.fnOf "is_table" "is_table" (defArgs s_is_table) (defBody s_is_table) (defScope s_is_table) (.none) kV12 dc12 pm12 an12 cd12 ct12), sl12⟩) (c12 : PySem.W.codeIn K cd12 "is_table" = true) (k12 : PySem.W.keepIn K (.ref f12) = true)
    {f13 : Addr} {od13 an13 : Option Addr} {sl13 : Array (Option Value)} {oc13 kV13 dc13 pm13 cd13 ct13 : Value}
    (a13 : PySem.W.nsIn K mainGlobals "is_row" = some (some (.ref f13))) (l13 : K.lookup f13 = some ⟨oc13, od13, .func (PySem.W.fnOf "is_row" "is_row" (defArgs s_is_row) (defBody s_is_row) (defScope s_is_row) (.none) kV13 dc13 pm13 an13 cd13 ct13), sl13⟩) (c13 : PySem.W.codeIn K cd13 "is_row" = true) (k13 : PySem.W.keepIn K (.ref f13) = true)
    {f14 : Addr} {od14 an14 : Option Addr} {sl14 : Array (Option Value)} {oc14 kV14 dc14 pm14 cd14 ct14 : Value}
    (a14 : PySem.W.nsIn K mainGlobals "check_table" = some (some (.ref f14))) (l14 : K.lookup f14 = some ⟨oc14, od14, .func (PySem.W.fnOf "check_table" "check_table" (defArgs s_check_table) (defBody s_check_table) (defScope s_check_table) (.none) kV14 dc14 pm14 an14 cd14 ct14), sl14⟩) (c14 : PySem.W.codeIn K cd14 "check_table" = true) (k14 : PySem.W.keepIn K (.ref f14) = true)
    {f15 : Addr} {od15 an15 : Option Addr} {sl15 : Array (Option Value)} {oc15 kV15 dc15 pm15 cd15 ct15 : Value}
    (a15 : PySem.W.nsIn K mainGlobals "led" = some (some (.ref f15))) (l15 : K.lookup f15 = some ⟨oc15, od15, .func (PySem.W.fnOf "led" "led" (defArgs s_led) (defBody s_led) (defScope s_led) (.none) kV15 dc15 pm15 an15 cd15 ct15), sl15⟩) (c15 : PySem.W.codeIn K cd15 "led" = true) (k15 : PySem.W.keepIn K (.ref f15) = true)
    {f16 : Addr} {od16 an16 : Option Addr} {sl16 : Array (Option Value)} {oc16 kV16 dc16 pm16 cd16 ct16 : Value}
    (a16 : PySem.W.nsIn K mainGlobals "row_sum" = some (some (.ref f16))) (l16 : K.lookup f16 = some ⟨oc16, od16, .func (PySem.W.fnOf "row_sum" "row_sum" (defArgs s_row_sum) (defBody s_row_sum) (defScope s_row_sum) (.none) kV16 dc16 pm16 an16 cd16 ct16), sl16⟩) (c16 : PySem.W.codeIn K cd16 "row_sum" = true) (k16 : PySem.W.keepIn K (.ref f16) = true)
    {f17 : Addr} {od17 an17 : Option Addr} {sl17 : Array (Option Value)} {oc17 kV17 dc17 pm17 cd17 ct17 : Value}
    (a17 : PySem.W.nsIn K mainGlobals "row_totals" = some (some (.ref f17))) (l17 : K.lookup f17 = some ⟨oc17, od17, .func (PySem.W.fnOf "row_totals" "row_totals" (defArgs s_row_totals) (defBody s_row_totals) (defScope s_row_totals) (.none) kV17 dc17 pm17 an17 cd17 ct17), sl17⟩) (c17 : PySem.W.codeIn K cd17 "row_totals" = true) (k17 : PySem.W.keepIn K (.ref f17) = true)
    {f18 : Addr} {od18 an18 : Option Addr} {sl18 : Array (Option Value)} {oc18 kV18 dc18 pm18 cd18 ct18 : Value}
    (a18 : PySem.W.nsIn K mainGlobals "rounded" = some (some (.ref f18))) (l18 : K.lookup f18 = some ⟨oc18, od18, .func (PySem.W.fnOf "rounded" "rounded" (defArgs s_rounded) (defBody s_rounded) (defScope s_rounded) (.none) kV18 dc18 pm18 an18 cd18 ct18), sl18⟩) (c18 : PySem.W.codeIn K cd18 "rounded" = true) (k18 : PySem.W.keepIn K (.ref f18) = true)
    {f19 : Addr} {od19 an19 : Option Addr} {sl19 : Array (Option Value)} {oc19 kV19 dc19 pm19 cd19 ct19 : Value}
    (a19 : PySem.W.nsIn K mainGlobals "all_rounded" = some (some (.ref f19))) (l19 : K.lookup f19 = some ⟨oc19, od19, .func (PySem.W.fnOf "all_rounded" "all_rounded" (defArgs s_all_rounded) (defBody s_all_rounded) (defScope s_all_rounded) (.none) kV19 dc19 pm19 an19 cd19 ct19), sl19⟩) (c19 : PySem.W.codeIn K cd19 "all_rounded" = true) (k19 : PySem.W.keepIn K (.ref f19) = true)
    {f20 : Addr} {od20 an20 : Option Addr} {sl20 : Array (Option Value)} {oc20 kV20 dc20 pm20 cd20 ct20 : Value}
    (a20 : PySem.W.nsIn K mainGlobals "is_between" = some (some (.ref f20))) (l20 : K.lookup f20 = some ⟨oc20, od20, .func (PySem.W.fnOf "is_between" "is_between" (defArgs s_is_between) (defBody s_is_between) (defScope s_is_between) (.none) kV20 dc20 pm20 an20 cd20 ct20), sl20⟩) (c20 : PySem.W.codeIn K cd20 "is_between" = true) (k20 : PySem.W.keepIn K (.ref f20) = true)
    {f21 : Addr} {od21 an21 : Option Addr} {sl21 : Array (Option Value)} {oc21 kV21 dc21 pm21 cd21 ct21 : Value}
    (a21 : PySem.W.nsIn K mainGlobals "_law_source_of" = some (some (.ref f21))) (l21 : K.lookup f21 = some ⟨oc21, od21, .func (PySem.W.fnOf "_law_source_of" "_law_source_of" (defArgs s__law_source_of) (defBody s__law_source_of) (defScope s__law_source_of) (.none) kV21 dc21 pm21 an21 cd21 ct21), sl21⟩) (c21 : PySem.W.codeIn K cd21 "_law_source_of" = true) (k21 : PySem.W.keepIn K (.ref f21) = true)
    {f22 : Addr} {od22 an22 : Option Addr} {sl22 : Array (Option Value)} {oc22 kV22 dc22 pm22 cd22 ct22 : Value}
    (a22 : PySem.W.nsIn K mainGlobals "_law_next" = some (some (.ref f22))) (l22 : K.lookup f22 = some ⟨oc22, od22, .func (PySem.W.fnOf "_law_next" "_law_next" (defArgs s__law_next) (defBody s__law_next) (defScope s__law_next) (.none) kV22 dc22 pm22 an22 cd22 ct22), sl22⟩) (c22 : PySem.W.codeIn K cd22 "_law_next" = true) (k22 : PySem.W.keepIn K (.ref f22) = true)
    {f23 : Addr} {od23 an23 : Option Addr} {sl23 : Array (Option Value)} {oc23 kV23 dc23 pm23 cd23 ct23 : Value}
    (a23 : PySem.W.nsIn K mainGlobals "_law_one" = some (some (.ref f23))) (l23 : K.lookup f23 = some ⟨oc23, od23, .func (PySem.W.fnOf "_law_one" "_law_one" (defArgs s__law_one) (defBody s__law_one) (defScope s__law_one) (.none) kV23 dc23 pm23 an23 cd23 ct23), sl23⟩) (c23 : PySem.W.codeIn K cd23 "_law_one" = true) (k23 : PySem.W.keepIn K (.ref f23) = true)
    {f24 : Addr} {od24 an24 : Option Addr} {sl24 : Array (Option Value)} {oc24 kV24 dc24 pm24 cd24 ct24 : Value}
    (a24 : PySem.W.nsIn K mainGlobals "_law_cell_at" = some (some (.ref f24))) (l24 : K.lookup f24 = some ⟨oc24, od24, .func (PySem.W.fnOf "_law_cell_at" "_law_cell_at" (defArgs s__law_cell_at) (defBody s__law_cell_at) (defScope s__law_cell_at) (.none) kV24 dc24 pm24 an24 cd24 ct24), sl24⟩) (c24 : PySem.W.codeIn K cd24 "_law_cell_at" = true) (k24 : PySem.W.keepIn K (.ref f24) = true)
    {f25 : Addr} {od25 an25 : Option Addr} {sl25 : Array (Option Value)} {oc25 kV25 dc25 pm25 cd25 ct25 : Value}
    (a25 : PySem.W.nsIn K mainGlobals "_law_mixed" = some (some (.ref f25))) (l25 : K.lookup f25 = some ⟨oc25, od25, .func (PySem.W.fnOf "_law_mixed" "_law_mixed" (defArgs s__law_mixed) (defBody s__law_mixed) (defScope s__law_mixed) (.none) kV25 dc25 pm25 an25 cd25 ct25), sl25⟩) (c25 : PySem.W.codeIn K cd25 "_law_mixed" = true) (k25 : PySem.W.keepIn K (.ref f25) = true)
    {f26 : Addr} {od26 an26 : Option Addr} {sl26 : Array (Option Value)} {oc26 kV26 dc26 pm26 cd26 ct26 : Value}
    (a26 : PySem.W.nsIn K mainGlobals "_law_ends" = some (some (.ref f26))) (l26 : K.lookup f26 = some ⟨oc26, od26, .func (PySem.W.fnOf "_law_ends" "_law_ends" (defArgs s__law_ends) (defBody s__law_ends) (defScope s__law_ends) (.none) kV26 dc26 pm26 an26 cd26 ct26), sl26⟩) (c26 : PySem.W.codeIn K cd26 "_law_ends" = true) (k26 : PySem.W.keepIn K (.ref f26) = true)
    {f27 : Addr} {od27 an27 : Option Addr} {sl27 : Array (Option Value)} {oc27 kV27 dc27 pm27 cd27 ct27 : Value}
    (a27 : PySem.W.nsIn K mainGlobals "_law_net" = some (some (.ref f27))) (l27 : K.lookup f27 = some ⟨oc27, od27, .func (PySem.W.fnOf "_law_net" "_law_net" (defArgs s__law_net) (defBody s__law_net) (defScope s__law_net) (.none) kV27 dc27 pm27 an27 cd27 ct27), sl27⟩) (c27 : PySem.W.codeIn K cd27 "_law_net" = true) (k27 : PySem.W.keepIn K (.ref f27) = true)
    {f28 : Addr} {od28 an28 : Option Addr} {sl28 : Array (Option Value)} {oc28 kV28 dc28 pm28 cd28 ct28 : Value}
    (a28 : PySem.W.nsIn K mainGlobals "_law_net_drawn" = some (some (.ref f28))) (l28 : K.lookup f28 = some ⟨oc28, od28, .func (PySem.W.fnOf "_law_net_drawn" "_law_net_drawn" (defArgs s__law_net_drawn) (defBody s__law_net_drawn) (defScope s__law_net_drawn) (.none) kV28 dc28 pm28 an28 cd28 ct28), sl28⟩) (c28 : PySem.W.codeIn K cd28 "_law_net_drawn" = true) (k28 : PySem.W.keepIn K (.ref f28) = true)
    {f29 : Addr} {od29 an29 : Option Addr} {sl29 : Array (Option Value)} {oc29 kV29 dc29 pm29 cd29 ct29 : Value}
    (a29 : PySem.W.nsIn K mainGlobals "_law_stretches" = some (some (.ref f29))) (l29 : K.lookup f29 = some ⟨oc29, od29, .func (PySem.W.fnOf "_law_stretches" "_law_stretches" (defArgs s__law_stretches) (defBody s__law_stretches) (defScope s__law_stretches) (.none) kV29 dc29 pm29 an29 cd29 ct29), sl29⟩) (c29 : PySem.W.codeIn K cd29 "_law_stretches" = true) (k29 : PySem.W.keepIn K (.ref f29) = true)
    {f30 : Addr} {od30 an30 : Option Addr} {sl30 : Array (Option Value)} {oc30 kV30 dc30 pm30 cd30 ct30 : Value}
    (a30 : PySem.W.nsIn K mainGlobals "_law_swung" = some (some (.ref f30))) (l30 : K.lookup f30 = some ⟨oc30, od30, .func (PySem.W.fnOf "_law_swung" "_law_swung" (defArgs s__law_swung) (defBody s__law_swung) (defScope s__law_swung) (.none) kV30 dc30 pm30 an30 cd30 ct30), sl30⟩) (c30 : PySem.W.codeIn K cd30 "_law_swung" = true) (k30 : PySem.W.keepIn K (.ref f30) = true)
    {f31 : Addr} {od31 an31 : Option Addr} {sl31 : Array (Option Value)} {oc31 kV31 dc31 pm31 cd31 ct31 : Value}
    (a31 : PySem.W.nsIn K mainGlobals "_law_table" = some (some (.ref f31))) (l31 : K.lookup f31 = some ⟨oc31, od31, .func (PySem.W.fnOf "_law_table" "_law_table" (defArgs s__law_table) (defBody s__law_table) (defScope s__law_table) (.none) kV31 dc31 pm31 an31 cd31 ct31), sl31⟩) (c31 : PySem.W.codeIn K cd31 "_law_table" = true) (k31 : PySem.W.keepIn K (.ref f31) = true)
    {f32 : Addr} {od32 an32 : Option Addr} {sl32 : Array (Option Value)} {oc32 kV32 dc32 pm32 cd32 ct32 : Value}
    (a32 : PySem.W.nsIn K mainGlobals "_law_divisor" = some (some (.ref f32))) (l32 : K.lookup f32 = some ⟨oc32, od32, .func (PySem.W.fnOf "_law_divisor" "_law_divisor" (defArgs s__law_divisor) (defBody s__law_divisor) (defScope s__law_divisor) (.none) kV32 dc32 pm32 an32 cd32 ct32), sl32⟩) (c32 : PySem.W.codeIn K cd32 "_law_divisor" = true) (k32 : PySem.W.keepIn K (.ref f32) = true)
    {f33 : Addr} {od33 an33 : Option Addr} {sl33 : Array (Option Value)} {oc33 kV33 dc33 pm33 cd33 ct33 : Value}
    (a33 : PySem.W.nsIn K mainGlobals "_law_lowest" = some (some (.ref f33))) (l33 : K.lookup f33 = some ⟨oc33, od33, .func (PySem.W.fnOf "_law_lowest" "_law_lowest" (defArgs s__law_lowest) (defBody s__law_lowest) (defScope s__law_lowest) (.none) kV33 dc33 pm33 an33 cd33 ct33), sl33⟩) (c33 : PySem.W.codeIn K cd33 "_law_lowest" = true) (k33 : PySem.W.keepIn K (.ref f33) = true)
    {f34 : Addr} {od34 an34 : Option Addr} {sl34 : Array (Option Value)} {oc34 kV34 dc34 pm34 cd34 ct34 : Value}
    (a34 : PySem.W.nsIn K mainGlobals "_law_common" = some (some (.ref f34))) (l34 : K.lookup f34 = some ⟨oc34, od34, .func (PySem.W.fnOf "_law_common" "_law_common" (defArgs s__law_common) (defBody s__law_common) (defScope s__law_common) (.none) kV34 dc34 pm34 an34 cd34 ct34), sl34⟩) (c34 : PySem.W.codeIn K cd34 "_law_common" = true) (k34 : PySem.W.keepIn K (.ref f34) = true)
    {f35 : Addr} {od35 an35 : Option Addr} {sl35 : Array (Option Value)} {oc35 kV35 dc35 pm35 cd35 ct35 : Value}
    (a35 : PySem.W.nsIn K mainGlobals "_law_is_number" = some (some (.ref f35))) (l35 : K.lookup f35 = some ⟨oc35, od35, .func (PySem.W.fnOf "_law_is_number" "_law_is_number" (defArgs s__law_is_number) (defBody s__law_is_number) (defScope s__law_is_number) (.none) kV35 dc35 pm35 an35 cd35 ct35), sl35⟩) (c35 : PySem.W.codeIn K cd35 "_law_is_number" = true) (k35 : PySem.W.keepIn K (.ref f35) = true)
    {f36 : Addr} {od36 an36 : Option Addr} {sl36 : Array (Option Value)} {oc36 kV36 dc36 pm36 cd36 ct36 : Value}
    (a36 : PySem.W.nsIn K mainGlobals "_law_sums" = some (some (.ref f36))) (l36 : K.lookup f36 = some ⟨oc36, od36, .func (PySem.W.fnOf "_law_sums" "_law_sums" (defArgs s__law_sums) (defBody s__law_sums) (defScope s__law_sums) (.none) kV36 dc36 pm36 an36 cd36 ct36), sl36⟩) (c36 : PySem.W.codeIn K cd36 "_law_sums" = true) (k36 : PySem.W.keepIn K (.ref f36) = true)
    {f37 : Addr} {od37 an37 : Option Addr} {sl37 : Array (Option Value)} {oc37 kV37 dc37 pm37 cd37 ct37 : Value}
    (a37 : PySem.W.nsIn K mainGlobals "_law_floor" = some (some (.ref f37))) (l37 : K.lookup f37 = some ⟨oc37, od37, .func (PySem.W.fnOf "_law_floor" "_law_floor" (defArgs s__law_floor) (defBody s__law_floor) (defScope s__law_floor) (.none) kV37 dc37 pm37 an37 cd37 ct37), sl37⟩) (c37 : PySem.W.codeIn K cd37 "_law_floor" = true) (k37 : PySem.W.keepIn K (.ref f37) = true)
    {f38 : Addr} {od38 an38 : Option Addr} {sl38 : Array (Option Value)} {oc38 kV38 dc38 pm38 cd38 ct38 : Value}
    (a38 : PySem.W.nsIn K mainGlobals "_law_ceiling" = some (some (.ref f38))) (l38 : K.lookup f38 = some ⟨oc38, od38, .func (PySem.W.fnOf "_law_ceiling" "_law_ceiling" (defArgs s__law_ceiling) (defBody s__law_ceiling) (defScope s__law_ceiling) (.none) kV38 dc38 pm38 an38 cd38 ct38), sl38⟩) (c38 : PySem.W.codeIn K cd38 "_law_ceiling" = true) (k38 : PySem.W.keepIn K (.ref f38) = true)
    {f39 : Addr} {od39 an39 : Option Addr} {sl39 : Array (Option Value)} {oc39 kV39 dc39 pm39 cd39 ct39 : Value}
    (a39 : PySem.W.nsIn K mainGlobals "_law_signed_xs" = some (some (.ref f39))) (l39 : K.lookup f39 = some ⟨oc39, od39, .func (PySem.W.fnOf "_law_signed_xs" "_law_signed_xs" (defArgs s__law_signed_xs) (defBody s__law_signed_xs) (defScope s__law_signed_xs) (.none) kV39 dc39 pm39 an39 cd39 ct39), sl39⟩) (c39 : PySem.W.codeIn K cd39 "_law_signed_xs" = true) (k39 : PySem.W.keepIn K (.ref f39) = true)
    {f40 : Addr} {od40 an40 : Option Addr} {sl40 : Array (Option Value)} {oc40 kV40 dc40 pm40 cd40 ct40 : Value}
    (a40 : PySem.W.nsIn K mainGlobals "_law_lists" = some (some (.ref f40))) (l40 : K.lookup f40 = some ⟨oc40, od40, .func (PySem.W.fnOf "_law_lists" "_law_lists" (defArgs s__law_lists) (defBody s__law_lists) (defScope s__law_lists) (.none) kV40 dc40 pm40 an40 cd40 ct40), sl40⟩) (c40 : PySem.W.codeIn K cd40 "_law_lists" = true) (k40 : PySem.W.keepIn K (.ref f40) = true)
    {f41 : Addr} {od41 an41 : Option Addr} {sl41 : Array (Option Value)} {oc41 kV41 dc41 pm41 cd41 ct41 : Value}
    (a41 : PySem.W.nsIn K mainGlobals "_law_whole_sums" = some (some (.ref f41))) (l41 : K.lookup f41 = some ⟨oc41, od41, .func (PySem.W.fnOf "_law_whole_sums" "_law_whole_sums" (defArgs s__law_whole_sums) (defBody s__law_whole_sums) (defScope s__law_whole_sums) (.none) kV41 dc41 pm41 an41 cd41 ct41), sl41⟩) (c41 : PySem.W.codeIn K cd41 "_law_whole_sums" = true) (k41 : PySem.W.keepIn K (.ref f41) = true)
    {f42 : Addr} {od42 an42 : Option Addr} {sl42 : Array (Option Value)} {oc42 kV42 dc42 pm42 cd42 ct42 : Value}
    (a42 : PySem.W.nsIn K mainGlobals "_law_rounds" = some (some (.ref f42))) (l42 : K.lookup f42 = some ⟨oc42, od42, .func (PySem.W.fnOf "_law_rounds" "_law_rounds" (defArgs s__law_rounds) (defBody s__law_rounds) (defScope s__law_rounds) (.none) kV42 dc42 pm42 an42 cd42 ct42), sl42⟩) (c42 : PySem.W.codeIn K cd42 "_law_rounds" = true) (k42 : PySem.W.keepIn K (.ref f42) = true)
    {f43 : Addr} {od43 an43 : Option Addr} {sl43 : Array (Option Value)} {oc43 kV43 dc43 pm43 cd43 ct43 : Value}
    (a43 : PySem.W.nsIn K mainGlobals "_law_are_wholes" = some (some (.ref f43))) (l43 : K.lookup f43 = some ⟨oc43, od43, .func (PySem.W.fnOf "_law_are_wholes" "_law_are_wholes" (defArgs s__law_are_wholes) (defBody s__law_are_wholes) (defScope s__law_are_wholes) (.none) kV43 dc43 pm43 an43 cd43 ct43), sl43⟩) (c43 : PySem.W.codeIn K cd43 "_law_are_wholes" = true) (k43 : PySem.W.keepIn K (.ref f43) = true)
    {f44 : Addr} {od44 an44 : Option Addr} {sl44 : Array (Option Value)} {oc44 kV44 dc44 pm44 cd44 ct44 : Value}
    (a44 : PySem.W.nsIn K mainGlobals "law" = some (some (.ref f44))) (l44 : K.lookup f44 = some ⟨oc44, od44, .func (PySem.W.fnOf "law" "law" (defArgs s_law) (defBody s_law) (defScope s_law) (.none) kV44 dc44 pm44 an44 cd44 ct44), sl44⟩) (c44 : PySem.W.codeIn K cd44 "law" = true) (k44 : PySem.W.keepIn K (.ref f44) = true)
    (z_abs : PySem.W.nsIn K mainGlobals "abs" = some none)
    (z_all : PySem.W.nsIn K mainGlobals "all" = some none)
    (z_bool : PySem.W.nsIn K mainGlobals "bool" = some none)
    (z_enumerate : PySem.W.nsIn K mainGlobals "enumerate" = some none)
    (z_int : PySem.W.nsIn K mainGlobals "int" = some none)
    (z_isinstance : PySem.W.nsIn K mainGlobals "isinstance" = some none)
    (z_len : PySem.W.nsIn K mainGlobals "len" = some none)
    (z_list : PySem.W.nsIn K mainGlobals "list" = some none)
    (z_range : PySem.W.nsIn K mainGlobals "range" = some none)
    (z_repr : PySem.W.nsIn K mainGlobals "repr" = some none)
    (z_sum : PySem.W.nsIn K mainGlobals "sum" = some none)
    (z_tuple : PySem.W.nsIn K mainGlobals "tuple" = some none)
    (z_zip : PySem.W.nsIn K mainGlobals "zip" = some none)
    (y_gcd : PySem.W.nsIn K mainGlobals "gcd" = some (some (.builtin "math.gcd")))
    {tk_MOST : Tok} (x_MOST : PySem.W.nsIn K mainGlobals "MOST" = some (some (.int 8 tk_MOST)))
    : ∀ (a : Addr) (s : Shared) (ns : List Int), ns.length ≤ 63 → Own.Asked P w K mg fa a ns s := by
  have e := hfa.symm.trans (PySem.W.mg_of X G a44)
  cases e
  have F1 := fun_mk (st := s_is_whole) l1 c1 k1
  have b1 := F1.binds (ps := ["thing"]) fun _ _ _ _ _ _ us hl => match us, hl with | [_], _ => rfl
  have F2 := fun_mk (st := s_is_fraction) l2 c2 k2
  have b2 := F2.binds (ps := ["thing"]) fun _ _ _ _ _ _ us hl => match us, hl with | [_], _ => rfl
  have F3 : FunD K "fraction" "fraction" (defArgs s_fraction) (defBody s_fraction) (defScope s_fraction) [.int 1] [] f3 _ := ⟨⟨oc3, od3, .ref T3, kV3, dc3, pm3, an3, cd3, ct3, sl3, rfl, l3, c3, .inr ⟨by simp, T3, oT3, its3, nT3, rfl, t3, u3, v3.2⟩, .inl rfl⟩, k3⟩
  obtain ⟨ds3_1, bd3_1⟩ := F3.binds1 (ps := ["top", "bottom"]) 1 0 (by simp) rfl (fun _ _ _ _ _ _ _ us its hl hi => match us, hl, its, hi with | [_], _, [_], _ => ⟨_, rfl, by with_unfolding_all rfl⟩)
  obtain ⟨ds3_2, bd3_2⟩ := F3.binds1 (ps := ["top", "bottom"]) 2 1 (by simp) rfl (fun _ _ _ _ _ _ _ us its hl hi => match us, hl, its, hi with | [_, _], _, [_], _ => ⟨_, rfl, by with_unfolding_all rfl⟩)
  have e3 : ds3_2 = [] := by cases bd3_2.1; rfl
  have b3 := bd3_2.2
  rw [e3] at b3
  have F4 := fun_mk (st := s_plus) l4 c4 k4
  have b4 := F4.binds (ps := ["one", "other"]) fun _ _ _ _ _ _ us hl => match us, hl with | [_, _], _ => rfl
  have F5 := fun_mk (st := s_times) l5 c5 k5
  have b5 := F5.binds (ps := ["one", "other"]) fun _ _ _ _ _ _ us hl => match us, hl with | [_, _], _ => rfl
  have F6 := fun_mk (st := s_floor_of) l6 c6 k6
  have b6 := F6.binds (ps := ["value"]) fun _ _ _ _ _ _ us hl => match us, hl with | [_], _ => rfl
  have F7 := fun_mk (st := s_ceiling_of) l7 c7 k7
  have b7 := F7.binds (ps := ["value"]) fun _ _ _ _ _ _ us hl => match us, hl with | [_], _ => rfl
  have F8 := fun_mk (st := s_is_long) l8 c8 k8
  have b8 := F8.binds (ps := ["thing", "many"]) fun _ _ _ _ _ _ us hl => match us, hl with | [_, _], _ => rfl
  have F9 := fun_mk (st := s_is_fractions) l9 c9 k9
  have b9 := F9.binds (ps := ["thing", "many"]) fun _ _ _ _ _ _ us hl => match us, hl with | [_, _], _ => rfl
  have F10 := fun_mk (st := s_check_fractions) l10 c10 k10
  have b10 := F10.binds (ps := ["thing", "many", "word"]) fun _ _ _ _ _ _ us hl => match us, hl with | [_, _, _], _ => rfl
  have F11 := fun_mk (st := s_all_lists) l11 c11 k11
  have b11 := F11.binds (ps := ["choices"]) fun _ _ _ _ _ _ us hl => match us, hl with | [_], _ => rfl
  have F12 := fun_mk (st := s_is_table) l12 c12 k12
  have b12 := F12.binds (ps := ["thing"]) fun _ _ _ _ _ _ us hl => match us, hl with | [_], _ => rfl
  have F13 := fun_mk (st := s_is_row) l13 c13 k13
  have b13 := F13.binds (ps := ["thing"]) fun _ _ _ _ _ _ us hl => match us, hl with | [_], _ => rfl
  have F14 := fun_mk (st := s_check_table) l14 c14 k14
  have b14 := F14.binds (ps := ["thing"]) fun _ _ _ _ _ _ us hl => match us, hl with | [_], _ => rfl
  have F15 := fun_mk (st := s_led) l15 c15 k15
  have b15 := F15.binds (ps := ["table", "xs"]) fun _ _ _ _ _ _ us hl => match us, hl with | [_, _], _ => rfl
  have F16 := fun_mk (st := s_row_sum) l16 c16 k16
  have b16 := F16.binds (ps := ["row", "xs"]) fun _ _ _ _ _ _ us hl => match us, hl with | [_, _], _ => rfl
  have F17 := fun_mk (st := s_row_totals) l17 c17 k17
  have b17 := F17.binds (ps := ["table", "numbers"]) fun _ _ _ _ _ _ us hl => match us, hl with | [_, _], _ => rfl
  have F18 := fun_mk (st := s_rounded) l18 c18 k18
  have b18 := F18.binds (ps := ["table", "xs"]) fun _ _ _ _ _ _ us hl => match us, hl with | [_, _], _ => rfl
  have F19 := fun_mk (st := s_all_rounded) l19 c19 k19
  have b19 := F19.binds (ps := ["xs"]) fun _ _ _ _ _ _ us hl => match us, hl with | [_], _ => rfl
  have F20 := fun_mk (st := s_is_between) l20 c20 k20
  have b20 := F20.binds (ps := ["table", "whole", "ends"]) fun _ _ _ _ _ _ us hl => match us, hl with | [_, _, _], _ => rfl
  have F21 := fun_mk (st := s__law_source_of) l21 c21 k21
  have b21 := F21.binds (ps := ["_law_cell"]) fun _ _ _ _ _ _ us hl => match us, hl with | [_], _ => rfl
  have F22 := fun_mk (st := s__law_next) l22 c22 k22
  have b22 := F22.binds (ps := ["_law_source", "_law_many"]) fun _ _ _ _ _ _ us hl => match us, hl with | [_, _], _ => rfl
  have F23 := fun_mk (st := s__law_one) l23 c23 k23
  have b23 := F23.binds (ps := ["_law_source", "_law_some"]) fun _ _ _ _ _ _ us hl => match us, hl with | [_, _], _ => rfl
  have F24 := fun_mk (st := s__law_cell_at) l24 c24 k24
  have b24 := F24.binds (ps := ["_law_script", "_law_k"]) fun _ _ _ _ _ _ us hl => match us, hl with | [_, _], _ => rfl
  have F25 := fun_mk (st := s__law_mixed) l25 c25 k25
  have b25 := F25.binds (ps := ["_law_source", "_law_some"]) fun _ _ _ _ _ _ us hl => match us, hl with | [_, _], _ => rfl
  have F26 := fun_mk (st := s__law_ends) l26 c26 k26
  have b26 := F26.binds (ps := ["_law_source", "_law_many"]) fun _ _ _ _ _ _ us hl => match us, hl with | [_, _], _ => rfl
  have F27 := fun_mk (st := s__law_net) l27 c27 k27
  have b27 := F27.binds (ps := ["_law_ends_here", "_law_arcs"]) fun _ _ _ _ _ _ us hl => match us, hl with | [_, _], _ => rfl
  have F28 := fun_mk (st := s__law_net_drawn) l28 c28 k28
  have b28 := F28.binds (ps := ["_law_source", "_law_many", "_law_wide"]) fun _ _ _ _ _ _ us hl => match us, hl with | [_, _, _], _ => rfl
  have F29 := fun_mk (st := s__law_stretches) l29 c29 k29
  have b29 := F29.binds (ps := ["_law_source", "_law_many", "_law_wide"]) fun _ _ _ _ _ _ us hl => match us, hl with | [_, _, _], _ => rfl
  have F30 := fun_mk (st := s__law_swung) l30 c30 k30
  have b30 := F30.binds (ps := ["_law_source", "_law_table_here"]) fun _ _ _ _ _ _ us hl => match us, hl with | [_, _], _ => rfl
  have F31 := fun_mk (st := s__law_table) l31 c31 k31
  have b31 := F31.binds (ps := ["_law_source", "_law_most"]) fun _ _ _ _ _ _ us hl => match us, hl with | [_, _], _ => rfl
  have F32 := fun_mk (st := s__law_divisor) l32 c32 k32
  have b32 := F32.binds (ps := ["_law_one_here", "_law_other"]) fun _ _ _ _ _ _ us hl => match us, hl with | [_, _], _ => rfl
  have F33 := fun_mk (st := s__law_lowest) l33 c33 k33
  have b33 := F33.binds (ps := ["_law_top", "_law_bottom"]) fun _ _ _ _ _ _ us hl => match us, hl with | [_, _], _ => rfl
  have F34 := fun_mk (st := s__law_common) l34 c34 k34
  have b34 := F34.binds (ps := ["_law_xs"]) fun _ _ _ _ _ _ us hl => match us, hl with | [_], _ => rfl
  have F35 := fun_mk (st := s__law_is_number) l35 c35 k35
  have b35 := F35.binds (ps := ["_law_thing"]) fun _ _ _ _ _ _ us hl => match us, hl with | [_], _ => rfl
  have F36 := fun_mk (st := s__law_sums) l36 c36 k36
  have b36 := F36.binds (ps := ["_law_rows", "_law_xs"]) fun _ _ _ _ _ _ us hl => match us, hl with | [_, _], _ => rfl
  have F37 := fun_mk (st := s__law_floor) l37 c37 k37
  have b37 := F37.binds (ps := ["_law_one_here"]) fun _ _ _ _ _ _ us hl => match us, hl with | [_], _ => rfl
  have F38 := fun_mk (st := s__law_ceiling) l38 c38 k38
  have b38 := F38.binds (ps := ["_law_one_here"]) fun _ _ _ _ _ _ us hl => match us, hl with | [_], _ => rfl
  have F39 := fun_mk (st := s__law_signed_xs) l39 c39 k39
  have b39 := F39.binds (ps := ["_law_source", "_law_many"]) fun _ _ _ _ _ _ us hl => match us, hl with | [_, _], _ => rfl
  have F40 := fun_mk (st := s__law_lists) l40 c40 k40
  have b40 := F40.binds (ps := ["_law_lows", "_law_highs"]) fun _ _ _ _ _ _ us hl => match us, hl with | [_, _], _ => rfl
  have F41 := fun_mk (st := s__law_whole_sums) l41 c41 k41
  have b41 := F41.binds (ps := ["_law_table_here", "_law_xs"]) fun _ _ _ _ _ _ us hl => match us, hl with | [_, _], _ => rfl
  have F42 := fun_mk (st := s__law_rounds) l42 c42 k42
  have b42 := F42.binds (ps := ["_law_table_here", "_law_xs", "_law_zs"]) fun _ _ _ _ _ _ us hl => match us, hl with | [_, _, _], _ => rfl
  have F43 := fun_mk (st := s__law_are_wholes) l43 c43 k43
  have b43 := F43.binds (ps := ["_law_thing", "_law_many"]) fun _ _ _ _ _ _ us hl => match us, hl with | [_, _], _ => rfl
  have F44 := fun_mk (st := s_law) l44 c44 k44
  have b44 := F44.binds (ps := ["_law_script"]) fun _ _ _ _ _ _ us hl => match us, hl with | [_], _ => rfl
  let T : Txt K mg := {
    f_is_whole := f1, fd_is_whole := _, F_is_whole := F1, g_is_whole := PySem.W.mg_of X G a1, k_is_whole := k1, b_is_whole := b1,
    f_is_fraction := f2, fd_is_fraction := _, F_is_fraction := F2, g_is_fraction := PySem.W.mg_of X G a2, k_is_fraction := k2, b_is_fraction := b2,
    f_fraction := f3, fd_fraction := _, F_fraction := F3, g_fraction := PySem.W.mg_of X G a3, k_fraction := k3, b_fraction := b3, d_fraction_1 := ds3_1, b_fraction_1 := bd3_1,
    f_plus := f4, fd_plus := _, F_plus := F4, g_plus := PySem.W.mg_of X G a4, k_plus := k4, b_plus := b4,
    f_times := f5, fd_times := _, F_times := F5, g_times := PySem.W.mg_of X G a5, k_times := k5, b_times := b5,
    f_floor_of := f6, fd_floor_of := _, F_floor_of := F6, g_floor_of := PySem.W.mg_of X G a6, k_floor_of := k6, b_floor_of := b6,
    f_ceiling_of := f7, fd_ceiling_of := _, F_ceiling_of := F7, g_ceiling_of := PySem.W.mg_of X G a7, k_ceiling_of := k7, b_ceiling_of := b7,
    f_is_long := f8, fd_is_long := _, F_is_long := F8, g_is_long := PySem.W.mg_of X G a8, k_is_long := k8, b_is_long := b8,
    f_is_fractions := f9, fd_is_fractions := _, F_is_fractions := F9, g_is_fractions := PySem.W.mg_of X G a9, k_is_fractions := k9, b_is_fractions := b9,
    f_check_fractions := f10, fd_check_fractions := _, F_check_fractions := F10, g_check_fractions := PySem.W.mg_of X G a10, k_check_fractions := k10, b_check_fractions := b10,
    f_all_lists := f11, fd_all_lists := _, F_all_lists := F11, g_all_lists := PySem.W.mg_of X G a11, k_all_lists := k11, b_all_lists := b11,
    f_is_table := f12, fd_is_table := _, F_is_table := F12, g_is_table := PySem.W.mg_of X G a12, k_is_table := k12, b_is_table := b12,
    f_is_row := f13, fd_is_row := _, F_is_row := F13, g_is_row := PySem.W.mg_of X G a13, k_is_row := k13, b_is_row := b13,
    f_check_table := f14, fd_check_table := _, F_check_table := F14, g_check_table := PySem.W.mg_of X G a14, k_check_table := k14, b_check_table := b14,
    f_led := f15, fd_led := _, F_led := F15, g_led := PySem.W.mg_of X G a15, k_led := k15, b_led := b15,
    f_row_sum := f16, fd_row_sum := _, F_row_sum := F16, g_row_sum := PySem.W.mg_of X G a16, k_row_sum := k16, b_row_sum := b16,
    f_row_totals := f17, fd_row_totals := _, F_row_totals := F17, g_row_totals := PySem.W.mg_of X G a17, k_row_totals := k17, b_row_totals := b17,
    f_rounded := f18, fd_rounded := _, F_rounded := F18, g_rounded := PySem.W.mg_of X G a18, k_rounded := k18, b_rounded := b18,
    f_all_rounded := f19, fd_all_rounded := _, F_all_rounded := F19, g_all_rounded := PySem.W.mg_of X G a19, k_all_rounded := k19, b_all_rounded := b19,
    f_is_between := f20, fd_is_between := _, F_is_between := F20, g_is_between := PySem.W.mg_of X G a20, k_is_between := k20, b_is_between := b20,
    f__law_source_of := f21, fd__law_source_of := _, F__law_source_of := F21, g__law_source_of := PySem.W.mg_of X G a21, k__law_source_of := k21, b__law_source_of := b21,
    f__law_next := f22, fd__law_next := _, F__law_next := F22, g__law_next := PySem.W.mg_of X G a22, k__law_next := k22, b__law_next := b22,
    f__law_one := f23, fd__law_one := _, F__law_one := F23, g__law_one := PySem.W.mg_of X G a23, k__law_one := k23, b__law_one := b23,
    f__law_cell_at := f24, fd__law_cell_at := _, F__law_cell_at := F24, g__law_cell_at := PySem.W.mg_of X G a24, k__law_cell_at := k24, b__law_cell_at := b24,
    f__law_mixed := f25, fd__law_mixed := _, F__law_mixed := F25, g__law_mixed := PySem.W.mg_of X G a25, k__law_mixed := k25, b__law_mixed := b25,
    f__law_ends := f26, fd__law_ends := _, F__law_ends := F26, g__law_ends := PySem.W.mg_of X G a26, k__law_ends := k26, b__law_ends := b26,
    f__law_net := f27, fd__law_net := _, F__law_net := F27, g__law_net := PySem.W.mg_of X G a27, k__law_net := k27, b__law_net := b27,
    f__law_net_drawn := f28, fd__law_net_drawn := _, F__law_net_drawn := F28, g__law_net_drawn := PySem.W.mg_of X G a28, k__law_net_drawn := k28, b__law_net_drawn := b28,
    f__law_stretches := f29, fd__law_stretches := _, F__law_stretches := F29, g__law_stretches := PySem.W.mg_of X G a29, k__law_stretches := k29, b__law_stretches := b29,
    f__law_swung := f30, fd__law_swung := _, F__law_swung := F30, g__law_swung := PySem.W.mg_of X G a30, k__law_swung := k30, b__law_swung := b30,
    f__law_table := f31, fd__law_table := _, F__law_table := F31, g__law_table := PySem.W.mg_of X G a31, k__law_table := k31, b__law_table := b31,
    f__law_divisor := f32, fd__law_divisor := _, F__law_divisor := F32, g__law_divisor := PySem.W.mg_of X G a32, k__law_divisor := k32, b__law_divisor := b32,
    f__law_lowest := f33, fd__law_lowest := _, F__law_lowest := F33, g__law_lowest := PySem.W.mg_of X G a33, k__law_lowest := k33, b__law_lowest := b33,
    f__law_common := f34, fd__law_common := _, F__law_common := F34, g__law_common := PySem.W.mg_of X G a34, k__law_common := k34, b__law_common := b34,
    f__law_is_number := f35, fd__law_is_number := _, F__law_is_number := F35, g__law_is_number := PySem.W.mg_of X G a35, k__law_is_number := k35, b__law_is_number := b35,
    f__law_sums := f36, fd__law_sums := _, F__law_sums := F36, g__law_sums := PySem.W.mg_of X G a36, k__law_sums := k36, b__law_sums := b36,
    f__law_floor := f37, fd__law_floor := _, F__law_floor := F37, g__law_floor := PySem.W.mg_of X G a37, k__law_floor := k37, b__law_floor := b37,
    f__law_ceiling := f38, fd__law_ceiling := _, F__law_ceiling := F38, g__law_ceiling := PySem.W.mg_of X G a38, k__law_ceiling := k38, b__law_ceiling := b38,
    f__law_signed_xs := f39, fd__law_signed_xs := _, F__law_signed_xs := F39, g__law_signed_xs := PySem.W.mg_of X G a39, k__law_signed_xs := k39, b__law_signed_xs := b39,
    f__law_lists := f40, fd__law_lists := _, F__law_lists := F40, g__law_lists := PySem.W.mg_of X G a40, k__law_lists := k40, b__law_lists := b40,
    f__law_whole_sums := f41, fd__law_whole_sums := _, F__law_whole_sums := F41, g__law_whole_sums := PySem.W.mg_of X G a41, k__law_whole_sums := k41, b__law_whole_sums := b41,
    f__law_rounds := f42, fd__law_rounds := _, F__law_rounds := F42, g__law_rounds := PySem.W.mg_of X G a42, k__law_rounds := k42, b__law_rounds := b42,
    f__law_are_wholes := f43, fd__law_are_wholes := _, F__law_are_wholes := F43, g__law_are_wholes := PySem.W.mg_of X G a43, k__law_are_wholes := k43, b__law_are_wholes := b43,
    f_law := fa, fd_law := _, F_law := F44, g_law := PySem.W.mg_of X G a44, k_law := k44, b_law := b44,
    n_abs := PySem.W.mg_none_of X G z_abs,
    n_all := PySem.W.mg_none_of X G z_all,
    n_bool := PySem.W.mg_none_of X G z_bool,
    n_enumerate := PySem.W.mg_none_of X G z_enumerate,
    n_int := PySem.W.mg_none_of X G z_int,
    n_isinstance := PySem.W.mg_none_of X G z_isinstance,
    n_len := PySem.W.mg_none_of X G z_len,
    n_list := PySem.W.mg_none_of X G z_list,
    n_range := PySem.W.mg_none_of X G z_range,
    n_repr := PySem.W.mg_none_of X G z_repr,
    n_sum := PySem.W.mg_none_of X G z_sum,
    n_tuple := PySem.W.mg_none_of X G z_tuple,
    n_zip := PySem.W.mg_none_of X G z_zip,
    g_gcd := PySem.W.mg_of X G y_gcd,
    t_MOST := tk_MOST, g_MOST := PySem.W.mg_of X G x_MOST }
  exact fun a s ns hl root G inR gl env hS => run_law (base := root) T env ⟨a, ns, rfl, hS, hl, fun _ => rfl⟩
end SbE39
open PySem PySem.W PyProof.Rows
set_option maxRecDepth 100000 in
set_option maxHeartbeats 0 in
theorem PySem.Challenge.cw_signbook_k39_rounded_in_every_row_holds : PySem.Challenge.rw_signbook_k39_rounded_in_every_row.Holds := by
  w_on; o_law; k_head; (case hw => w_witness2)
  k_fill
  refine Own.walk_asked (l := PySem.Challenge.rw_signbook_k39_rounded_in_every_row) (n := 63) rfl (by decide) rfl (fun w h Y => PySem.W.kIn_of Y) ?F
  case F =>
    intro w mg fa a s ns KX G hmg hl
    refine' SbE39.all_mk KX G hmg ?a1 ?l1 ?c1 ?k1 ?a2 ?l2 ?c2 ?k2 ?a3 ?l3 ?c3 ?k3 ?t3 ?u3 ?v3 ?a4 ?l4 ?c4 ?k4 ?a5 ?l5 ?c5 ?k5 ?a6 ?l6 ?c6 ?k6 ?a7 ?l7 ?c7 ?k7 ?a8 ?l8 ?c8 ?k8 ?a9 ?l9 ?c9 ?k9 ?a10 ?l10 ?c10 ?k10 ?a11 ?l11 ?c11 ?k11 ?a12 ?l12 ?c12 ?k12 ?a13 ?l13 ?c13 ?k13 ?a14 ?l14 ?c14 ?k14 ?a15 ?l15 ?c15 ?k15 ?a16 ?l16 ?c16 ?k16 ?a17 ?l17 ?c17 ?k17 ?a18 ?l18 ?c18 ?k18 ?a19 ?l19 ?c19 ?k19 ?a20 ?l20 ?c20 ?k20 ?a21 ?l21 ?c21 ?k21 ?a22 ?l22 ?c22 ?k22 ?a23 ?l23 ?c23 ?k23 ?a24 ?l24 ?c24 ?k24 ?a25 ?l25 ?c25 ?k25 ?a26 ?l26 ?c26 ?k26 ?a27 ?l27 ?c27 ?k27 ?a28 ?l28 ?c28 ?k28 ?a29 ?l29 ?c29 ?k29 ?a30 ?l30 ?c30 ?k30 ?a31 ?l31 ?c31 ?k31 ?a32 ?l32 ?c32 ?k32 ?a33 ?l33 ?c33 ?k33 ?a34 ?l34 ?c34 ?k34 ?a35 ?l35 ?c35 ?k35 ?a36 ?l36 ?c36 ?k36 ?a37 ?l37 ?c37 ?k37 ?a38 ?l38 ?c38 ?k38 ?a39 ?l39 ?c39 ?k39 ?a40 ?l40 ?c40 ?k40 ?a41 ?l41 ?c41 ?k41 ?a42 ?l42 ?c42 ?k42 ?a43 ?l43 ?c43 ?k43 ?a44 ?l44 ?c44 ?k44 ?z_abs ?z_all ?z_bool ?z_enumerate ?z_int ?z_isinstance ?z_len ?z_list ?z_range ?z_repr ?z_sum ?z_tuple ?z_zip ?y_gcd ?x_MOST a s ns hl
    (case a1 => k_is)
    (case l1 => k_is)
    (case c1 => k_is)
    (case k1 => k_is)
    (case a2 => k_is)
    (case l2 => k_is)
    (case c2 => k_is)
    (case k2 => k_is)
    (case a3 => k_is)
    (case l3 => k_is)
    (case c3 => k_is)
    (case k3 => k_is)
    (case t3 => k_is)
    (case u3 => rfl)
    (case v3 => exact ⟨rfl, by repeat (first | exact .nil | refine .cons ⟨_, rfl⟩ ?_ | refine .cons rfl ?_)⟩)
    (case a4 => k_is)
    (case l4 => k_is)
    (case c4 => k_is)
    (case k4 => k_is)
    (case a5 => k_is)
    (case l5 => k_is)
    (case c5 => k_is)
    (case k5 => k_is)
    (case a6 => k_is)
    (case l6 => k_is)
    (case c6 => k_is)
    (case k6 => k_is)
    (case a7 => k_is)
    (case l7 => k_is)
    (case c7 => k_is)
    (case k7 => k_is)
    (case a8 => k_is)
    (case l8 => k_is)
    (case c8 => k_is)
    (case k8 => k_is)
    (case a9 => k_is)
    (case l9 => k_is)
    (case c9 => k_is)
    (case k9 => k_is)
    (case a10 => k_is)
    (case l10 => k_is)
    (case c10 => k_is)
    (case k10 => k_is)
    (case a11 => k_is)
    (case l11 => k_is)
    (case c11 => k_is)
    (case k11 => k_is)
    (case a12 => k_is)
    (case l12 => k_is)
    (case c12 => k_is)
    (case k12 => k_is)
    (case a13 => k_is)
    (case l13 => k_is)
    (case c13 => k_is)
    (case k13 => k_is)
    (case a14 => k_is)
    (case l14 => k_is)
    (case c14 => k_is)
    (case k14 => k_is)
    (case a15 => k_is)
    (case l15 => k_is)
    (case c15 => k_is)
    (case k15 => k_is)
    (case a16 => k_is)
    (case l16 => k_is)
    (case c16 => k_is)
    (case k16 => k_is)
    (case a17 => k_is)
    (case l17 => k_is)
    (case c17 => k_is)
    (case k17 => k_is)
    (case a18 => k_is)
    (case l18 => k_is)
    (case c18 => k_is)
    (case k18 => k_is)
    (case a19 => k_is)
    (case l19 => k_is)
    (case c19 => k_is)
    (case k19 => k_is)
    (case a20 => k_is)
    (case l20 => k_is)
    (case c20 => k_is)
    (case k20 => k_is)
    (case a21 => k_is)
    (case l21 => k_is)
    (case c21 => k_is)
    (case k21 => k_is)
    (case a22 => k_is)
    (case l22 => k_is)
    (case c22 => k_is)
    (case k22 => k_is)
    (case a23 => k_is)
    (case l23 => k_is)
    (case c23 => k_is)
    (case k23 => k_is)
    (case a24 => k_is)
    (case l24 => k_is)
    (case c24 => k_is)
    (case k24 => k_is)
    (case a25 => k_is)
    (case l25 => k_is)
    (case c25 => k_is)
    (case k25 => k_is)
    (case a26 => k_is)
    (case l26 => k_is)
    (case c26 => k_is)
    (case k26 => k_is)
    (case a27 => k_is)
    (case l27 => k_is)
    (case c27 => k_is)
    (case k27 => k_is)
    (case a28 => k_is)
    (case l28 => k_is)
    (case c28 => k_is)
    (case k28 => k_is)
    (case a29 => k_is)
    (case l29 => k_is)
    (case c29 => k_is)
    (case k29 => k_is)
    (case a30 => k_is)
    (case l30 => k_is)
    (case c30 => k_is)
    (case k30 => k_is)
    (case a31 => k_is)
    (case l31 => k_is)
    (case c31 => k_is)
    (case k31 => k_is)
    (case a32 => k_is)
    (case l32 => k_is)
    (case c32 => k_is)
    (case k32 => k_is)
    (case a33 => k_is)
    (case l33 => k_is)
    (case c33 => k_is)
    (case k33 => k_is)
    (case a34 => k_is)
    (case l34 => k_is)
    (case c34 => k_is)
    (case k34 => k_is)
    (case a35 => k_is)
    (case l35 => k_is)
    (case c35 => k_is)
    (case k35 => k_is)
    (case a36 => k_is)
    (case l36 => k_is)
    (case c36 => k_is)
    (case k36 => k_is)
    (case a37 => k_is)
    (case l37 => k_is)
    (case c37 => k_is)
    (case k37 => k_is)
    (case a38 => k_is)
    (case l38 => k_is)
    (case c38 => k_is)
    (case k38 => k_is)
    (case a39 => k_is)
    (case l39 => k_is)
    (case c39 => k_is)
    (case k39 => k_is)
    (case a40 => k_is)
    (case l40 => k_is)
    (case c40 => k_is)
    (case k40 => k_is)
    (case a41 => k_is)
    (case l41 => k_is)
    (case c41 => k_is)
    (case k41 => k_is)
    (case a42 => k_is)
    (case l42 => k_is)
    (case c42 => k_is)
    (case k42 => k_is)
    (case a43 => k_is)
    (case l43 => k_is)
    (case c43 => k_is)
    (case k43 => k_is)
    (case a44 => k_is)
    (case l44 => k_is)
    (case c44 => k_is)
    (case k44 => k_is)
    (case z_abs => k_is)
    (case z_all => k_is)
    (case z_bool => k_is)
    (case z_enumerate => k_is)
    (case z_int => k_is)
    (case z_isinstance => k_is)
    (case z_len => k_is)
    (case z_list => k_is)
    (case z_range => k_is)
    (case z_repr => k_is)
    (case z_sum => k_is)
    (case z_tuple => k_is)
    (case z_zip => k_is)
    (case y_gcd => k_is)
    (case x_MOST => k_is)
