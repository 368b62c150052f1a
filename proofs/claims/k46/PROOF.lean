import PyProof.Rows.All
import Wide.All
import OpenK.AllK
import Wide.FinOn
import PyProof.EqAt
import PyProof.EqKinds
import PyProof.TupleCall
import HandS.ForMost
import HandS.Evl
import HandS.Wide
import HandS.Gcd
import HandS.IsInst
import HandS.Defaults
import HandS.Zip
import HandS.Conv
import HandS.Style
import HandS.TryOnly
import PyProof.ReprRoads
import HandS.Lambda
import HandS.Ends
import HandS.Words
import HandS.Flow
import HandS.List
import PyProof.LongRange
import PyProof.ListRange
import PyProof.ReprLen
import PyProof.CallFns
import HandS.ListItems
import HandS.SortInts
import KE.KExcInit
import KE.KIsAll
import KE.KTryMore
import HandS.ForExc
import HandS.ExcInit
import HandS.ExcIs
import HandS.ExcField
import HandS.FStr
import HandS.ClsMeth
import HandS.Head0
import HandS.Head1
import HandS.Head2
import HandS.HeadEnd
import HandS.HeadHook1
import HandS.HeadHook2
import HandS.HeadHook3
import HandS.HeadHook4
import HandS.HeadWalk
import KE.KStateDown
import HandS.Head3
import PyProof.ZipIter
import HandS.RevRange
import HandS.SortKw
import KE.KSortKey
import KE.SortKeyHeap
import KE.DataMinKey
import KE.DataMinMax
import HandS.FStrTup
import PyProof.ReprHeads
import PyProof.ReprLoop
import HandS.Dict
import KE.KeyNested
import KE.KDictDisplayH
import PyProof.DictRoadsH
import PyProof.DictMoreH
import HandS.Nested
import HandS.TupAny
import HandS.Iter
import KE.GoesEnum
import KE.GoesMore
import PyProof.Draws
import PyProof.MinMaxWalk
import PySem.Challenge.RW_signbook_k46_how_far_signs_are_out
set_option Elab.async false
set_option linter.all false
set_option maxRecDepth 100000
set_option maxHeartbeats 2000000
namespace PySem
namespace SbE
open PySem.W PySem.Calls PyProof.Rows PySem.HandSPX Builtin Builtin.ObjectAttr
abbrev aeT : List Value := [.type "ArithmeticError", .type "Exception", .type "BaseException", .type "object"]
theorem ae_has (cs : Addr) (T : String) : (Value.ref cs :: aeT).contains (.type T) = aeT.contains (.type T) := by
  rw [List.contains_cons]
  rfl
theorem ae_pass (u : Value) (ca cs : Addr) : refuseLoop u "__setattr__" (.ref ca :: .ref cs :: aeT) = pure () := by
  rw [refuseLoop_ref, refuseLoop_ref]
  exact PySem.F.store_ArithmeticError.passes u
section
variable {pg : Program} {wd : World} {Ar : Around} {En : Value → Shared → Prop} {Rz : Result → Shared → Prop} {ha : Heap} {gs : Array GenState} {dn : Drawn} {tc : Nat} {st : OsState}
/-- self.nam = val, the first field of such an exception -/
theorem osaA {K : W.Frag} {nam : Str} {tk : Tok} {val : Value} {xa ca cs : Addr} {vs : Array Value} {kd : ClassData}
    (Y : K.In ha) (gx : ha.get? xa = some { cls := .ref ca, data := .fields vs }) (gk : W.clsIn K ca = some kd) (gm : kd.mro = .ref ca :: .ref cs :: aeT) (gd : kd.hasDict = true) (gn : W.findIn K (.ref ca) nam = some none)
    (next : ∀ hb tkb da, (∀ b o, b ≠ xa → ha.get? b = some o → hb.get? b = some o) → ha.objs.size ≤ da → da ≠ xa → hb.get? xa = some { cls := .ref ca, dict := some da, data := .fields vs } →
      hb.Ns1 da (fun y => if y = nam then some val else none) → Rz (.ok (.ret .none)) ⟨hb, gs, dn, tkb, st⟩) :
    codeAny (model pg wd) Ar (.call (.builtin "object.__setattr__") ⟨[.ref xa, .str nam tk, val], []⟩) Rz ⟨ha, gs, dn, tc, st⟩ := by
  have In0 : W.InstAt ha xa { cls := .ref ca, data := .fields vs } ca none := ⟨gx, rfl, rfl, trivial⟩
  have SO := PySem.F.store_object
  have gne : kd.mro.isEmpty = false := by rw [gm]; rfl
  have gob : kd.mro.contains (.type "object") = true := by rw [gm, List.contains_cons, ae_has, Bool.or_eq_true]; exact .inr (by decide +kernel)
  have xne : xa ≠ ha.objs.size := Nat.ne_of_lt (Heap.lt_size gx)
  have sb : W.Looks (model pg wd) ha (isInstance (.ref xa) (.type "object")) true := In0.type.andThen (W.looks_mroIn Y (by unfold W.mroIn; rw [gk, Option.bind_some, if_neg (by rw [gne]; decide), gob]))
  refine codeAny_call_builtin SO.slot.plain SO.entry (@W.check_slot (model pg wd) _ _ ⟨ha, gs, dn, tc, st⟩ "object.__setattr__" "object" "__setattr__" (.ref xa) [.str nam tk, val] [] _ SO.kind SO.split sb (SO.args (.ref xa) (.str nam tk) val) ?_)
  have lm : W.Looks (model pg wd) ha (mroOf (.ref ca)) kd.mro := (W.looks_clsIn Y gk).andThen .now
  have lt : W.Looks (model pg wd) ha (storeTaker? none) none := .now
  have lc : W.Looks (model pg wd) ha (classData ca) kd := W.looks_clsIn Y gk
  rw [W.osa_eq, refuse_eq]
  refine wpAny_bind (wpAny_bind (In0.type.at (wpAny_bind (lm.at ?_))))
  rw [gm, ae_pass]
  refine wpAny_pure (wpAny_bind (In0.type.at (wpAny_bind ((W.looks_findIn Y gn).at (wpAny_bind (lt.at ?_))))))
  show wpAny _ _ (storeInOwnDict (.ref xa) (.ref ca) (.str nam tk) nam val false) _ _ _
  obtain ⟨c1, c2, c3, c4, c5, c6, c7, c8, c9, c10, c11⟩ := kd
  dsimp only at gd
  subst gd
  unfold storeInOwnDict ownDictForStores
  repeat (first | with_reducible refine store_in_new ?_ ?_ | with_reducible refine wpAny_loadPart_at gx ?_ | with_reducible refine lc.at ?_ | wp_step)
  · exact ⟨_, #[], _, (Heap.get?_update_ne _ _ _ _ xne.symm).trans (Heap.get?_push_at rfl rfl), rfl, fun e he => absurd he (by simp), fun _ => rfl⟩
  · intro hb tkb hn hs
    have gx2 : (ha.push { cls := .type "dict", data := .dict #[] }).get? xa = some { cls := .ref ca, data := .fields vs } := Heap.get?_push_of_some _ gx
    refine next hb tkb ha.objs.size (fun b o nb ho => ?_) (Nat.le_refl _) xne.symm ?_ hn
    · exact (hs.2 b (Nat.ne_of_lt (Heap.lt_size ho))).trans ((Heap.get?_update_ne _ _ _ _ nb).trans (Heap.get?_push_of_some _ ho))
    · exact (hs.2 xa xne).trans (Heap.get?_update_self _ gx2 rfl)
end
end SbE
end PySem
namespace L2
open PySem PySem.Spec PyProof.Rows PySem.SbE
/-- what the written part says of such a class, whose base is the own class at cs -/
structure OwnA (K : PySem.W.Frag) (ca cs : Addr) : Prop where
  cls : ∃ nm q N bs sn sub ab col dd k0 k1 k2 k3 k5, K.lookup ca = some (excClassObj nm q ca N bs (.ref cs :: aeT) true sn sub ab col dd k0 k1 k2 k3 k5 "ArithmeticError.__new__")
  sa : PySem.W.findIn K (.ref ca) "__setattr__" = some (some (.builtin "object.__setattr__"))
  ex : PySem.W.subIn K (.ref ca) (.type "BaseException") = some true
  ty : PySem.W.typeIn K (.ref ca) = some (.type "type")
  kp : PySem.W.keepIn K (.ref ca) = true
section
variable {X : Cx} {pins : List (Addr × Obj)} {σ : St} {H : Hp} {s : Shared} {a ca cs da : Addr} {f : Str} {y : V} {u : Value} {E : Value → Shared → Prop} {A : Around}
theorem ostA {Q : Unit → Shared → Prop} (T : OwnA X.K ca cs) (I : Inv X pins σ H s) (e : H a = some (exo a ca none)) (gn : PySem.W.findIn X.K (.ref ca) f = some none) (ry : RelV y u)
    (k : ∀ da s', H da = none → da ≠ a → Inv X pins σ (upd (upd H da (exd da [(f, y)])) a (exo a ca (some da))) s' → Q () s') : wpAny (model X.prog X.w) A (setAttr (.ref a) f u) Q E s := by
  obtain ⟨nm, q, N, bs, sn, sub, ab, col, dd, k0, k1, k2, k3, k5, lk⟩ := T.cls
  obtain ⟨t1, go⟩ := exo_at I.hok e
  obtain ⟨hp, g, d, t, os⟩ := s
  refine PySem.W.set_plain I.kIn (ox := { cls := .ref ca, dict := none, data := .fields #[.ref t1, .none, .none, .none, .bool false, .none] }) (od := none) ⟨go, rfl, rfl, trivial⟩ T.sa ?_
  refine osaA (cs := cs) I.kIn go (kd := { name := nm, bases := bs, mro := .ref ca :: .ref cs :: aeT, ns := N, qualname := q, hasDict := true, slotNames := sn, subclasses := sub, abstract := ab, collection := col, hasDel := false }) (by unfold PySem.W.clsIn; rw [lk] <;> rfl) rfl rfl gn (fun hb tkb dx kk dn dne gxb hn => ?_)
  have dfree : H dx = none := I.hok.fresh dn
  have n1 : ∀ {b : Addr} {o : Obj}, hp.get? b = some o → b ≠ dx := fun {b o} z => Nat.ne_of_lt (Nat.lt_of_lt_of_le (Heap.lt_size z) dn)
  have n2 : ∀ {b : Addr}, H b = none → b ≠ a := fun {b} z w => by
    rw [w, e] at z
    cases z
  have U : Un X.fs [] H (upd (upd H dx (exd dx [(f, y)])) a (exo a ca (some dx))) hp hb := {
    keep := fun b o z n _ _ => kk b o (n2 n) z
    slot := fun b o z n _ _ => ⟨o.slots, kk b o (n2 n) z⟩
    free := fun b o z n _ => by rw [upd_ne (n2 n), upd_ne (n1 z)]; exact n
    there := fun b o z _ => by
      by_cases w : b = a
      · exact ⟨_, by rw [w]; exact gxb⟩
      · exact ⟨o, kk b o w z⟩
    tups := fun b xs z => by rw [upd_ne (at_ne e z exo_tup), upd_ne (ne_of_none z dfree)]; exact z
    frzs := fun b o v z => by rw [upd_ne (at_ne e z exo_frz), upd_ne (ne_of_none z dfree)]; exact z
    tbls := fun b ps z => ⟨#[], by rw [upd_ne (at_ne e z exo_tbl), upd_ne (ne_of_none z dfree), z]; simp⟩ }
  refine k dx _ dfree dne (I.un (t' := tkb) U fun b o z => ?_)
  by_cases w : b = a
  · subst w
    rw [upd_same] at z
    cases z
    exact exo_ok gxb
  · rw [upd_ne w] at z
    by_cases w2 : b = dx
    · subst w2
      rw [upd_same] at z
      cases z
      exact exd_ok hn (relO_put (fs := []) ry fun g => True.intro)
    · rw [upd_ne w2] at z
      refine (I.hok b o z).stay (fun c v hc zz => kk c v ?_ zz) (fun c hc => ?_) (fun c xs hc => ?_)
      · rcases hc with hc | hc
        · rw [hc]
          exact w
        · exact at_ne e hc exo_own
      · rw [upd_ne (at_ne e hc exo_own), upd_ne (ne_of_none hc dfree)]
        exact hc
      · rw [upd_ne (at_ne e hc exo_tup), upd_ne (ne_of_none hc dfree)]
        exact hc
/-- ArithmeticError.__init__(self, ..) -/
theorem initA {us : List Value} {Q : Value → Shared → Prop} (T : OwnA X.K ca cs) (I : Inv X pins σ H s) (e : H a = some (exo a ca none)) (hl : us.length ≤ sizeLine) (k : ∀ s', Inv X pins σ H s' → Q .none s') :
    wpAny (model X.prog X.w) A (call (.builtin "ArithmeticError.__init__") (.ref a :: us)) Q E s := by
  obtain ⟨nm, q, N, bs, sn, sub, ab, col, dd, k0, k1, k2, k3, k5, lk⟩ := T.cls
  obtain ⟨t1, go⟩ := exo_at I.hok e
  obtain ⟨hp, g, d, t, os⟩ := s
  refine wpAny_call (PySem.HandSPX.init_base PySem.F.excBase_ArithmeticError (ae_has cs) (I.kIn _ _ lk) go hl fun hb t2 kk gx => ?_)
  have J := I.write (t' := t) (x := a) (e := a) (o := exo a ca none) (by rw [e]; exact True.intro) (.inl rfl) kk ⟨_, gx⟩ (exo_ok gx)
  have same : upd H a (exo a ca none) = H := funext fun b => by
    by_cases w : b = a
    · rw [w, upd_same, e]
    · rw [upd_ne w]
  rw [same] at J
  exact k _ J
end
/-- Base.__init__(self, ..) -/
def tInitA (K : PySem.W.Frag) (ta : TA) : TE := fun σ H Q => ta σ H fun vs H1 => ∃ (a ca cs : Addr) (ws : List V), vs = .ref a :: ws ∧ ws.length ≤ 1000 ∧ OwnA K ca cs ∧ H1 a = some (exo a ca none) ∧ Q .non H1
/-- self.f = e -/
def tOstA (K : PySem.W.Frag) (f : Str) (to te : TE) : TS := fun D σ H => te σ H fun y H1 => to σ H1 fun x H2 => ∃ a ca cs : Addr, x = .ref a ∧ OwnA K ca cs ∧ PySem.W.findIn K (.ref ca) f = some none ∧
  H2 a = some (exo a ca none) ∧ ∀ dx, H2 dx = none → dx ≠ a → D.nx σ (upd (upd H2 dx (exd dx [(f, y)])) a (exo a ca (some dx)))
section
variable {X : Cx} {o e : Expr} {es : List Expr} {to te : TE} {ta : TA} {f B : Str} {p p' p1 p2 pos : Pos} {cs : Addr} {mc : Value}
theorem pe_initA {pl : Sem Bool} (hg : Gl X B) (hm : X.mg B = some (.ref cs)) (rd : PySem.W.readsIn X.K cs mc = true) (ga : PySem.W.specialIn X.K (.ref cs) "__getattribute__" = some (some (.builtin "type.__getattribute__")))
    (fi : PySem.W.findCls X.K (.ref cs) mc "__init__" = some (.val (.builtin "ArithmeticError.__init__"))) (ha : PA X (e :: es) ta) (hdb : (B == ("__debug__" : Str)) = false := by decide)
    (hc : eval (.Call (.Attribute (.Name B p1) "__init__" p2) (e :: es) [] pos) X.env = (do
      let b ← eval (.Name B p1) X.env
      standAt p2.atName
      let (g, fst) ← holding [b] (getMethod b "__init__" pl)
      callWith pos g fst (backTo pos (starEach (e :: es) X.env)) (backToKw pos (keywordEach [] X.env))) := by rfl)
    (he : starEach (e :: es) X.env = (false, eval e X.env) :: starEach es X.env := by rfl) (hpl : (backTo pos (starEach es X.env)).any (·.1) = false := by rfl) :
    PE X (.Call (.Attribute (.Name B p1) "__init__" p2) (e :: es) [] pos) (tInitA X.K ta) := by
  refine ⟨fun pins s σ H Q I h => ?_⟩
  refine PySem.W.methodCall_KW (ld_glob I hg hm ?_ hdb) hc
  refine PySem.W.method_cls I.kIn ga (PySem.W.cls_value I.kIn rd fi rfl ?_)
  show wpAny _ _ (callWith pos (Value.builtin "ArithmeticError.__init__") [] (backTo pos (starEach (e :: es) X.env)) []) _ _ _
  refine PyProof.Rows.callWith_method1 (thn (ha.run pos pins _ σ H _ (I.tok _) h) fun us s1 ⟨vs, H1, I1, r1, a, ca, cs', ws, ev, hl, T, ea, q⟩ => ?_) he hpl
  subst ev
  cases r1 with
  | @cons _ u0 _ ur ra rw' =>
    obtain rfl : u0 = Value.ref a := ra
    exact initA T I1 ea (by rw [← Paired.length rw', sizeLine_eq]; omega) fun s' J => ⟨.non, H1, J, rfl, q⟩
theorem ps_ostA (ho : PE X o to) (he : PE X e te) (hs : swapsWith e (some (.Attribute o f p')) pos.line X.env = pure false := by rfl) : PS X (.Assign [.Attribute o f p'] e pos) (tOstA X.K f to te) := by
  refine ⟨fun pins s σ H D I h => ?_⟩
  refine plainObj_wpAny_Assign_Attribute (thn (he.run pins s σ H _ I h) fun v s1 ⟨y, H1, I1, r1, q1⟩ => thn (ho.run pins s1 σ H1 _ I1 q1) fun u s2 ⟨x, H2, I2, r2, a, ca, cs, ex, T, hno, ea, q⟩ => ?_) hs
  subst ex
  obtain rfl : u = Value.ref a := r2
  exact ostA T I2 ea hno r1 fun dx s' n ne J => ⟨σ, _, J, q dx n ne⟩
end
/-- C(e, ..), C's own __init__ keeping sp -/
def tMkA (ca : Addr) (sp : Sp) (ta : TA) : St → Hp → XK → Prop := fun σ H Q => ta σ H fun vs H1 => vs.length ≤ 1000 ∧ ∀ a, H1 a = none → sp (.ref a :: vs) (upd H1 a (exo a ca none))
  (fun v H2 => v = .non ∧ ∃ (d : Addr) (fs : List (Str × V)), H2 a = some (exo a ca (some d)) ∧ H2 d = some (exd d fs) ∧ H1 d = none ∧ Q (.ref ca) (some d) (upd (del H2 a) d (.xd fs))) (fun _ _ _ => False)
theorem pmk_ownA {X : Cx} {CX : CXT} {x : Str} {e : Expr} {es : List Expr} {ta : TA} {p pos : Pos} {ca cs fi : Addr} {k : Nat} {fd : FuncData} {ps : List Str} {sp : Sp} (T : OwnA X.K ca cs) (iC : PySem.W.findIn X.K (.ref ca) "__init__" = some (some (.ref fi))) (tI : PySem.W.typeIn X.K (.ref fi) = some (.type "function"))
    (F1 : FnOk X.prog X.w X.K X.mg X.base CX k fi fd ps sp) (hr : Room (k + 1) X.A) (hb : Binds X.K fd ps []) (hx : Passes CX X (fun _ _ _ => False)) (hg : Gl X x) (hm : X.mg x = some (.ref ca)) (ha : PA X (e :: es) ta)
    (hdb : (x == ("__debug__" : Str)) = false := by decide) (he : starEach (e :: es) X.env = (false, eval e X.env) :: starEach es X.env := by rfl) (hpl : (backTo pos (starEach es X.env)).any (·.1) = false := by rfl) :
    PMk X (.Call (.Name x p) (e :: es) [] pos) (tMkA ca sp ta) := by
  intro pins s σ H Q I h
  obtain ⟨nm, q, N, bs, sn, sub, ab, col, dd, k0, k1, k2, k3, k5, lk⟩ := T.cls
  refine wpAny_Call_Name_kw (ld_glob I hg hm ?_ hdb)
  refine PySem.W.callWith_K (h₀ := X.base) I.ok.mod.kin T.kp (thn (ha.run pos pins s σ H _ I h) fun us s1 ⟨vs, H1, I1, r1, hz, q1⟩ => ⟨I1.kIn, ?_⟩) he hpl
  show wpAny _ _ (call (.ref ca) us) _ _ _
  obtain ⟨hp, g, dr, tk, os⟩ := s1
  have big : hp.objs.size ≤ hp.objs.size + 1 := Nat.le_succ _
  have hq := q1 (hp.objs.size + 1) (I1.hok.fresh big)
  have kk : ∀ b o, hp.get? b = some o → ((hp.push (PySem.W.kdv_tup us)).push (PySem.HandSPX.excO ca hp.objs.size)).get? b = some o := fun b o z => Heap.get?_push_of_some _ (Heap.get?_push_of_some _ z)
  have atE : ((hp.push (PySem.W.kdv_tup us)).push (PySem.HandSPX.excO ca hp.objs.size)).get? (hp.objs.size + 1) = some (PySem.HandSPX.excO ca hp.objs.size) := by heap_get
  have I2 := I1.laid (t' := tk) (a := hp.objs.size + 1) (o := exo (hp.objs.size + 1) ca none) (h' := (hp.push (PySem.W.kdv_tup us)).push (PySem.HandSPX.excO ca hp.objs.size)) kk big (exo_ok atE)
  have r2 : Vals (V.ref (hp.objs.size + 1) :: vs) (Value.ref (hp.objs.size + 1) :: us) := .cons rfl r1
  have hl : (Value.ref (hp.objs.size + 1) :: us).length = ps.length := by
    have z := r2.length
    rw [F1.len _ _ _ _ hq] at z
    exact z.symm
  have hus : us.length ≤ sizeLine := by
    rw [← Paired.length r1, sizeLine_eq]
    omega
  have hbd := hb _ (Value.ref (hp.objs.size + 1) :: us) I2.kIn (by rw [List.append_nil]; exact hl)
  rw [List.append_nil] at hbd
  refine wpAny_call (PySem.HandSPX.call_own PySem.F.excBase_ArithmeticError (ae_has cs) (I1.kIn _ _ lk) (PySem.W.looks_findIn I1.kIn iC) (fun self => PySem.W.bind_fn I1.kIn self tI) hus
    (codeAny_mono (F1.run _ X.stack _ _ ⟨Value.ref (hp.objs.size + 1) :: us, []⟩ (Value.ref (hp.objs.size + 1) :: us) _ _ (fun _ _ _ => False) (hr.make ca us []) (I2.env0.make ca us []) hbd r2 hq) fun r s' hq' => ?_))
  cases r with
  | error er => exact hx pins σ _ _ er s' I2 hq'
  | ok fl =>
    cases fl with
    | ret u =>
      obtain ⟨v, H2, os2, bare2, un2, hok2, rv, ev, d, fs, ea, ed, hd1, q2⟩ := hq'
      subst ev
      obtain ⟨h2, g2, d2, t2, os'⟩ := s'
      exact ⟨rv, mk_end (raises_own T.ex T.ty) I1 big kk un2 hok2 os2 bare2 ea ed hd1 q2⟩
    | next => exact False.elim hq'
    | brk => exact False.elim hq'
    | cont => exact False.elim hq'
end L2
namespace PySem
namespace SbE
open PySem PySem.Spec PySem.W PySem.Calls PyProof.Rows
section
variable {pg : Program} {wd : World} {Ar : Around} {En : Value → Shared → Prop} {st : Shared} {K : Frag} {xa D : Addr} {ob : Obj} {od : Option Obj}
theorem obj_data {nam : Str} {p g : Value} (hc : (clsIn K D).isSome = true) (h1 : findIn K (.ref D) nam = some (some p)) (h2 : specialIn K p "__get__" = some (some g)) (h3 : takesIn K p = some true) : findObj K D od nam = some (.bind g p) := by
  obtain ⟨kd, hc⟩ := Option.isSome_iff_exists.mp hc
  unfold findObj
  rw [hc, Option.bind_some, h1, Option.bind_some]
  simp [h2, h3]
/-- e.__class__, e an exception with a dict or without -/
theorem cls_exc {Q : Option Value → Shared → Prop} (h1 : findIn K (.ref D) "__getattribute__" = some (some (.builtin "BaseException.__getattribute__"))) (h2 : findIn K (.ref D) "__getattr__" = some none) (h3 : subIn K (.ref D) (.type "BaseException") = some true)
    (h4 : hasDictIn K D = true) (h5 : findIn K (.ref D) "__class__" = some (some (.builtin "object.__class__"))) (h6 : specialIn K (.builtin "object.__class__") "__get__" = some (some (.builtin "getset_descriptor.__get__"))) (h7 : takesIn K (.builtin "object.__class__") = some true)
    (h8 : mroIn K D (.type "object") = some true) (Y : K.In st.heap) (J : InstAt st.heap xa ob D od) (h : Q (some (.ref D)) { st with toks := st.toks + 1 }) : wpAny (model pg wd) Ar (getAttr? (.ref xa) "__class__") Q En st := by
  have fo : findObj K D od "__class__" = some (.bind (.builtin "getset_descriptor.__get__") (.builtin "object.__class__")) := obj_data (by obtain ⟨kd, hc, _⟩ := any_some h4; rw [hc]; rfl) h5 h6 h7
  obtain ⟨hh, g, d, t, os⟩ := st
  have T0 := J.type (M := model pg wd)
  have T1 := looks_findIn (M := model pg wd) Y h1
  have T2 := looks_findIn (M := model pg wd) Y h2
  have T3 := looks_find (M := model pg wd) Y J fo
  have sb : Looks (model pg wd) hh (isInstance (.ref xa) (.type "BaseException")) true := T0.andThen (looks_subIn Y h3)
  have z0 : (false && onTheHeap (Value.builtin "BaseException.__getattribute__")) = false := rfl
  have z2 : (Value.builtin "BaseException.__getattribute__" == Value.builtin "object.__getattribute__") = false := by decide +kernel
  have z1 : (onTheHeap (Value.ref D) && Value.builtin "BaseException.__getattribute__" == Value.builtin "object.__getattribute__") = false := by rw [z2]; rfl
  unfold getAttr? getAttrBy? getAttrBy
  refine wpAny_bind (wpAny_mkText (wpAny_bind (wpAny_attempt (wpAny_holding (wpAny_bind (T0.at (wpAny_bind (T1.at ?_))))))))
  show wpAny (model pg wd) _ (if (onTheHeap (Value.ref D) && Value.builtin "BaseException.__getattribute__" == Value.builtin "object.__getattribute__") = true then _ else _) _ _ _
  rw [z1, if_neg Bool.false_ne_true]
  unfold getAttrByItsOwn hookBefore
  refine wpAny_bind ?_
  rw [if_pos (show onTheHeap (Value.ref D) = true from rfl)]
  refine T2.at ?_
  refine wpAny_bind (wpAny_attempt (wpAny_holding ?_))
  unfold callGetattribute
  rw [z0, if_neg Bool.false_ne_true]
  unfold boundAndCalled
  rw [PySem.F.excAttr_ValueError.ga.bind (.ref xa)]
  refine wpAny_bind (wpAny_pure ?_)
  show wpAny (model pg wd) _ (call (.builtin "BaseException.__getattribute__") [.ref xa, .str "__class__" t]) _ _ _
  refine wpAny_call (codeAny_call_builtin PySem.F.excAttr_ValueError.ga.plain PySem.F.entry_bexc_ga ?_)
  refine @check_slot (model pg wd) _ _ ⟨hh, g, d, t + 1, os⟩ "BaseException.__getattribute__" "BaseException" "__getattribute__" (.ref xa) [.str "__class__" t] [] _ (by decide +kernel) (by decide +kernel) sb (PySem.F.args_bexc_ga (.ref xa) (.str "__class__" t)) ?_
  unfold Builtin.«object.__getattribute__»
  refine wpAny_bind (wpAny_of_eq (a := ((Value.ref xa : Value), [Value.str "__class__" t])) (by first | rfl | (simp only [slotArgs]; rfl)) ?_)
  refine wpAny_bind (wpAny_pure (wpAny_bind (T0.at (wpAny_bind (T3.at ?_)))))
  show wpAny (model pg wd) _ (holding [Value.builtin "object.__class__"] (call (.builtin "getset_descriptor.__get__") [.builtin "object.__class__", .ref xa, .ref D]) >>= ret) _ _ _
  refine wpAny_bind (wpAny_holding (wpAny_call (class_get (s := ⟨hh, g, d, t + 1, os⟩) (ox := ob) (od := od) Y J h8 ?_)))
  refine wpAny_pure ?_
  show wpAny (model pg wd) _ (handedOut (.ref D)) _ _ _
  rw [handedOut_of (v := .ref D) rfl]
  first
    | exact wpAny_pure (wpAny_pure h)
    | exact wpAny_pure h
    | exact wpAny_pure (wpAny_bind (wpAny_pure (wpAny_pure h)))
theorem kit_exc (h1 : findIn K (.ref D) "__getattribute__" = some (some (.builtin "BaseException.__getattribute__"))) (h2 : findIn K (.ref D) "__getattr__" = some none) (h3 : subIn K (.ref D) (.type "BaseException") = some true) (h4 : hasDictIn K D = true)
    (h5 : findIn K (.ref D) "__class__" = some (some (.builtin "object.__class__"))) (h6 : specialIn K (.builtin "object.__class__") "__get__" = some (some (.builtin "getset_descriptor.__get__"))) (h7 : takesIn K (.builtin "object.__class__") = some true) (h8 : mroIn K D (.type "object") = some true) :
    KitX K (.ref xa) (.ref D) (fun hh => InstAt hh xa ob D od) := by
  obtain ⟨kd, hc, _⟩ := any_some h4
  have at_ : ∃ c' d' sl', K.lookup D = some ⟨c', d', .cls kd, sl'⟩ := by
    unfold clsIn at hc
    split at hc
    · rename_i c' d' cd' sl' ho
      cases hc
      exact ⟨c', d', sl', ho⟩
    · cases hc
  obtain ⟨c', d', sl', lk⟩ := at_
  refine ⟨fun _ _ _ J => J.type, fun _ _ Y _ A' Q' E' s' k q => ?_, fun hh tp dd its n sl Y gt => ?_, fun Y J k => cls_exc h1 h2 h3 h4 h5 h6 h7 h8 Y J k⟩
  · unfold isType loadHead
    exact wpAny_bind (wpAny_loadPart (k _ _ (Y _ _ lk)) (wpAny_pure q))
  · refine Bool.eq_false_iff.mpr fun q => ?_
    have e : D = tp := Value.ref.inj (beq_iff_eq.mp q)
    subst e
    have z := (Y _ _ lk).symm.trans gt
    cases z
end
end SbE
end PySem
namespace L2
open PySem PySem.Spec PyProof.Rows PySem.SbE
/-- isinstance(e, c), e the exception that the suite holds, with fields or without -/
def rIsA (K : PySem.W.Frag) (cls : Value) (d : Option Addr) (a : Addr) : List V → Hp → VK → Prop := fun xs H Q => ∃ (D : Addr) (c : V) (cv : Value) (b : Bool), cls = .ref D ∧ ExcC K D ∧ xs = [.ref a, c] ∧ (∀ u, RelV c u → u = cv) ∧ PySem.W.kitOne K (.ref D) cv = some b ∧
  (d = none ∨ ∃ dd fs, d = some dd ∧ H dd = some (.xd fs)) ∧ Q (.bl b) H
theorem call_isA {X : Cx} {a : Addr} {cls : Value} {d : Option Addr} {oe : Obj} {pn : List (Addr × Obj)} (hz : Zc cls d oe) (hf : ∃ vs, oe.data = .fields vs) : CallR (X.suite a ((a, oe) :: pn)) (.builtin "isinstance") (rIsA X.K cls d a) := by
  intro pins s σ H xs us Q I r h
  obtain ⟨D, c, cv, b, ec, C, ex, hcv, e, hd, q⟩ := h
  subst ec ex
  cases r with
  | cons rx rr =>
    cases rr with
    | cons rt rr =>
      cases rr
      cases rx
      have ev := hcv _ rt
      subst ev
      obtain ⟨at_, _⟩ := I.pin (a, oe) (List.mem_append.mpr (.inl List.mem_cons_self))
      obtain ⟨vs, hv⟩ := hf
      have nc : PySem.W.notCls oe = true := by
        unfold PySem.W.notCls
        rw [hv] <;> rfl
      obtain ⟨od, J⟩ : ∃ od, PySem.W.InstAt s.heap a oe D od := by
        rcases hd with hd | ⟨dd, fs, hd, hx⟩
        · exact ⟨none, at_, hz.1, nc, by rw [hz.2, hd]; trivial⟩
        · have hok : ObjOk X.prog X.w H s.heap dd (.xd fs) := I.hok dd _ hx
          obtain ⟨mA, hns, _⟩ := hok
          obtain ⟨od, ho, _⟩ := lookIn_ns hns
          exact ⟨some od, at_, hz.1, nc, by rw [hz.2, hd]; exact ho⟩
      exact PySem.W.kia_one (kit_exc C.hg C.hk C.hs C.hd C.ha C.hn C.ht C.hm) I.kIn J e (fun z => nomatch z) fun tk => ⟨.bl b, H, I.kept (t' := tk) fun _ _ z => z, rfl, q⟩
end L2
namespace LamX
open PySem PySem.Spec PyProof.Rows L2
section
variable {X : Cx} {pins : List (Addr × Obj)} {σ : L2.St} {H : Hp} {s : Shared}
/-- x(), what it lets out told at the slots of the def that got the lambda -/
theorem act_at {CXg : CXT} {Eg : XK} {Ng : List Str} {qg : Str} {sg : Scope} {g f c' : Addr} {cdg pm ctv : Value} {params : Arguments} {body : Expr} {scope : Scope} {k i : Nat} {a : Str} {pn : List (Addr × Obj)} {xe : Value → Shared → Prop} {W : WX} {tb : XK → TE} {p1 p2 : Pos}
    (I : Inv X pins σ H s) (L : LamS X.env.scope scope) (hf : s.heap.get? f = some (PySem.W.kla_obj "<lambda>" (X.env.qual ++ "<lambda>") params body scope (cloFrom X.env.cells scope.names []) pm c' ctv)) (hfn : H f = none) (hfr : f ∉ frs X.stack)
    (hbind : bindArgs (PySem.W.kla_fn "<lambda>" (X.env.qual ++ "<lambda>") params body scope (cloFrom X.env.cells scope.names []) pm (.ref c') ctv) ⟨[], []⟩ = pure [])
    (tk : Takes ((cxOf CXg X.prog X.w X.K X.mg X.base Ng qg sg g cdg X.A X.stack s H Eg).tr pn xe) W) (hr : Room (k + 1) (X.A.deeper (envOfC qg sg s.heap.objs.size g cdg)))
    (hbody : ∀ (A : Around) (outer : List Env) (s : Shared) (H : Hp) (E : XK), Room k (A.deeper (lamEnv X scope s.heap.objs.size f c')) → PE (lamCx X A outer s H E scope f c') body (tb E))
    (hN : Ng[i]? = some a) (hv : Vis sg a) (hd : (a == ("__debug__" : Str)) = false := by decide) (hcd : (a == ("__classdict__" : Str)) = false := by decide) :
    PE ((cxOf CXg X.prog X.w X.K X.mg X.base Ng qg sg g cdg X.A X.stack s H Eg).tr pn xe) (.Call (.Name a p1) [] [] p2)
      (fun τ G Q => τ[i]? = some (some (.ref f)) ∧ G c' = some (CodeO c' (X.env.qual ++ "<lambda>")) ∧ tb (WE W τ) σ G Q) := by
  refine ⟨fun pz sz τ G Q J h => ?_⟩
  obtain ⟨hs, hc, ht⟩ := h
  refine wpAny_Call_Name_kw (thn ((pe_var (pos := p1) (i := i) hN hv hd hcd).run pz sz τ G (fun v G1 => v = .ref f ∧ G1 = G) J ⟨.ref f, hs, rfl, rfl⟩) fun u s1 ⟨v, G1, J1, r1, q1⟩ => ?_)
  obtain ⟨ev, eG⟩ := q1
  subst ev
  rw [eG] at J1
  obtain rfl : u = Value.ref f := r1
  have fat := J1.base.keep f _ hf hfn hfr (fun z => nomatch (show f ∈ ([] : List Addr) from z))
  refine PySem.W.callWith_F0 ⟨_, _, _, _, fat⟩ ?_
  have un : Un (frs X.stack) [] H G s.heap s1.heap := J1.base
  obtain ⟨⟨oc, vs, t, hoc, hdc, hvc⟩, _, _⟩ := J1.hok c' _ hc
  have rc : codeAny (model X.prog X.w) (X.A.deeper (envOfC qg sg s.heap.objs.size g cdg)) (.call (.ref f) ⟨[], []⟩) (CR (L2.CX X.prog X.w) (envOfC qg sg s.heap.objs.size g cdg :: X.stack) X.prog X.w G s1 Q (WE W τ)) s1 := by
    refine PySem.W.kla_callFunE hr.depth fat rfl L.co L.gen rfl ⟨c', oc, vs, t, rfl, hoc, hdc, hvc⟩ ?_
    rw [hbind]
    refine wpAny_pure (wpAny_newFunctionEnv (fun y hy => (L.own y hy).2) (fun y hy => absurd hy (by simp)) (fun hz hns hsb => ⟨J1.nolimit.fresh _ hsb, ?_⟩) L.kind)
    show codeAny _ _ (.expr body (lamEnv X scope s1.heap.objs.size f c')) _ _
    have kp : ∀ b o, s1.heap.get? b = some o → hz.get? b = some o := fun b o e => hsb.extBut b o (Nat.ne_of_lt (Heap.lt_size e)) (Heap.get?_push_of_some _ e)
    have JL : Inv (lamCx X (X.A.deeper (envOfC qg sg s.heap.objs.size g cdg)) (envOfC qg sg s.heap.objs.size g cdg :: X.stack) s1 G (WE W τ) scope f c') [] σ G { s1 with heap := hz, toks := s1.toks + ([] : List (Str × Value)).length } :=
      lam_start2 I L J1.env0 hr.hd un hns kp
    refine PySem.W.kla_codeExpr (wpAny_mono ((hbody _ _ s1 G (WE W τ) (hr.deeper _)).run [] _ _ G Q JL ht) (fun v s' hq => ?_) fun e s' hq => hq)
    obtain ⟨w', G', J', rv, q⟩ := hq
    exact ⟨w', G', J'.os, J'.bare, J'.base, J'.hok, rv, q⟩
  have pass := passAt tk τ
  refine wpAny_call (codeAny_mono rc fun r s' hq => ?_)
  cases r with
  | error e => exact pass pz G s1 e s' J1 hq
  | ok fl =>
    cases fl with
    | ret u => exact J1.after hq
    | next => exact False.elim hq
    | brk => exact False.elim hq
    | cont => exact False.elim hq
end
/-- the def that calls what it got, a exception told at its slots; TT: what it makes of the lambda's reading -/
def GivesAt (X : Cx) (Ng : List Str) (x : Str) (sg : Scope) (g : Addr) (cdg : Value) (bg : List Stmt) (a : Str) (q : Str) (TT : (XK → Hp → VK → Prop) → Hp → VK → Prop) : Prop :=
  ∀ (f c' : Addr) (s : Shared) (H : Hp) (Q : VK) (tl : XK → Hp → VK → Prop),
    (∀ (W : WX) (pn : List (Addr × Obj)) (xe : Value → Shared → Prop) (p1 p2 : Pos), Takes ((cxOf C8.CX0 X.prog X.w X.K X.mg X.base Ng x sg g cdg X.A X.stack s H C8.E0).tr pn xe) W →
      PE ((cxOf C8.CX0 X.prog X.w X.K X.mg X.base Ng x sg g cdg X.A X.stack s H C8.E0).tr pn xe) (.Call (.Name a p1) [] [] p2) (fun τ G Q => τ[0]? = some (some (.ref f)) ∧ G c' = some (CodeO c' q) ∧ tl (WE W τ) G Q)) →
    H c' = some (CodeO c' q) → TT tl H Q →
    ∃ t, PSs (cxOf C8.CX0 X.prog X.w X.K X.mg X.base Ng x sg g cdg X.A X.stack s H C8.E0).nox bg t ∧ t { nx := fun _ H' => Q .non H', rt := Q } (L2.start Ng [.ref f]) H
section
variable {X : Cx}
/-- x(lambda: body) -/
theorem pe_lamAt {T : List (Addr × Str)} {TT : (XK → Hp → VK → Prop) → Hp → VK → Prop} {x a : Str} {g c P : Addr} {k : Nat} {pg : Arguments} {bg : List Stmt} {sg : Scope} {dV kV doc pm cdv ct oc : Value} {an od : Option Addr} {osl : Array (Option Value)} {Ng : List Str}
    {params : Arguments} {body : Expr} {scope : Scope} {t : XK → TE} {p lpos pos : Pos} (hg : Gl X x) (hm : X.mg x = some (.ref g)) (hk : PySem.W.keepIn X.K (.ref g) = true)
    (lk : X.K.lookup g = some ⟨oc, od, .func (PySem.W.fnOf x x pg bg sg dV kV doc pm an cdv ct), osl⟩) (hcg : PySem.W.codeIn X.K cdv x = true) (hb : L2.Binds X.K (PySem.W.fnOf x x pg bg sg dV kV doc pm an cdv ct) [a] []) (Sg : FnScope Ng [a] sg) (hNg : Ng[0]? = some a) (hva : Vis sg a)
    (hG : GivesAt X Ng x sg g cdv bg a (X.env.qual ++ "<lambda>") TT)
    (TB : TabB X.base X.mg c P) (hcode : X.env.code = .ref c) (hmT : (P, X.env.qual ++ "<lambda>") ∈ T) (hu : ∀ p ∈ T, p.1 = P → p.2 = X.env.qual ++ "<lambda>") (hr : Room (k + 2) X.A) (L : LamS X.env.scope scope) (hdef : defaultsOf params X.env = ([], []))
    (hbind : ∀ (q : Str) (cl : List (Str × Addr)) (pm cv ctv : Value), bindArgs (PySem.W.kla_fn "<lambda>" q params body scope cl pm cv ctv) ⟨[], []⟩ = pure [])
    (hbody : ∀ (A : Around) (outer : List Env) (s : Shared) (H : Hp) (E : XK) (f c' : Addr), Room k (A.deeper (lamEnv X scope s.heap.objs.size f c')) → PE (lamCx X A outer s H E scope f c') body (t E))
    (hdb : (x == ("__debug__" : Str)) = false := by decide) (hd : (a == ("__debug__" : Str)) = false := by decide) (hcd : (a == ("__classdict__" : Str)) = false := by decide) :
    PE X (.Call (.Name x p) [.Lambda params body scope lpos] [] pos) (tLam T TT t) := by
  refine ⟨fun pins s σ H Q I h => ?_⟩
  obtain ⟨hT, h⟩ := h
  refine wpAny_Call_Name_kw (ld_glob I hg hm ?_ hdb)
  refine PySem.W.callWith_K (h₀ := X.base) I.ok.mod.kin hk ?_ (by rfl) (by rfl)
  show wpAny (model X.prog X.w) _ (spliced ((false, eval (.Lambda params body scope lpos) X.env) :: backTo pos (starEach [] X.env))) _ _ s
  refine Calls.spliced_cons (lam_make2 I TB hcode hmT hu hT hdef (L.has I.ok) fun f c' pm' ctv H1 s' I1 eN T1 hf hfn hfr hco => ?_)
  refine Calls.spliced_nil ⟨I1.kIn, ?_⟩
  have rc : codeAny (model X.prog X.w) X.A (.call (.ref g) ⟨[.ref f], []⟩) (CR C8.CX0 X.stack X.prog X.w H1 s' Q C8.E0) s' :=
    run_ofS (N := Ng) (ps := [a]) (us := [.ref f]) (vs := [.ref f]) lk hcg Sg hr I1.env0 (hb s' [.ref f] I1.kIn rfl) (.cons rfl .nil) rfl fun hr' => by
      obtain ⟨t', ht', hq'⟩ := hG f c' s' H1 Q (fun E H' Q' => t E σ H' Q') (fun W pn xe p1 p2 tk => act_at (i := 0) I1 L hf hfn hfr (hbind _ _ _ _ _) tk hr' (fun A outer s H E hr2 => hbody A outer s H E f c' hr2) hNg hva hd hcd) hco (h H1 eN T1)
      exact ⟨t', ht'.nox, hq'⟩
  refine wpAny_call (codeAny_mono rc fun r s2 hq => ?_)
  cases r with
  | error e => exact (show False from hq).elim
  | ok fl =>
    cases fl with
    | ret u => exact I1.after hq
    | next => exact False.elim hq
    | brk => exact False.elim hq
    | cont => exact False.elim hq
end
end LamX
namespace L2
open PySem PySem.Spec PyProof.Rows PySem.SbE
/-! facts of the classes as truths that the kernel reckons -/
def fiB (K : PySem.W.Frag) (C : Addr) : Bool := match PySem.W.findCls K (.ref C) (.type "type") "__init__" with
  | some (.val v) => decide (v = .builtin "ArithmeticError.__init__")
  | _ => false
theorem fiB_ok {K : PySem.W.Frag} {C : Addr} (h : fiB K C = true) : PySem.W.findCls K (.ref C) (.type "type") "__init__" = some (.val (.builtin "ArithmeticError.__init__")) := by
  unfold fiB at h
  split at h
  · rename_i v e
    rw [e, of_decide_eq_true h]
  · cases h
def ownK (C CS : Addr) : Obj → Bool
  | ⟨.type m, _, .cls kd, sl⟩ => decide (m = "type") && (decide (kd.mro = .ref C :: .ref CS :: aeT) && (kd.hasDict && (!kd.hasDel && match sl.toList with
    | [_, _, _, _, some (.builtin n), _] => decide (n = "ArithmeticError.__new__")
    | _ => false)))
  | _ => false
theorem ownK_ok {C CS : Addr} {o : Obj} (h : ownK C CS o = true) : ∃ nm q N bs sn sub ab col dd k0 k1 k2 k3 k5, o = excClassObj nm q C N bs (.ref CS :: aeT) true sn sub ab col dd k0 k1 k2 k3 k5 "ArithmeticError.__new__" := by
  obtain ⟨oc, od, dt, sl⟩ := o
  cases oc with
  | type m =>
    cases dt with
    | cls kd =>
      obtain ⟨h1, h⟩ := Bool.and_eq_true_iff.mp h
      obtain ⟨h2, h⟩ := Bool.and_eq_true_iff.mp h
      obtain ⟨h3, h⟩ := Bool.and_eq_true_iff.mp h
      obtain ⟨h4, h5⟩ := Bool.and_eq_true_iff.mp h
      have e1 := of_decide_eq_true h1
      have e2 := of_decide_eq_true h2
      obtain ⟨nm, bs, mro, ns, qn, hd, sn, sub, ab, col, del⟩ := kd
      dsimp only at h3 h4 e2
      have e4 : del = false := by
        cases del
        · rfl
        · cases h4
      subst e1 e2 h3 e4
      obtain ⟨l⟩ := sl
      dsimp only at h5
      obtain ⟨k0, k1, k2, k3, k5, e6⟩ : ∃ k0 k1 k2 k3 k5, l = [k0, k1, k2, k3, some (.builtin "ArithmeticError.__new__"), k5] := by
        split at h5
        · exact ⟨_, _, _, _, _, by rw [of_decide_eq_true h5]⟩
        · cases h5
      subst e6
      exact ⟨nm, qn, ns, bs, sn, sub, ab, col, od, k0, k1, k2, k3, k5, rfl⟩
    | _ => cases h
  | _ => cases dt <;> cases h
def ownB (K : PySem.W.Frag) (C CS : Addr) : Bool := (match K.lookup C with
  | some o => ownK C CS o
  | none => false) && (decide (PySem.W.findIn K (.ref C) "__setattr__" = some (some (.builtin "object.__setattr__"))) && (decide (PySem.W.subIn K (.ref C) (.type "BaseException") = some true) && (decide (PySem.W.typeIn K (.ref C) = some (.type "type")) && PySem.W.keepIn K (.ref C))))
theorem ownB_ok {K : PySem.W.Frag} {C CS : Addr} (h : ownB K C CS = true) : OwnA K C CS := by
  obtain ⟨h1, h⟩ := Bool.and_eq_true_iff.mp h
  obtain ⟨h2, h⟩ := Bool.and_eq_true_iff.mp h
  obtain ⟨h3, h⟩ := Bool.and_eq_true_iff.mp h
  obtain ⟨h4, h5⟩ := Bool.and_eq_true_iff.mp h
  refine ⟨?_, of_decide_eq_true h2, of_decide_eq_true h3, of_decide_eq_true h4, h5⟩
  cases e : K.lookup C with
  | none =>
    rw [e] at h1
    cases h1
  | some o =>
    rw [e] at h1
    obtain ⟨nm, q, N, bs, sn, sub, ab, col, dd, k0, k1, k2, k3, k5, eo⟩ := ownK_ok h1
    exact ⟨nm, q, N, bs, sn, sub, ab, col, dd, k0, k1, k2, k3, k5, by rw [eo]⟩
def ecB (K : PySem.W.Frag) (D : Addr) : Bool := decide (PySem.W.findIn K (.ref D) "__getattribute__" = some (some (.builtin "BaseException.__getattribute__"))) && (decide (PySem.W.findIn K (.ref D) "__getattr__" = some none) && (decide (PySem.W.subIn K (.ref D) (.type "BaseException") = some true) && (PySem.W.hasDictIn K D && (decide (PySem.W.findIn K (.ref D) "__class__" = some (some (.builtin "object.__class__"))) &&
  (decide (PySem.W.specialIn K (.builtin "object.__class__") "__get__" = some (some (.builtin "getset_descriptor.__get__"))) && (decide (PySem.W.takesIn K (.builtin "object.__class__") = some true) && decide (PySem.W.mroIn K D (.type "object") = some true)))))))
theorem ecB_ok {K : PySem.W.Frag} {D : Addr} (h : ecB K D = true) : ExcC K D := by
  obtain ⟨h1, h⟩ := Bool.and_eq_true_iff.mp h
  obtain ⟨h2, h⟩ := Bool.and_eq_true_iff.mp h
  obtain ⟨h3, h⟩ := Bool.and_eq_true_iff.mp h
  obtain ⟨h4, h⟩ := Bool.and_eq_true_iff.mp h
  obtain ⟨h5, h⟩ := Bool.and_eq_true_iff.mp h
  obtain ⟨h6, h⟩ := Bool.and_eq_true_iff.mp h
  obtain ⟨h7, h8⟩ := Bool.and_eq_true_iff.mp h
  exact ⟨of_decide_eq_true h1, of_decide_eq_true h2, of_decide_eq_true h3, h4, of_decide_eq_true h5, of_decide_eq_true h6, of_decide_eq_true h7, of_decide_eq_true h8⟩
theorem funD_fun {K : PySem.W.Frag} {x qual : Str} {st : Stmt} {f : Addr} {fd : FuncData} (F : FunD K x qual (defArgs st) (defBody st) (defScope st) [] [] f fd) : Fun K x qual st f fd := by
  obtain ⟨oc, od, dV, kV, doc, pm, an, cdv, ct, osl, e, lk, hcd, hD, _⟩ := F.ex
  rcases hD with ⟨_, rfl⟩ | ⟨z, _⟩
  · exact ⟨⟨oc, od, kV, doc, pm, an, cdv, ct, osl, e, lk, hcd⟩, F.kp⟩
  · exact absurd rfl z
/-! what a made exception leaves -/
/-- the heap behind C(x), C's __init__ storing one field -/
def excH (H : Hp) (a dx C : Addr) (f : Str) (x : V) : Hp := upd (del (upd (upd (upd H a (exo a C none)) dx (exd dx [(f, x)])) a (exo a C (some dx))) a) dx (.xd [(f, x)])
theorem excH_at {H : Hp} {a dx C : Addr} {f : Str} {x : V} : excH H a dx C f x dx = some (.xd [(f, x)]) := upd_same
theorem excH_keep {H : Hp} {a dx C : Addr} {f : Str} {x : V} (ha : H a = none) (hd : H dx = none) {b : Addr} {o : HO} (h : H b = some o) : excH H a dx C f x b = some o := by
  unfold excH
  rw [upd_ne (ne_of_none h hd), del_ne (ne_of_none h ha), upd_ne (ne_of_none h ha), upd_ne (ne_of_none h hd), upd_ne (ne_of_none h ha)]
  exact h
abbrev lamQ : Str := ("spread.<locals>." : Str) ++ ("<lambda>" : Str)
end L2
namespace L2
open PySem PySem.Spec PyProof.Rows He
/-! the head's facts, over a written part that holds the statics, too -/
def asY (g : Addr → Option Obj) (n : Nat) : List Addr := cStatics :: asD g n
def obsY (n : Nat) (fa : List Fa) (fn : List DefD) (ts : List Tab) (tf : List Defn) (ex : PySem.W.Frag → Bool) (g : Addr → Option Obj) : AlX := (obsT fa fn ts (frT g (asY g n)), ex (frT g (asY g n)) && tabsB g tf (frT g (asY g n)))
theorem saysY {n : Nat} {fa : List Fa} {fn : List DefD} {ts : List Tab} {tf : List Defn} {ex : PySem.W.Frag → Bool} {w : World} {h : Heap} (e : obsY n fa fn ts tf ex h.get? = valX fn ts w) : SaysX fa fn ts tf ex w h (frT h.get? (asY h.get? n)) := by
  have a1 : obsT fa fn ts (frT h.get? (asY h.get? n)) = valT fn ts w := congrArg (fun z : AlX => z.1) e
  have a2 : (ex (frT h.get? (asY h.get? n)) && tabsB h.get? tf (frT h.get? (asY h.get? n))) = true := congrArg (fun z : AlX => z.2) e
  obtain ⟨b1, b2⟩ := Bool.and_eq_true_iff.mp a2
  have each : ∀ p ∈ tf, PySem.W.codeHdIn (frT h.get? (asY h.get? n)) (cT (frT h.get? (asY h.get? n)) p).1 (cT (frT h.get? (asY h.get? n)) p).2 = true ∧ ∃ o, h.get? (cT (frT h.get? (asY h.get? n)) p).2 = some o ∧ emptyTab o = true := fun p hp => by
    obtain ⟨d1, d2⟩ := Bool.and_eq_true_iff.mp (List.all_eq_true.mp b2 p hp)
    refine ⟨d1, ?_⟩
    split at d2
    · exact ⟨_, by assumption, d2⟩
    · cases d2
  refine { t := a1, more := b1, hd := fun p hp => (each p hp).1, out := fun p hp => ?_, empty := fun p hp => ?_ }
  · obtain ⟨_, o, q, z⟩ := each p hp
    exact frT_none q z
  · obtain ⟨_, o, q, z⟩ := each p hp
    rw [q, emptyTab_eq z]
def hookY (n : Nat) (fa : List Fa) (fn : List DefD) (ts : List Tab) (tf : List Defn) (ex : PySem.W.Frag → Bool) : PySem.W.Hook where
  α := AlX
  obs s := obsY n fa fn ts tf ex s.heap.get?
  val w := valX fn ts w
  says w h := ∃ K : PySem.W.Frag, K.In h ∧ SaysX fa fn ts tf ex w h K
  of _ _ e := ⟨_, frT_in, saysY e⟩
  keeps _ _ _ := fun ⟨K, hK, c⟩ k => ⟨K, PySem.W.Frag.In.keeps hK k, { t := c.t, more := c.more, hd := c.hd, out := c.out, empty := fun p hp => k _ _ (c.empty p hp) }⟩
theorem obsY_eq {n : Nat} {fa : List Fa} {fn : List DefD} {ts : List Tab} {tf : List Defn} {ex : PySem.W.Frag → Bool} {g : Addr → Option Obj} {s : Shared} (h : ∀ a, g a = s.heap.get? a) : obsY n fa fn ts tf ex g = (hookY n fa fn ts tf ex).obs s := congrArg (obsY n fa fn ts tf ex) (funext h)
end L2
/-! a lambda with one parameter: made by the def, called by a built-in -/
namespace Lam1
open PySem PySem.Spec PyProof.Rows L2 LamX
/-- the parameter x, captured names and globals, nothing else -/
structure LamP (sc scope : Scope) (x : Str) : Prop where
  kind : scope.kind = .function
  co : scope.isCoroutine = false
  gen : scope.isGenerator = false
  cell : ∀ y ∈ scope.names, y.2 ≠ .cell
  loc : ∀ y ∈ scope.names, y.2 = .local → y.1 = x
  par : scope.names.lookup x = some .local
  free : ∀ y ∈ scope.names, y.2 = .free → sc.names.lookup y.1 = some .cell ∨ sc.names.lookup y.1 = some .free
def lamPB (sc scope : Scope) (x : Str) : Bool :=
  decide (scope.kind = .function) && !scope.isCoroutine && !scope.isGenerator && decide (scope.names.lookup x = some .local) && scope.names.all fun y => !decide (y.2 = .cell) && (!decide (y.2 = .local) || decide (y.1 = x)) && (!decide (y.2 = .free) || decide (sc.names.lookup y.1 = some .cell) || decide (sc.names.lookup y.1 = some .free))
theorem lamP_by {sc scope : Scope} {x : Str} (h : lamPB sc scope x = true) : LamP sc scope x := by
  unfold lamPB at h
  simp only [Bool.and_eq_true, Bool.or_eq_true, Bool.not_eq_true', decide_eq_true_eq, decide_eq_false_iff_not, List.all_eq_true] at h
  obtain ⟨⟨⟨⟨k1, k2⟩, k3⟩, k4⟩, k5⟩ := h
  refine ⟨k1, k2, k3, fun y hy => (k5 y hy).1.1, fun y hy e => ?_, k4, fun y hy e => ?_⟩
  · rcases (k5 y hy).1.2 with z | z
    · exact absurd e z
    · exact z
  · rcases (k5 y hy).2 with (z | z) | z
    · exact absurd e z
    · exact .inl z
    · exact .inr z
theorem LamP.has {X : Cx} {scope : Scope} {x : Str} (L : LamP X.env.scope scope x) (ok : X.Ok) : ∀ y ∈ scope.names, y.2 = .free → ∃ c, X.env.cells.lookup y.1 = some c := fun y hy e => (L.free y hy e).elim (fun k => ok.has _ (.inl k)) fun k => ok.has _ (.inr k)
section
variable {X : Cx} {pins : List (Addr × Obj)} {σ : L2.St} {H HZ : Hp} {s s1 : Shared}
theorem startP {A : Around} {outer : List Env} {E : XK} {scope : Scope} {x : Str} {i : Nat} {z : V} {u : Value} {f c' : Addr} {h₁ : Heap} {tk : Nat} (I : Inv X pins σ H s) (L : LamP X.env.scope scope x) (hN : X.N.Nodup) (hi : X.N[i]? = some x) (rz : RelV z u)
    (e0 : Env0 X.prog X.w X.K X.mg X.base A outer s1 HZ) (hd : A.handled = none)
    (un : Un (frs X.stack) [] H HZ s.heap s1.heap) (hns : h₁.Ns s1.heap.objs.size fun y => ([(x, u)] : List (Str × Value)).reverse.lookup y) (kp : ∀ b o, s1.heap.get? b = some o → h₁.get? b = some o) :
    Inv (lamCx X A outer s1 HZ E scope f c') [] (σ.set i (some z)) HZ { s1 with heap := h₁, toks := tk } := by
  have has := L.has I.ok
  have toCell : ∀ {y c}, (cloFrom X.env.cells scope.names []).lookup y = some c → X.env.cells.lookup y = some c := fun {y c} e => by
    rcases cloFrom_mem (PySem.mem_of_lookup e) with hm | ⟨h1, h2⟩
    · cases hm
    · obtain ⟨c1, hc⟩ := has _ h1 rfl
      have hc : X.env.cells.lookup y = some c1 := hc
      have e2 : c = c1 := by
        rw [h2, hc] <;> rfl
      rw [e2]
      exact hc
  have caught : ∀ {y}, scope.names.lookup y = some .free → ∃ c, (cloFrom X.env.cells scope.names []).lookup y = some c := fun {y} hl => by
    have hy : (y, NameKind.free) ∈ scope.names := PySem.mem_of_lookup hl
    exact mem_lookup (cloFrom_has (cells := X.env.cells) (acc := []) hy)
  have stays : ∀ {c : Addr} {v : Option Value}, H c = none → s.heap.IsCell c v → h₁.IsCell c v := fun {c v} n ⟨o, ho, hd⟩ => by
    obtain ⟨sl, q⟩ := un.any ho n (by simp)
    exact ⟨_, kp _ _ q, hd⟩
  have none_ : ∀ b : Addr, b ∉ (lamCx X A outer s1 HZ E scope f c').ex := fun b z => absurd (show b ∈ ([] : List Addr) from z) (by simp)
  refine ⟨⟨e0.mod, L.kind, rfl, rfl, Nat.le_refl _, fun y z c e1 e2 => I.ok.inj y z c (toCell e1) (toCell e2), fun y hy => ?_, fun y c z _ => ?_, fun _ => hd, Around.frames_deeper e0.frames, .inr ⟨rfl, rfl⟩, fun b z => absurd z (none_ b), e0.bs, e0.bsz, fun b _ _ => none_ b,
      fun b z => absurd z (none_ b), e0.funs, e0.frf⟩,
    rfl, e0.bare, Un.kept kp, ⟨_, hns, fun j y v e1 e2 e3 => ?_⟩, fun y c e => ?_, e0.hok.fresh (Nat.le_refl _), fun y c e => ?_, fun q hq => absurd (show q ∈ ([] : List (Addr × Obj)) ++ [] from hq) (by simp), e0.hok.kept kp, by rw [List.length_set]; exact I.len⟩
  · have hy : scope.names.lookup y = some .cell ∨ scope.names.lookup y = some .free := hy
    rcases hy with hy | hy
    · exact absurd rfl (L.cell _ (PySem.mem_of_lookup hy))
    · exact caught hy
  · have z : false = true := z
    cases z
  · have e1 : X.N[j]? = some y := e1
    have e3 : Vis scope y := e3
    by_cases hyx : y = x
    · have hij : j = i := List.getElem?_inj (List.getElem?_eq_some_iff.mp e1).1 hN |>.mp (by rw [e1, hi, hyx])
      rw [hij] at e2
      have li : i < σ.length := by
        rw [I.len]
        exact (List.getElem?_eq_some_iff.mp hi).1
      rw [List.getElem?_set_self li] at e2
      cases e2
      refine ⟨u, rz, .inl ⟨by rw [hyx]; exact L.par, ?_⟩⟩
      rw [hyx]
      show ([(x, u)] : List (Str × Value)).reverse.lookup x = some u
      simp [List.lookup]
    · have hji : i ≠ j := fun q => by
        rw [← q, hi] at e1
        exact hyx (Option.some.inj e1).symm
      rw [List.getElem?_set_ne hji] at e2
      rcases e3 with k | k | k
      · exact absurd (L.loc _ (PySem.mem_of_lookup k) rfl) hyx
      · exact absurd rfl (L.cell _ (PySem.mem_of_lookup k))
      · obtain ⟨m, hn, hl⟩ := I.loc
        have hvis : Vis X.env.scope y := (L.free _ (PySem.mem_of_lookup k) rfl).elim (fun k => .inr (.inl k)) (fun k => .inr (.inr k))
        obtain ⟨w', r, q⟩ := hl j y v e1 e2 hvis
        obtain ⟨c2, h2⟩ := caught k
        refine ⟨w', r, .inr ⟨.inr k, c2, h2, ?_⟩⟩
        have c1 := toCell h2
        rcases q with ⟨k', _⟩ | ⟨_, c3, e', z⟩
        · have k' : X.env.scope.names.lookup y = some .local := k'
          rcases L.free _ (PySem.mem_of_lookup k) rfl with k2 | k2 <;> rw [show X.env.scope.names.lookup y = _ from k2] at k' <;> cases k'
        · rw [c1] at e'
          cases e'
          exact stays (I.freeC y _ c1) z
  · obtain ⟨w', z⟩ := I.cell y c (toCell e)
    exact ⟨w', stays (I.freeC y c (toCell e)) z⟩
  · obtain ⟨v, o, ho, hd⟩ := I.cell y c (toCell e)
    exact un.free c o ho (I.freeC y c (toCell e)) (by simp)
/-- the lambda called with a value, from a later state -/
theorem callP {A1 : Around} {k i : Nat} {scope : Scope} {x : Str} {params : Arguments} {body : Expr} {f c' : Addr} {pm ctv : Value} {z : V} {v : Value} {Q : VK} {tb : TE} (I : Inv X pins σ H s) (L : LamP X.env.scope scope x) (hN : X.N.Nodup) (hi : X.N[i]? = some x) (rz : RelV z v)
    (hf : s.heap.get? f = some (PySem.W.kla_obj "<lambda>" (X.env.qual ++ "<lambda>") params body scope (cloFrom X.env.cells scope.names []) pm c' ctv)) (hfn : H f = none) (hfr : f ∉ frs X.stack) (hco : HZ c' = some (CodeO c' (X.env.qual ++ "<lambda>")))
    (hbind : ∀ u, bindArgs (PySem.W.kla_fn "<lambda>" (X.env.qual ++ "<lambda>") params body scope (cloFrom X.env.cells scope.names []) pm (.ref c') ctv) ⟨[u], []⟩ = pure [(x, u)])
    (e0 : Env0 X.prog X.w X.K X.mg X.base A1 X.stack s1 HZ) (un : Un (frs X.stack) [] H HZ s.heap s1.heap) (lim : s1.heap.NoLimit) (hr : Room (k + 1) A1)
    (hbody : ∀ (A : Around) (outer : List Env) (s : Shared) (H : Hp), Room k (A.deeper (lamEnv X scope s.heap.objs.size f c')) → PE (lamCx X A outer s H C8.E0 scope f c') body tb) (ht : tb (σ.set i (some z)) HZ Q) :
    codeAny (model X.prog X.w) A1 (.call (.ref f) ⟨[v], []⟩) (CR (L2.CX X.prog X.w) X.stack X.prog X.w HZ s1 Q C8.E0) s1 := by
  have fat : s1.heap.get? f = some (PySem.W.kla_obj "<lambda>" (X.env.qual ++ "<lambda>") params body scope (cloFrom X.env.cells scope.names []) pm c' ctv) := un.keep f _ hf hfn hfr (fun z => nomatch (show f ∈ ([] : List Addr) from z))
  obtain ⟨⟨oc, vs, t, hoc, hdc, hvc⟩, _, _⟩ := e0.hok c' _ hco
  refine PySem.W.kla_callFunE hr.depth fat rfl L.co L.gen rfl ⟨c', oc, vs, t, rfl, hoc, hdc, hvc⟩ ?_
  rw [hbind]
  refine wpAny_pure (wpAny_newFunctionEnv L.cell (fun y hy => by rw [List.mem_singleton.mp hy]; exact L.par) (fun h₁ hns hsb => ⟨lim.fresh _ hsb, ?_⟩) L.kind)
  show codeAny _ _ (.expr body (lamEnv X scope s1.heap.objs.size f c')) _ _
  have kp : ∀ b o, s1.heap.get? b = some o → h₁.get? b = some o := fun b o e => hsb.extBut b o (Nat.ne_of_lt (Heap.lt_size e)) (Heap.get?_push_of_some _ e)
  have J : Inv (lamCx X A1 X.stack s1 HZ C8.E0 scope f c') [] (σ.set i (some z)) HZ { s1 with heap := h₁, toks := s1.toks + ([(x, v)] : List (Str × Value)).length } := startP I L hN hi rz e0 hr.hd un hns kp
  refine PySem.W.kla_codeExpr (wpAny_mono ((hbody _ _ s1 HZ (hr.deeper _)).run [] _ _ HZ Q J ht) (fun v s' hq => ?_) fun e s' hq => hq)
  obtain ⟨w', G', J', rv, q⟩ := hq
  exact ⟨w', G', J'.os, J'.bare, J'.base, J'.hok, rv, q⟩
end
end Lam1
/-! sorted(xs, key=f), f's calls told by an invariant over states -/
namespace SrtJ
open PySem PySem.W PySem.Calls PyProof.Rows
/-- all but the object at a -/
def freed (h : Heap) (a : Addr) : Heap := h.update a fun o => { o with data := .freed }
theorem freed_at {h : Heap} {a : Addr} : (freed h a).get? a = none := by
  unfold freed Heap.get? Heap.update
  simp only [Array.getElem?_modify]
  cases e : h.objs[a]? <;> simp
theorem freed_ne {h : Heap} {a b : Addr} (n : b ≠ a) : (freed h a).get? b = h.get? b := Heap.get?_update_other _ _ n.symm
section
variable {prog : Program} {w : World} {A : Around} {E : Value → Shared → Prop} {s : Shared} {a kS : Addr} {b : Bool} {vs : List Value} {kz : List PyData} {P : PySem.Fin → Shared → Prop}
theorem restJ {f : Value} {e1 : Nat} (J : Nat → Shared → List Value → Prop) (apart : kS ≠ a) (hlen : kz.length = vs.length) (fits : vs.length ≤ sizeLine) (hal : AllAlike kz) (hsk : Sortable kz) (hu : ∀ d, d ∈ kz → A.units + d.depth < cLine)
    (nk : s.heap.get? kS = some (seqObj "list" #[] 0)) (na : s.heap.get? a = some (seqObj "list" #[] e1)) (j0 : J 0 s [])
    (still : ∀ j t keys h', J j t keys → Heap.SameBut kS t.heap h' → J j { t with heap := h' } keys)
    (turn : ∀ j v t keys ok oa, vs[j]? = some v → J j t keys → t.heap.get? kS = some ok → t.heap.get? a = some oa → wpAny (model prog w) A (call f [v]) (fun u t' => J (j + 1) t' (keys ++ [u]) ∧ t'.heap.get? kS = some ok ∧ t'.heap.get? a = some oa) (fun _ _ => False) t)
    (data : ∀ t keys, J vs.length t keys → EachIs (fun v d => ∃ as, Reads t.heap v d as) keys kz)
    (fin : ∀ t keys h' tk out c, J vs.length t keys → (∀ x o, x ≠ a → x ≠ kS → t.heap.get? x = some o → h'.get? x = some o) → h'.get? a = some (seqObj "list" (List.toArray out) c) → KeyedOut b kz vs out → P (.done (.ret .none)) { t with heap := h', toks := tk }) :
    wpAny (model prog w) A (ksk_rest a f b vs.toArray e1 (.ref kS)) P E s := by
  unfold ksk_rest
  refine wpAny_bind (wpAny_rule ?_)
  rw [← Array.forIn_toList, List.toList_toArray]
  refine wpAny_bind (ksk_fold (fun j t => ∃ keys c, J j t keys ∧ t.heap.get? kS = some (seqObj "list" (List.toArray keys) c) ∧ t.heap.get? a = some (seqObj "list" #[] e1) ∧ keys.length = j) vs 0 s ⟨[], 0, j0, nk, na, rfl⟩ ?one ?all)
  case one =>
    rintro j v t hv ⟨keys, c, hj, ok, oa, hk⟩
    simp only [Nat.zero_add] at hj hk ⊢
    have lt : j < vs.length := (List.getElem?_eq_some_iff.mp hv).1
    refine wpAny_bind (wpAny_attempt (wpAny_mono (turn j v t keys _ _ hv hj ok oa) (fun u t' told => ?_) fun _ _ no => no.elim))
    obtain ⟨hj', ok', oa'⟩ := told
    have sb := Heap.SameBut.update t'.heap kS (Obj.mapSeq (·.push u))
    obtain ⟨c2, at2⟩ : ∃ c2, (t'.heap.update kS (Obj.mapSeq (·.push u))).get? kS = some (seqObj "list" ((List.toArray keys).push u) c2) := ⟨_, get?_update_seq ok' (·.push u)⟩
    refine wpAny_bind (listUpdate_at ok' rfl ?_ (by rw [List.size_toArray]; omega) (by rw [Array.size_push, List.size_toArray]; omega))
    refine wpAny_pure ⟨rfl, keys ++ [u], c2, still _ _ _ _ hj' sb, ?_, (sb.2 a apart.symm).trans oa', by rw [List.length_append, hk]; rfl⟩
    have e : (List.toArray keys).push u = List.toArray (keys ++ [u]) := by simp
    rw [← e]
    exact at2
  case all =>
    rintro t ⟨keys, c, hj, ok, oa, hk⟩
    rw [Nat.zero_add] at hj hk
    refine wpAny_bind (listItems_at ok rfl ?_)
    have rd := data t keys hj
    have e : keys = (List.toArray keys).toList := by simp
    refine keyH_end (κ := dataKind t.heap kz) (h₁ := freed t.heap kS) (fun x o nx q => ?_) freed_at ok oa apart (by rw [← e]; exact SortsAt.data rd hal hsk hu) (by rw [List.size_toArray]; exact hk) fits fun h' tk c' kp at_ => ?_
    · by_cases z : x = kS
      · rw [z, freed_at] at q
        cases q
      · rw [freed_ne z] at q
        exact q
    · refine fin t keys h' tk _ c' hj (fun x o n1 n2 q => kp x o n1 (by rw [freed_ne n2]; exact q)) at_ ⟨t.heap, keys, hal, by rw [← e], rd⟩
/-- sorted(l, key=f) -/
theorem sortedJ {l : Addr} {f : Value} {kw : List (Str × Value)} {Q : Value → Shared → Prop} (J : Nat → Shared → List Value → Prop) (hl : s.heap.IsList l vs.toArray) (fits : vs.length ≤ sizeLine) (hlen : kz.length = vs.length) (hal : AllAlike kz) (hsk : Sortable kz) (hu : ∀ d, d ∈ kz → A.units + 2 + d.depth < cLine)
    (ha1 : argsOk "sorted" ⟨[.ref l], kw⟩) (ha2 : ∀ x, argsOk "list.sort" ⟨[.ref x], kw⟩) (ht : ∀ x, Builtin.«list.sort» ⟨[.ref x], kw⟩ = ksk_tree x f b)
    (j0 : ∀ h', (∀ x o, s.heap.get? x = some o → h'.get? x = some o) → J 0 { s with heap := h' } [])
    (still : ∀ j t keys h', J j t keys → Heap.SameBut (s.heap.objs.size + 3) t.heap h' → J j { t with heap := h' } keys)
    (turn : ∀ j v t keys ok oa, vs[j]? = some v → J j t keys → t.heap.get? (s.heap.objs.size + 3) = some ok → t.heap.get? (s.heap.objs.size + 1) = some oa → wpAny (model prog w) A.in1.in1 (call f [v]) (fun u t' => J (j + 1) t' (keys ++ [u]) ∧ t'.heap.get? (s.heap.objs.size + 3) = some ok ∧ t'.heap.get? (s.heap.objs.size + 1) = some oa) (fun _ _ => False) t)
    (data : ∀ t keys, J vs.length t keys → EachIs (fun v d => ∃ as, Reads t.heap v d as) keys kz)
    (fin : ∀ t keys h' tk out c, J vs.length t keys → (∀ x o, x ≠ s.heap.objs.size + 1 → x ≠ s.heap.objs.size + 3 → t.heap.get? x = some o → h'.get? x = some o) → h'.get? (s.heap.objs.size + 1) = some (seqObj "list" (List.toArray out) c) → KeyedOut b kz vs out → Q (.ref (s.heap.objs.size + 1)) { t with heap := h', toks := tk }) :
    wpAny (model prog w) A (call (.builtin "sorted") [.ref l] kw) Q E s := by
  refine sorted_of_sort hl fits ha1 ha2 fun E' => ?_
  rw [ht]
  have here := copyHeap_at s.heap vs
  have sz0 : (copyHeap s.heap vs).objs.size = s.heap.objs.size + 2 := by
    unfold copyHeap
    rw [size_push', Heap.size_update, size_push']
  obtain ⟨e1, here1⟩ : ∃ e1, ((copyHeap s.heap vs).update (s.heap.objs.size + 1) (Obj.mapSeq fun _ => (#[] : Array Value))).get? (s.heap.objs.size + 1) = some (seqObj "list" #[] e1) := ⟨_, get?_update_seq here fun _ => #[]⟩
  unfold ksk_tree
  refine wpAny_bind (listItems_at here rfl ?_)
  refine wpAny_bind (listUpdate_at here rfl ?_ (by rw [List.size_toArray]; exact fits) (Nat.zero_le _))
  refine wpAny_bind (seqEpoch_at here1 rfl ?_)
  refine wpAny_bind (wpAny_newTuple ?_ (by show vs.length ≤ _; exact fits))
  refine wpAny_bind (wpAny_newList ?_ (Nat.zero_le _))
  refine wpAny_holding ?_
  have sz3 : (((copyHeap s.heap vs).update (s.heap.objs.size + 1) (Obj.mapSeq fun _ => (#[] : Array Value))).push (seqObj "tuple" vs.toArray 0)).objs.size = s.heap.objs.size + 3 := by rw [size_push', Heap.size_update, sz0]
  have main := restJ (prog := prog) (w := w) (A := A.in1.in1) (E := E') (s := { s with heap := (((copyHeap s.heap vs).update (s.heap.objs.size + 1) (Obj.mapSeq fun _ => (#[] : Array Value))).push (seqObj "tuple" vs.toArray 0)).push (seqObj "list" #[] 0) }) (a := s.heap.objs.size + 1) (kS := s.heap.objs.size + 3) (b := b) (vs := vs) (kz := kz) (f := f) (e1 := e1)
    (P := fun f s' => f = .done (.ret .none) ∧ Q (.ref (s.heap.objs.size + 1)) s') J (Nat.ne_of_gt (Nat.lt_succ_of_lt (Nat.lt_succ_self _))) hlen fits hal hsk (fun d hd => hu d hd) (by rw [← sz3]; exact Heap.get?_push_size _ rfl) (Heap.get?_push_of_some _ (Heap.get?_push_of_some _ here1))
    (j0 _ fun x o q => Heap.get?_push_of_some _ (Heap.get?_push_of_some _ ((Heap.get?_update_other _ _ (Nat.ne_of_gt (Nat.lt_succ_of_lt (Heap.lt_size q)))).trans (copyHeap_old q)))) still turn data fun t keys h' tk out c hj kp at_ ko => ⟨rfl, fin t keys h' tk out c hj kp at_ ko⟩
  show wpAny _ _ (ksk_rest (s.heap.objs.size + 1) f b vs.toArray _ (.ref (((copyHeap s.heap vs).update (s.heap.objs.size + 1) (Obj.mapSeq fun _ => (#[] : Array Value))).push (seqObj "tuple" vs.toArray 0)).objs.size)) _ _ _
  rw [sz3]
  exact main
end
end SrtJ
/-! sorted(xs, key=lambda x: ..): the reading -/
namespace Lam1
open PySem PySem.W PySem.Spec PyProof.Rows L2 LamX Evl
section
variable {K : PySem.W.Frag} {H H' : Hp}
mutual
theorem dpx (e : Ex H H') : ∀ {v : V} {d : PyData}, Dp K H v d → Dp K H' v d
  | _, _, .non => .non
  | _, _, .bl b => .bl b
  | _, _, .int i => .int i
  | _, _, .str x => .str x
  | _, _, .lst a b => .lst (ex_l e a) (dpxs e b)
  | _, _, .tup a b => .tup (ex_t e a) (dpxs e b)
theorem dpxs (e : Ex H H') : ∀ {vs : List V} {ds : List PyData}, DpAll K H vs ds → DpAll K H' vs ds
  | _, _, .nil => .nil
  | _, _, .cons a b => .cons (dpx e a) (dpxs e b)
end
theorem dp_more : ∀ {ws : List V} {ds : List PyData} {w : V} {d : PyData}, DpAll K H ws ds → Dp K H w d → DpAll K H (ws ++ [w]) (ds ++ [d])
  | _, _, _, _, .nil, h => .cons h .nil
  | _, _, _, _, .cons a b, h => .cons a (dp_more b h)
end
section
variable {X : Cx} {pins : List (Addr × Obj)} {σ : L2.St} {H : Hp} {s : Shared}
theorem dp_each (I : Inv X pins σ H s) : ∀ {ws : List V} {ds : List PyData} {us : List Value}, DpAll X.K H ws ds → Vals ws us → EachIs (fun v d => ∃ as, Reads s.heap v d as) us ds
  | _, _, _, .nil, .nil => .nil
  | _, _, _, .cons a b, .cons r rr => .cons (Dp.reads I _ _ _ a r) (dp_each I b rr)
theorem each_vals : ∀ {xs : List V} {us : List Value}, Vals xs us → EachIs (fun u x => RelV x u) us xs
  | _, _, .nil => .nil
  | _, _, .cons r rr => .cons r (each_vals rr)
theorem vals_each : ∀ {us : List Value} {xs : List V}, EachIs (fun u x => RelV x u) us xs → Vals xs us
  | _, _, .nil => .nil
  | _, _, .cons r rr => .cons r (vals_each rr)
theorem not_frame (I : Inv X pins σ H s) {a : Addr} (h : s.heap.objs.size ≤ a) : a ∉ frs X.stack := fun z => by
  rcases List.mem_cons.mp (I.stkSub _ z) with e | e
  · have l := I.lt
    rw [← e] at l
    exact Nat.lt_irrefl _ (Nat.lt_of_lt_of_le l h)
  · exact I.nofs h e
/-- an object that the start knows nothing of is changed, or tracked from now on -/
theorem un_new {fs : List Addr} {H1 : Hp} {h h1 h2 : Heap} {a : Addr} (u : Un fs [] H H1 h h1) (na : h.get? a = none) (nt : H1 a = none) (k : ∀ b o, b ≠ a → h.get? b ≠ none → h1.get? b = some o → h2.get? b = some o) (ob : Option HO) : Un fs [] H (match ob with | none => H1 | some o => upd H1 a o) h h2 := by
  have ne : ∀ b o, h.get? b = some o → b ≠ a := fun b o e z => by rw [z, na] at e; cases e
  have at_ : ∀ b, b ≠ a → (match ob with | none => H1 | some o => upd H1 a o) b = H1 b := fun b n => by
    cases ob with
    | none => rfl
    | some o => exact upd_ne n
  refine ⟨fun b o e n f x => k b o (ne b o e) (by rw [e]; exact fun z => nomatch z) (u.keep b o e n f x), fun b o e n f x => ?_, fun b o e n x => by rw [at_ b (ne b o e)]; exact u.free b o e n x, fun b o e x => ?_, fun b xs e => ?_, fun b o xs e => ?_, fun b ps e => ?_⟩
  · obtain ⟨sl, q⟩ := u.slot b o e n f x
    exact ⟨sl, k b _ (ne b o e) (by rw [e]; exact fun z => nomatch z) q⟩
  · obtain ⟨o', q⟩ := u.there b o e x
    exact ⟨o', k b _ (ne b o e) (by rw [e]; exact fun z => nomatch z) q⟩
  · have q := u.tups b xs e
    rw [at_ b (ne_of_none q nt)]
    exact q
  · have q := u.frzs b o xs e
    rw [at_ b (ne_of_none q nt)]
    exact q
  · obtain ⟨m, q⟩ := u.tbls b ps e
    exact ⟨m, by rw [at_ b (ne_of_none q nt)]; exact q⟩
theorem hok_but {P : Program} {w : World} {h h' : Heap} {A : Addr → Prop} (hok : HOk P w H h) (nt : ∀ a, A a → H a = none) (k : ∀ b o, ¬ A b → h.get? b = some o → h'.get? b = some o) : HOk P w H h' := fun b u e =>
  (hok b u e).stay (fun c v hc q => k c v (fun z => by
    rcases hc with r | r
    · rw [r] at z
      rw [nt b z] at e
      cases e
    · rw [nt c z] at r
      cases r) q) (fun _ q => q) fun _ _ q => q
theorem hok_adopt {P : Program} {w : World} {h : Heap} {a : Addr} {o : HO} (hok : HOk P w H h) (nt : H a = none) (new : ObjOk P w (upd H a o) h a o) : HOk P w (upd H a o) h := fun b u e => by
  by_cases z : b = a
  · subst z
    rw [upd_same] at e
    cases e
    exact new
  · rw [upd_ne z] at e
    exact (hok b u e).stay (fun c v hc q => q) (fun d q => by rw [upd_ne (ne_of_none q nt)]; exact q) fun d xs q => by rw [upd_ne (ne_of_none q nt)]; exact q
def oneOf (P : V → Hp → Prop) : List V → Hp → Prop
  | [y], H => P y H
  | _, _ => False
theorem oneOf_has {P : V → Hp → Prop} : ∀ {vs : List V} {H : Hp}, oneOf P vs H → ∃ y, vs = [y] ∧ P y H
  | [], _, h => h.elim
  | [y], _, h => ⟨y, rfl, h⟩
  | _ :: _ :: _, _, h => h.elim
def tSortLam (K : PySem.W.Frag) (T : List (Addr × Str)) (ta : TE) (i : Nat) (tb : TE) : TE := fun σ H Q => ta σ H fun x H1 => Tabs T H1 ∧ ∀ H2, ExtN H1 H2 → Tabs T H2 → ∃ (l : Addr) (xs : List V) (key : V → PyData), x = .ref l ∧ SqL K H2 l xs ∧ PySem.W.AllAlike (xs.map key) ∧ PySem.W.Sortable (xs.map key) ∧ (∀ y ∈ xs, (key y).depth ≤ 20) ∧
  (∀ y ∈ xs, ∀ H3, Ex H2 H3 → tb (σ.set i (some y)) H3 fun w H4 => Ex H3 H4 ∧ Dp K H4 w (key y)) ∧ ∀ p H3, H2 p = none → Ex H2 H3 → H3 p = none → Q (.ref p) (upd H3 p (.lst (xs.mergeSort (PySem.W.dataLe false key))))
theorem pe_sortedLam {T : List (Addr × Str)} {c P : Addr} {k i : Nat} {x : Str} {params : Arguments} {body : Expr} {scope : Scope} {ta tb : TE} {e : Expr} {p lpos kpos pos : Pos} (hg : Gl X "sorted") (hm : X.mg "sorted" = none) (ha : PE X e ta) (hN : X.N.Nodup) (hi : X.N[i]? = some x) (L : LamP X.env.scope scope x)
    (TB : TabB X.base X.mg c P) (hcode : X.env.code = .ref c) (hmT : (P, X.env.qual ++ "<lambda>") ∈ T) (hu : ∀ p ∈ T, p.1 = P → p.2 = X.env.qual ++ "<lambda>") (hr : Room (k + 3) X.A) (hdef : defaultsOf params X.env = ([], []))
    (hbind : ∀ (q : Str) (cl : List (Str × Addr)) (pm cv ctv u : Value), bindArgs (PySem.W.kla_fn "<lambda>" q params body scope cl pm cv ctv) ⟨[u], []⟩ = pure [(x, u)])
    (hbody : ∀ (A : Around) (outer : List Env) (s : Shared) (H : Hp) (f c' : Addr), Room k (A.deeper (lamEnv X scope s.heap.objs.size f c')) → PE (lamCx X A outer s H C8.E0 scope f c') body tb)
    (hs : starEach [e] X.env = (false, eval e X.env) :: starEach [] X.env := by rfl) (he : backTo pos (starEach [e] X.env) = (false, eval e X.env) :: backTo pos (starEach [] X.env) := by rfl) (hpl : (backTo pos (starEach [e] X.env)).any (·.1) = false := by rfl) :
    PE X (.Call (.Name "sorted" p) [e] [⟨some "key", .Lambda params body scope lpos, kpos⟩] pos) (tSortLam X.K T ta i tb) := by
  refine ⟨fun pins s σ H Q I h => ?_⟩
  refine wpAny_Call_Name_kw (ld_blt I hg hm (by rfl) ?_)
  refine PyProof.Rows.callWith_kw (thn ((pa_cons ha pa_nil hs).run pos pins s σ H (oneOf (fun y H1 => Tabs T H1 ∧ ∀ H2, ExtN H1 H2 → Tabs T H2 → ∃ (l : Addr) (xs : List V) (key : V → PyData), y = .ref l ∧ SqL X.K H2 l xs ∧ PySem.W.AllAlike (xs.map key) ∧ PySem.W.Sortable (xs.map key) ∧ (∀ y ∈ xs, (key y).depth ≤ 20) ∧
    (∀ y ∈ xs, ∀ H3, Ex H2 H3 → tb (σ.set i (some y)) H3 fun w H4 => Ex H3 H4 ∧ Dp X.K H4 w (key y)) ∧ ∀ p H3, H2 p = none → Ex H2 H3 → H3 p = none → Q (.ref p) (upd H3 p (.lst (xs.mergeSort (PySem.W.dataLe false key)))))) I h) fun us s1 ⟨vs, H1, I1, r1, q1⟩ => ?_) he hpl (by rfl) (by rfl)
  obtain ⟨y, rfl, hT, q1⟩ := oneOf_has q1
  show wpAny _ _ (evalAll ((do let v ← eval (.Lambda params body scope lpos) X.env; standAt pos; pure v) :: [])) _ _ s1
  refine wpAny_evalAll_cons (wpAny_bind (lam_make2 I1 TB hcode hmT hu hT hdef (L.has I1.ok) fun f c' pm' ctv H2 s2 I2 eN T2 hf hfn hfr hco => wpAny_bind (wpAny_standAt (wpAny_pure (wpAny_evalAll_nil ?_)))))
  obtain ⟨l, xs, key, rfl, hl, hal, hsk, hdp, ht, q⟩ := q1 H2 eN T2
  cases r1 with
  | cons ru rn =>
    cases rn
    cases ru
    obtain ⟨its, rv, pl, hz⟩ := I2.list hl
    have hlen := rv.length
    have n1 : s2.heap.get? (s2.heap.objs.size + 1) = none := Heap.get?_none_of_le (Nat.le_succ _)
    have n3 : s2.heap.get? (s2.heap.objs.size + 3) = none := Heap.get?_none_of_le (Nat.le_add_right _ _)
    have ap : s2.heap.objs.size + 3 ≠ s2.heap.objs.size + 1 := Nat.ne_of_gt (Nat.lt_succ_of_lt (Nat.lt_succ_self _))
    have toInv : ∀ {t : Shared} {Hj : Hp}, Un (frs X.stack) [] H2 Hj s2.heap t.heap → HOk X.prog X.w Hj t.heap → t.os = s2.os → AllBare t.gens → Inv X pins σ Hj t := fun {t Hj} un ok os bare => by
      obtain ⟨hh, g, d, tk, os'⟩ := t
      obtain rfl : os' = s2.os := os
      exact I2.call un ok bare (fun b hb => nomatch hb)
    refine SrtJ.sortedJ (kz := xs.map key) (fun j t keys => ∃ Hj ws, Un (frs X.stack) [] H2 Hj s2.heap t.heap ∧ HOk X.prog X.w Hj t.heap ∧ t.os = s2.os ∧ AllBare t.gens ∧ Ex H2 Hj ∧ Hj (s2.heap.objs.size + 1) = none ∧ Hj (s2.heap.objs.size + 3) = none ∧ Vals ws keys ∧ DpAll X.K Hj ws ((xs.map key).take j))
      pl.isList (by rw [← hlen]; exact hz) (by rw [List.length_map, hlen]) hal hsk (fun d hd => ?_) (ksk_s1 _ _) (fun _ => ksk_l1 _ _) (fun x => ksk_t1 _ _) (fun h' keep => ?_) ?_ ?_ ?_ ?_
    · obtain ⟨y, hy, rfl⟩ := List.mem_map.mp hd
      have := hdp y hy
      have := hr.un
      omega
    · exact ⟨H2, [], Un.kept keep, I2.hok.kept keep, rfl, I2.bare, Ex.refl _, I2.hok.fresh (Nat.le_succ _), I2.hok.fresh (Nat.le_add_right _ _), .nil, by rw [List.take_zero]; exact .nil⟩
    · rintro j t keys h' ⟨Hj, ws, un, ok, os, bare, ex, e1, e3, rw_, dp⟩ sb
      refine ⟨Hj, ws, un_new un n3 e3 (fun b o nb _ q => (sb.2 b nb).trans q) none, hok_but (A := fun b => b = s2.heap.objs.size + 3) ok (fun a z => by rw [z]; exact e3) (fun b o nb q => (sb.2 b nb).trans q), os, bare, ex, e1, e3, rw_, dp⟩
    · rintro j v t keys o3 o1 hv ⟨Hj, ws, un, ok, os, bare, ex, e1, e3, rw_, dp⟩ h3 h1
      have It := toInv un ok os bare
      have lt : j < its.length := (List.getElem?_eq_some_iff.mp hv).1
      have hx : xs[j]? = some xs[j] := List.getElem?_eq_getElem (by omega)
      obtain ⟨u0, hu0, ru0⟩ := rv.get hx
      rw [hv] at hu0
      cases hu0
      have E0 := It.env0
      have rc := callP (A1 := X.A.in1.in1) (Q := fun w H4 => Ex Hj H4 ∧ Dp X.K H4 w (key xs[j])) I2 L hN hi ru0 hf hfn hfr (ex _ _ hco) (fun u => hbind _ _ _ _ _ u) ⟨E0.frames, E0.mod, E0.bs, E0.bsz, E0.funs, E0.frf, E0.hok, E0.bare⟩ un It.nolimit (hr.in1.in1) (hbody · · · · f c') (ht _ (List.getElem_mem _) Hj ex)
      refine wpAny_call (codeAny_mono rc fun r s' hq => ?_)
      cases r with
      | error e => exact (show False from by
          obtain ⟨_, _, _, _, _, _, _, _, _, _, _, _, z⟩ := hq
          exact z)
      | ok fl =>
        cases fl with
        | ret u =>
          obtain ⟨w, H4, os4, bare4, un4, ok4, r4, ex4, dp4⟩ := hq
          refine ⟨⟨H4, ws ++ [w], un.trans un4, ok4, os4.trans os, bare4, ex.trans ex4, un4.free _ _ h1 e1 (fun z => nomatch z), un4.free _ _ h3 e3 (fun z => nomatch z), rw_.append (.cons r4 .nil), ?_⟩, un4.keep _ _ h3 e3 (not_frame I2 (Nat.le_add_right _ _)) (fun z => nomatch z), un4.keep _ _ h1 e1 (not_frame I2 (Nat.le_succ _)) (fun z => nomatch z)⟩
          have ek : (xs.map key).take (j + 1) = (xs.map key).take j ++ [key xs[j]] := by
            rw [List.take_add_one, List.getElem?_map, hx]
            rfl
          rw [ek]
          exact dp_more (dpxs ex4 dp) dp4
        | next => exact False.elim hq
        | brk => exact False.elim hq
        | cont => exact False.elim hq
    · rintro t keys ⟨Hj, ws, un, ok, os, bare, ex, e1, e3, rw_, dp⟩
      have full : (xs.map key).take its.length = xs.map key := List.take_of_length_le (by rw [List.length_map, hlen]; exact Nat.le_refl _)
      rw [full] at dp
      exact dp_each (toInv un ok os bare) dp rw_
    · rintro t keys h' tk out cc ⟨Hj, ws, un, ok, os, bare, ex, e1, e3, rw_, dp⟩ kp at_ ko
      have outs := vals_each (PySem.W.keyedOut_each key ko (each_vals rv))
      have k1 : HOk X.prog X.w Hj h' := hok_but (A := fun b => b = s2.heap.objs.size + 1 ∨ b = s2.heap.objs.size + 3) ok (fun a z => by
        rcases z with z | z
        · rw [z]; exact e1
        · rw [z]; exact e3) (fun b o nb q => kp b o (fun z => nb (.inl z)) (fun z => nb (.inr z)) q)
      have lo : (xs.mergeSort (PySem.W.dataLe false key)).length ≤ sizeLine := by
        rw [List.length_mergeSort]
        exact hz
      have new : ObjOk X.prog X.w (upd Hj (s2.heap.objs.size + 1) (.lst (xs.mergeSort (PySem.W.dataLe false key)))) h' (s2.heap.objs.size + 1) (.lst (xs.mergeSort (PySem.W.dataLe false key))) := ⟨lo, out, cc, outs, at_⟩
      have u2 : Un (frs X.stack) [] H2 (upd Hj (s2.heap.objs.size + 1) (.lst (xs.mergeSort (PySem.W.dataLe false key)))) s2.heap h' := un_new un n1 e1 (fun b o nb hb q => kp b o nb (fun z => hb (by rw [z]; exact n3)) q) (some _)
      have If : Inv X pins σ (upd Hj (s2.heap.objs.size + 1) (.lst (xs.mergeSort (PySem.W.dataLe false key)))) { t with heap := h', toks := tk } := by
        obtain ⟨hh, g, d, tk', os'⟩ := t
        obtain rfl : os' = s2.os := os
        exact I2.call (d' := d) u2 (hok_adopt k1 e1 new) bare (fun b hb => nomatch hb)
      exact ⟨.ref _, _, If, rfl, q _ Hj (I2.hok.fresh (Nat.le_succ _)) ex e1⟩
end
end Lam1
/-! min(xs, key=lambda x: ..) over a list of things told by refs, keys whole numbers: the reading -/
namespace Lam1
open PySem PySem.W PySem.Spec PyProof.Rows L2 LamX Evl
section
variable {X : Cx} {pins : List (Addr × Obj)} {σ : L2.St} {H : Hp} {s : Shared}
/-- the first of the least -/
def bestOf (kz : List Int) : Nat := argBest (fun i j => decide (kz.getD i 0 < kz.getD j 0)) (kz.length - 1)
def tMinLam (K : PySem.W.Frag) (T : List (Addr × Str)) (ta : TE) (i : Nat) (tb : TE) : TE := fun σ H Q => ta σ H fun x H1 => Tabs T H1 ∧ ∀ H2, ExtN H1 H2 → Tabs T H2 → ∃ (l : Addr) (as : List Addr) (kz : List Int), x = .ref l ∧ SqL K H2 l (as.map V.ref) ∧ as ≠ [] ∧ kz.length = as.length ∧
  (∀ (j : Nat) (a : Addr) (z : Int), as[j]? = some a → kz[j]? = some z → ∀ H3, Ex H2 H3 → tb (σ.set i (some (.ref a))) H3 fun w H4 => Ex H3 H4 ∧ w = .int z) ∧ ∀ (a : Addr) (H3 : Hp), as[bestOf kz]? = some a → Ex H2 H3 → Q (.ref a) H3
theorem refs_vals : ∀ {as : List Addr} {us : List Value}, Vals (as.map V.ref) us → us = as.map Value.ref
  | [], _, .nil => rfl
  | a :: as, _, .cons r rr => by
    have r : _ = Value.ref a := r
    rw [r, refs_vals rr]
    rfl
theorem pe_minLam {T : List (Addr × Str)} {c P : Addr} {k i : Nat} {x : Str} {params : Arguments} {body : Expr} {scope : Scope} {ta tb : TE} {e : Expr} {p lpos kpos pos : Pos} (hg : Gl X "min") (hm : X.mg "min" = none) (ha : PE X e ta) (hN : X.N.Nodup) (hi : X.N[i]? = some x) (L : LamP X.env.scope scope x)
    (TB : TabB X.base X.mg c P) (hcode : X.env.code = .ref c) (hmT : (P, X.env.qual ++ "<lambda>") ∈ T) (hu : ∀ p ∈ T, p.1 = P → p.2 = X.env.qual ++ "<lambda>") (hr : Room (k + 3) X.A) (hdef : defaultsOf params X.env = ([], []))
    (hbind : ∀ (q : Str) (cl : List (Str × Addr)) (pm cv ctv u : Value), bindArgs (PySem.W.kla_fn "<lambda>" q params body scope cl pm cv ctv) ⟨[u], []⟩ = pure [(x, u)])
    (hbody : ∀ (A : Around) (outer : List Env) (s : Shared) (H : Hp) (f c' : Addr), Room k (A.deeper (lamEnv X scope s.heap.objs.size f c')) → PE (lamCx X A outer s H C8.E0 scope f c') body tb)
    (hs : starEach [e] X.env = (false, eval e X.env) :: starEach [] X.env := by rfl) (he : backTo pos (starEach [e] X.env) = (false, eval e X.env) :: backTo pos (starEach [] X.env) := by rfl) (hpl : (backTo pos (starEach [e] X.env)).any (·.1) = false := by rfl) :
    PE X (.Call (.Name "min" p) [e] [⟨some "key", .Lambda params body scope lpos, kpos⟩] pos) (tMinLam X.K T ta i tb) := by
  refine ⟨fun pins s σ H Q I h => ?_⟩
  refine wpAny_Call_Name_kw (ld_blt I hg hm (by rfl) ?_)
  refine PyProof.Rows.callWith_kw (thn ((pa_cons ha pa_nil hs).run pos pins s σ H (oneOf (fun y H1 => Tabs T H1 ∧ ∀ H2, ExtN H1 H2 → Tabs T H2 → ∃ (l : Addr) (as : List Addr) (kz : List Int), y = .ref l ∧ SqL X.K H2 l (as.map V.ref) ∧ as ≠ [] ∧ kz.length = as.length ∧
    (∀ (j : Nat) (a : Addr) (z : Int), as[j]? = some a → kz[j]? = some z → ∀ H3, Ex H2 H3 → tb (σ.set i (some (.ref a))) H3 fun w H4 => Ex H3 H4 ∧ w = .int z) ∧ ∀ (a : Addr) (H3 : Hp), as[bestOf kz]? = some a → Ex H2 H3 → Q (.ref a) H3)) I h) fun us s1 ⟨vs, H1, I1, r1, q1⟩ => ?_) he hpl (by rfl) (by rfl)
  obtain ⟨y, rfl, hT, q1⟩ := oneOf_has q1
  show wpAny _ _ (evalAll ((do let v ← eval (.Lambda params body scope lpos) X.env; standAt pos; pure v) :: [])) _ _ s1
  refine wpAny_evalAll_cons (wpAny_bind (lam_make2 I1 TB hcode hmT hu hT hdef (L.has I1.ok) fun f c' pm' ctv H2 s2 I2 eN T2 hf hfn hfr hco => wpAny_bind (wpAny_standAt (wpAny_pure (wpAny_evalAll_nil ?_)))))
  obtain ⟨l, as, kz, rfl, hl, ne0, kl, ht, q⟩ := q1 H2 eN T2
  cases r1 with
  | cons ru rn =>
    cases rn
    cases ru
    obtain ⟨its, rv, pl, hz⟩ := I2.list hl
    have hits : its = as.map Value.ref := refs_vals rv
    subst hits
    have n0 : s2.heap.get? s2.heap.objs.size = none := Heap.get?_none_of_le (Nat.le_refl _)
    have n1 : s2.heap.get? (s2.heap.objs.size + 1) = none := Heap.get?_none_of_le (Nat.le_succ _)
    have pos : 0 < as.length := List.length_pos_iff.mpr ne0
    have toInv : ∀ {t : Shared} {Hj : Hp}, Un (frs X.stack) [] H2 Hj s2.heap t.heap → HOk X.prog X.w Hj t.heap → t.os = s2.os → AllBare t.gens → Inv X pins σ Hj t := fun {t Hj} un ok os bare => by
      obtain ⟨hh, g, d, tk, os'⟩ := t
      obtain rfl : os' = s2.os := os
      exact I2.call un ok bare (fun b hb => nomatch hb)
    refine call_min_walkK (iter_listW (A := X.A.in1) ?calm pl.isList fun s3 e3 wk st lt fr keep => ?_)
    case calm => exact hr.in1.hd
    have s3z : s3.heap.objs.size = s2.heap.objs.size + 1 := by
      rw [e3]
      exact size_push' ..
    refine ⟨_, _, _, _, _, _, _, fun t => ∃ Hj, Un (frs X.stack) [] H2 Hj s2.heap t.heap ∧ HOk X.prog X.w Hj t.heap ∧ t.os = s2.os ∧ AllBare t.gens ∧ Ex H2 Hj ∧ Hj s2.heap.objs.size = none ∧ Hj (s2.heap.objs.size + 1) = none, fun j u _ => ∃ t, u = .int (kz.getD j 0) t, fun i j => decide (kz.getD i 0 < kz.getD j 0), rfl, wk, st, lt, ?_, ⟨?_, ?_, ?_, ?_⟩, ?_, ?_⟩
    · rw [List.size_toArray, List.length_map]
      exact pos
    · rintro t t' ⟨Hj, un, ok, os, bare, ex, h0, h1⟩ mv
      rw [s3z] at mv
      have k1 : ∀ b o, b ≠ s2.heap.objs.size → b ≠ s2.heap.objs.size + 1 → t.heap.get? b = some o → t'.heap.get? b = some o := fun b o na nb e => mv.heap b o (by simp [na, nb]) e
      refine ⟨Hj, un_new un n1 h1 (fun b o nb hb e => k1 b o (fun z => hb (by rw [z]; exact n0)) nb e) none, hok_but (A := fun b => b = s2.heap.objs.size ∨ b = s2.heap.objs.size + 1) ok (fun a z => by rcases z with z | z <;> rw [z] <;> assumption) (fun b o nb e => k1 b o (fun z => nb (.inl z)) (fun z => nb (.inr z)) e), mv.os.trans os, ?_, ex, h0, h1⟩
      have := mv.gens
      rw [this]
      exact bare
    · exact fun i k t t' h _ => h
    · rintro j v t o Q' E' hj hv ⟨Hj, un, ok, os, bare, ex, h0, h1⟩ st1 hS fin
      rw [s3z] at hS fin
      have It := toInv un ok os bare
      rw [List.size_toArray, List.length_map] at hj
      have hv : (List.toArray (as.map Value.ref))[j]? = some v := hv
      rw [List.getElem?_toArray, List.getElem?_map, List.getElem?_eq_getElem hj] at hv
      have hv : Value.ref as[j] = v := Option.some.inj hv
      subst hv
      have hk : kz[j]? = some (kz.getD j 0) := by
        rw [List.getD_eq_getElem?_getD, List.getElem?_eq_getElem (by omega)]
        rfl
      have E0 := It.env0
      have rc := callP (A1 := X.A.in1) (z := .ref as[j]) (v := .ref as[j]) (Q := fun w H4 => Ex Hj H4 ∧ w = .int (kz.getD j 0)) I2 L hN hi rfl hf hfn hfr (ex _ _ hco) (fun u => hbind _ _ _ _ _ u) ⟨E0.frames, E0.mod, E0.bs, E0.bsz, E0.funs, E0.frf, E0.hok, E0.bare⟩ un It.nolimit (k := k) (hr.in1.mono (Nat.le_succ _)) (hbody · · · · f c') (ht j _ _ (List.getElem?_eq_getElem hj) hk Hj ex)
      refine wpAny_call (codeAny_mono rc fun r s' hq => ?_)
      cases r with
      | error e => exact False.elim (by
          obtain ⟨_, _, _, _, _, _, _, _, _, _, _, _, z⟩ := hq
          exact z)
      | ok fl =>
        cases fl with
        | ret u =>
          obtain ⟨w, H4, os4, bare4, un4, ok4, r4, ex4, dp4⟩ := hq
          rw [dp4] at r4
          obtain ⟨tk, r4⟩ := r4
          have J4 := un.trans un4
          have b4 : s'.os = s2.os := os4.trans os
          have I4 := toInv J4 ok4 b4 bare4
          obtain ⟨its4, rv4, pl4, _⟩ := I4.list (ex_l (ex.trans ex4) hl)
          have hi4 := refs_vals rv4
          subst hi4
          obtain ⟨oi, g1, g2, g3⟩ := st1.1
          refine fin u s' ⟨H4, J4, ok4, b4, bare4, ex.trans ex4, un4.free _ _ g1 h0 (fun z => nomatch z), un4.free _ _ hS h1 (fun z => nomatch z)⟩ ⟨⟨oi, un4.keep _ _ g1 h0 (not_frame I2 (Nat.le_refl _)) (fun z => nomatch z), g2, g3⟩, pl4.isList⟩ (un4.keep _ _ hS h1 (not_frame I2 (Nat.le_succ _)) (fun z => nomatch z)) ⟨tk, r4⟩ fun j k h => h
        | next => exact False.elim hq
        | brk => exact False.elim hq
        | cont => exact False.elim hq
    · rintro a b ka kb t Q' E' _ ⟨ta', rfl⟩ ⟨tb', rfl⟩ h
      exact PyProof.Rows.lt_int h
    · subst e3
      refine ⟨H2, Un.kept fun b o e => keep b o e, I2.hok.kept fun b o e => keep b o e, rfl, I2.bare, Ex.refl _, I2.hok.fresh (Nat.le_refl _), I2.hok.fresh (Nat.le_succ _)⟩
    · rintro v t hv ⟨Hj, un, ok, os, bare, ex, h0, h1⟩
      rw [List.size_toArray, List.length_map, ← kl] at hv
      have hv : (List.toArray (as.map Value.ref))[bestOf kz]? = some v := hv
      rw [List.getElem?_toArray, List.getElem?_map] at hv
      obtain ⟨a, ha', rfl⟩ := Option.map_eq_some_iff.mp hv
      exact ⟨.ref a, Hj, toInv un ok os bare, rfl, q a Hj ha' ex⟩
end
end Lam1
/-! Determinants by the first row, over the rational numbers: what rows do to them. No library is needed. -/
namespace Dt
abbrev Mx := Nat → Nat → Rat
/-! ### sums -/
def sm : Nat → (Nat → Rat) → Rat
  | 0, _ => 0
  | n + 1, f => sm n f + f n
theorem sm_congr {f g : Nat → Rat} : ∀ {n : Nat}, (∀ j, j < n → f j = g j) → sm n f = sm n g
  | 0, _ => rfl
  | n + 1, h => by
    show sm n f + f n = sm n g + g n
    rw [sm_congr fun j hj => h j (by omega), h n (by omega)]
theorem sm_zero : ∀ n : Nat, sm n (fun _ => 0) = 0
  | 0 => rfl
  | n + 1 => by
    show sm n (fun _ => 0) + 0 = 0
    rw [sm_zero n]
    exact Rat.add_zero 0
theorem sm_add {f g : Nat → Rat} : ∀ n : Nat, sm n (fun j => f j + g j) = sm n f + sm n g
  | 0 => (Rat.add_zero 0).symm
  | n + 1 => by
    show sm n (fun j => f j + g j) + (f n + g n) = (sm n f + f n) + (sm n g + g n)
    rw [sm_add n]
    grind
theorem sm_mul {f : Nat → Rat} (c : Rat) : ∀ n : Nat, sm n (fun j => c * f j) = c * sm n f
  | 0 => by
    show (0 : Rat) = c * 0
    grind
  | n + 1 => by
    show sm n (fun j => c * f j) + c * f n = c * (sm n f + f n)
    rw [sm_mul c n]
    grind
theorem sm_comm {f : Nat → Nat → Rat} (m : Nat) : ∀ n : Nat, sm n (fun i => sm m fun j => f i j) = sm m fun j => sm n fun i => f i j
  | 0 => (sm_zero m).symm
  | n + 1 => by
    show sm n (fun i => sm m fun j => f i j) + sm m (fun j => f n j) = sm m fun j => (sm n fun i => f i j) + f n j
    rw [sm_comm m n, sm_add]
def skip (j l : Nat) : Nat := if l < j then l else l + 1
theorem skip_lt {j l : Nat} (h : l < j) : skip j l = l := if_pos h
theorem skip_ge {j l : Nat} (h : j ≤ l) : skip j l = l + 1 := if_neg (by omega)
/-- the sum over all but j -/
theorem sm_skip {g : Nat → Rat} {j : Nat} : ∀ {n : Nat}, j ≤ n → sm n (fun k => g (skip j k)) = sm (n + 1) fun m => if m = j then 0 else g m
  | 0, h => by
    have : j = 0 := by omega
    subst this
    show (0 : Rat) = 0 + (if (0 : Nat) = 0 then 0 else g 0)
    rw [if_pos rfl]
    exact (Rat.add_zero 0).symm
  | n + 1, h => by
    by_cases c : j = n + 1
    · subst c
      have e : sm (n + 1) (fun k => g (skip (n + 1) k)) = sm (n + 1) fun m => if m = n + 1 then 0 else g m := sm_congr fun k hk => by
        rw [skip_lt hk, if_neg (by omega)]
      show _ = sm (n + 1) (fun m => if m = n + 1 then 0 else g m) + (if n + 1 = n + 1 then 0 else g (n + 1))
      rw [e, if_pos rfl]
      grind
    · show sm n (fun k => g (skip j k)) + g (skip j n) = sm (n + 1) (fun m => if m = j then 0 else g m) + (if n + 1 = j then 0 else g (n + 1))
      rw [sm_skip (by omega), skip_ge (by omega), if_neg (by omega)]
/-! ### determinants -/
def sg (j : Nat) : Rat := if j % 2 = 0 then 1 else -1
theorem sg_succ (j : Nat) : sg (j + 1) = -sg j := by
  unfold sg
  by_cases c : j % 2 = 0
  · rw [if_pos c, if_neg (by omega)]
  · rw [if_neg c, if_pos (by omega)]
    rfl
theorem sg_sq (j : Nat) : sg j * sg j = 1 := by
  unfold sg
  split <;> decide +kernel
def minor (M : Mx) (j : Nat) : Mx := fun i l => M (i + 1) (skip j l)
def det : Nat → Mx → Rat
  | 0, _ => 1
  | n + 1, M => sm (n + 1) fun j => sg j * M 0 j * det n (minor M j)
theorem det_congr : ∀ {n : Nat} {M N : Mx}, (∀ i j, i < n → j < n → M i j = N i j) → det n M = det n N
  | 0, _, _, _ => rfl
  | n + 1, M, N, h => sm_congr fun j hj => by
    rw [h 0 j (by omega) hj, det_congr (n := n) (M := minor M j) (N := minor N j) fun i l hi hl => h (i + 1) (skip j l) (by omega) (by unfold skip; split <;> omega)]
/-- linear in each row -/
theorem det_lin {c : Rat} {r : Nat} : ∀ {n : Nat} {M A B : Mx}, r < n → (∀ j, j < n → M r j = A r j + c * B r j) → (∀ i j, i ≠ r → i < n → j < n → M i j = A i j ∧ M i j = B i j) → det n M = det n A + c * det n B
  | 0, _, _, _, h, _, _ => by omega
  | n + 1, M, A, B, hr, h1, h2 => by
    show sm (n + 1) _ = sm (n + 1) _ + c * sm (n + 1) _
    rw [← sm_mul, ← sm_add]
    refine sm_congr fun j hj => ?_
    by_cases c0 : r = 0
    · subst c0
      have e1 : det n (minor M j) = det n (minor A j) := det_congr fun i l hi hl => (h2 (i + 1) (skip j l) (by omega) (by omega) (by unfold skip; split <;> omega)).1
      have e2 : det n (minor M j) = det n (minor B j) := det_congr fun i l hi hl => (h2 (i + 1) (skip j l) (by omega) (by omega) (by unfold skip; split <;> omega)).2
      rw [h1 j hj, ← e1, ← e2]
      grind
    · have e := det_lin (c := c) (r := r - 1) (n := n) (M := minor M j) (A := minor A j) (B := minor B j) (by omega) (fun l hl => by
        have := h1 (skip j l) (by unfold skip; split <;> omega)
        unfold minor
        rw [show r - 1 + 1 = r by omega]
        exact this) (fun i l hi hi2 hl => h2 (i + 1) (skip j l) (by omega) (by omega) (by unfold skip; split <;> omega))
      have g := h2 0 j (fun z => c0 z.symm) (by omega) hj
      rw [e, ← g.1, ← g.2]
      grind
/-! ### two rows exchanged -/
/-- the columns but j and m -/
def skip2 (j m l : Nat) : Nat := if m < j then skip j (skip m l) else skip j (skip (m - 1) l)
theorem skip_skip {j m : Nat} (h : m < j) (l : Nat) : skip j (skip m l) = skip m (skip (j - 1) l) := by
  by_cases a : l < m
  · rw [skip_lt a, skip_lt (show l < j by omega), skip_lt (show l < j - 1 by omega), skip_lt a]
  · by_cases b : l < j - 1
    · rw [skip_ge (show m ≤ l by omega), skip_lt (show l + 1 < j by omega), skip_lt b, skip_ge (show m ≤ l by omega)]
    · rw [skip_ge (show m ≤ l by omega), skip_ge (show j ≤ l + 1 by omega), skip_ge (show j - 1 ≤ l by omega), skip_ge (show m ≤ l + 1 by omega)]
theorem skip2_comm {j m : Nat} (h : j ≠ m) (l : Nat) : skip2 j m l = skip2 m j l := by
  unfold skip2
  by_cases c : m < j
  · rw [if_pos c, if_neg (by omega)]
    exact skip_skip c l
  · rw [if_neg c, if_pos (by omega)]
    exact (skip_skip (by omega) l).symm
def s2 (j m : Nat) : Rat := if m < j then sg j * sg m else -(sg j * sg m)
theorem s2_comm {j m : Nat} (h : j ≠ m) : s2 j m = -s2 m j := by
  unfold s2
  by_cases c : m < j
  · rw [if_pos c, if_neg (by omega)]
    grind
  · rw [if_neg c, if_pos (by omega)]
    grind
def D2 (n : Nat) (M : Mx) (j m : Nat) : Rat := det n fun i l => M (i + 2) (skip2 j m l)
theorem det_two (n : Nat) (M : Mx) : det (n + 2) M = sm (n + 2) fun j => sm (n + 2) fun m => if m = j then 0 else s2 j m * M 0 j * M 1 m * D2 n M j m := by
  show sm (n + 2) _ = _
  refine sm_congr fun j hj => ?_
  show sg j * M 0 j * sm (n + 1) (fun k => sg k * (minor M j) 0 k * det n (minor (minor M j) k)) = _
  rw [← sm_mul, ← sm_skip (g := fun m => s2 j m * M 0 j * M 1 m * D2 n M j m) (n := n + 1) (j := j) (by omega)]
  refine sm_congr fun k hk => ?_
  have e1 : (minor M j) 0 k = M 1 (skip j k) := rfl
  have e2 : det n (minor (minor M j) k) = D2 n M j (skip j k) := by
    refine det_congr fun i l _ _ => ?_
    show M (i + 2) (skip j (skip k l)) = M (i + 2) (skip2 j (skip j k) l)
    congr 1
    unfold skip2
    by_cases c : k < j
    · rw [skip_lt c, if_pos c]
    · have hs : skip j k = k + 1 := skip_ge (by omega)
      rw [hs, if_neg (by omega), Nat.add_sub_cancel]
  have e3 : s2 j (skip j k) = sg j * sg k := by
    unfold s2
    by_cases c : k < j
    · rw [skip_lt c, if_pos c]
    · rw [skip_ge (by omega), if_neg (by omega), sg_succ]
      grind
  rw [e1, e2, e3]
  grind
/-- rows r and r + 1 exchanged -/
def sw (r : Nat) (M : Mx) : Mx := fun i j => M (if i = r then r + 1 else if i = r + 1 then r else i) j
theorem det_sw : ∀ {n r : Nat} {M : Mx}, r + 1 < n → det n (sw r M) = -det n M
  | n + 2, 0, M, _ => by
    rw [det_two, det_two, sm_comm]
    have : ∀ x : Rat, -x = (-1) * x := fun x => by grind
    rw [this, ← sm_mul]
    refine sm_congr fun j hj => ?_
    rw [← sm_mul]
    refine sm_congr fun m hm => ?_
    by_cases c : j = m
    · subst c
      rw [if_pos rfl]
      grind
    · rw [if_neg c, if_neg (fun z => c z.symm)]
      have e : D2 n (sw 0 M) m j = D2 n M j m := by
        refine det_congr fun i l _ _ => ?_
        show M (if i + 2 = 0 then 1 else if i + 2 = 0 + 1 then 0 else i + 2) _ = M (i + 2) _
        rw [if_neg (by omega), if_neg (by omega), skip2_comm (fun z => c z.symm)]
      have e0 : (sw 0 M) 0 m = M 1 m := rfl
      have e1 : (sw 0 M) 1 j = M 0 j := rfl
      rw [e, e0, e1, s2_comm c]
      grind
  | 1, 0, _, h => by omega
  | 0, _, _, h => by omega
  | n + 1, r + 1, M, h => by
    have : ∀ x : Rat, -x = (-1) * x := fun x => by grind
    show sm (n + 1) _ = -sm (n + 1) _
    rw [this, ← sm_mul]
    refine sm_congr fun j hj => ?_
    have e : det n (minor (sw (r + 1) M) j) = -det n (minor M j) := by
      rw [← det_sw (n := n) (r := r) (M := minor M j) (by omega)]
      refine det_congr fun i l _ _ => ?_
      show M (if i + 1 = r + 1 then r + 1 + 1 else if i + 1 = r + 1 + 1 then r + 1 else i + 1) _ = M ((if i = r then r + 1 else if i = r + 1 then r else i) + 1) _
      congr 1
      repeat' split
      all_goals omega
    have e0 : (sw (r + 1) M) 0 j = M 0 j := rfl
    rw [e, e0]
    grind

/-! ### equal rows, rows added -/
theorem neg_self {x : Rat} (h : x = -x) : x = 0 := by grind
theorem det_eq1 {n r : Nat} {M : Mx} (h : r + 1 < n) (e : ∀ j, j < n → M r j = M (r + 1) j) : det n M = 0 := by
  have h1 := det_sw (M := M) h
  have h2 : det n (sw r M) = det n M := det_congr fun i j _ hj => by
    show M (if i = r then r + 1 else if i = r + 1 then r else i) j = M i j
    by_cases c1 : i = r
    · rw [if_pos c1, c1, e j hj]
    · rw [if_neg c1]
      by_cases c2 : i = r + 1
      · rw [if_pos c2, c2, e j hj]
      · rw [if_neg c2]
  rw [h2] at h1
  exact neg_self h1
theorem det_eq {n r : Nat} : ∀ {d : Nat} {M : Mx}, r + d + 1 < n → (∀ j, j < n → M r j = M (r + d + 1) j) → det n M = 0
  | 0, M, h, e => det_eq1 h e
  | d + 1, M, h, e => by
    have h1 := det_sw (n := n) (r := r + d + 1) (M := M) (by omega)
    have h2 : det n (sw (r + d + 1) M) = 0 := det_eq (r := r) (d := d) (by omega) fun j hj => by
      show M (if r = r + d + 1 then r + d + 1 + 1 else if r = r + d + 1 + 1 then r + d + 1 else r) j = M (if r + d + 1 = r + d + 1 then r + d + 1 + 1 else _) j
      rw [if_neg (by omega), if_neg (by omega), if_pos rfl]
      exact e j hj
    rw [h2] at h1
    grind
/-- c times row p added to row r -/
def ad (r p : Nat) (c : Rat) (M : Mx) : Mx := fun i j => if i = r then M r j + c * M p j else M i j
theorem det_ad {n r p : Nat} {c : Rat} {M : Mx} (hr : r < n) (hp : p < n) (ne : p ≠ r) : det n (ad r p c M) = det n M := by
  have h := det_lin (c := c) (r := r) (n := n) (M := ad r p c M) (A := M) (B := fun i j => if i = r then M p j else M i j) hr
    (fun j _ => by
      show (if r = r then M r j + c * M p j else M r j) = M r j + c * (if r = r then M p j else M r j)
      rw [if_pos rfl, if_pos rfl])
    (fun i j hi _ _ => by
      show (if i = r then _ else M i j) = M i j ∧ (if i = r then _ else M i j) = (if i = r then M p j else M i j)
      rw [if_neg hi]
      exact ⟨rfl, (if_neg hi).symm⟩)
  have z : det n (fun i j => if i = r then M p j else M i j) = 0 := by
    rcases Nat.lt_or_gt_of_ne ne with l | l
    · refine det_eq (r := p) (d := r - p - 1) (by omega) fun j _ => ?_
      show (if p = r then _ else M p j) = (if p + (r - p - 1) + 1 = r then M p j else _)
      rw [if_neg ne, if_pos (by omega)]
    · refine det_eq (r := r) (d := p - r - 1) (by omega) fun j _ => ?_
      show (if r = r then M p j else _) = (if r + (p - r - 1) + 1 = r then _ else M (r + (p - r - 1) + 1) j)
      rw [if_pos rfl, if_neg (by omega), show r + (p - r - 1) + 1 = p by omega]
  rw [h, z]
  grind
/-! ### a step of the clearing -/
theorem det_col0 : ∀ {n : Nat} {M : Mx}, 0 < n → (∀ i, i < n → M i 0 = 0) → det n M = 0
  | 0, _, h, _ => by omega
  | n + 1, M, _, h => by
    have : sm (n + 1) (fun j => sg j * M 0 j * det n (minor M j)) = sm (n + 1) fun _ => 0 := sm_congr fun j hj => by
      by_cases c : j = 0
      · rw [c, h 0 (by omega)]
        grind
      · have e : det n (minor M j) = 0 := det_col0 (by omega) fun i hi => by
          show M (i + 1) (skip j 0) = 0
          rw [skip_lt (by omega)]
          exact h (i + 1) (by omega)
        rw [e]
        grind
    show sm (n + 1) _ = 0
    rw [this, sm_zero]
/-- the first column has its first entry alone -/
theorem det_col1 {n : Nat} {M : Mx} (h : ∀ i, i < n → M (i + 1) 0 = 0) : det (n + 1) M = M 0 0 * det n (fun i j => M (i + 1) (j + 1)) := by
  have e : sm (n + 1) (fun j => sg j * M 0 j * det n (minor M j)) = sm (n + 1) fun j => if j = 0 then M 0 0 * det n (fun i j => M (i + 1) (j + 1)) else 0 := sm_congr fun j hj => by
    by_cases c : j = 0
    · subst c
      have e1 : det n (minor M 0) = det n (fun i j => M (i + 1) (j + 1)) := det_congr fun i l _ _ => by
        show M (i + 1) (skip 0 l) = _
        rw [skip_ge (by omega)]
      rw [if_pos rfl, e1]
      have : sg 0 = 1 := rfl
      rw [this]
      grind
    · have z : det n (minor M j) = 0 := det_col0 (by omega) fun i hi => by
        show M (i + 1) (skip j 0) = 0
        rw [skip_lt (by omega)]
        exact h i hi
      rw [if_neg c, z]
      grind
  show sm (n + 1) _ = _
  rw [e]
  have one : ∀ (m : Nat) (x : Rat), sm (m + 1) (fun j => if j = 0 then x else 0) = x := fun m x => by
    induction m with
    | zero =>
      show (0 : Rat) + (if (0 : Nat) = 0 then x else 0) = x
      rw [if_pos rfl]
      grind
    | succ m ih =>
      show sm (m + 1) (fun j => if j = 0 then x else 0) + (if m + 1 = 0 then x else 0) = x
      rw [ih, if_neg (by omega)]
      grind
  exact one n _
/-- the rest behind the first row and column, cleared by them -/
def ga (M : Mx) : Mx := fun i j => M (i + 1) (j + 1) - M (i + 1) 0 / M 0 0 * M 0 (j + 1)
/-- rows 1 to k cleared -/
def el (M : Mx) (k : Nat) : Mx := fun i j => if 0 < i ∧ i ≤ k then M i j - M i 0 / M 0 0 * M 0 j else M i j
theorem det_el {n : Nat} {M : Mx} : ∀ k, k < n → det n (el M k) = det n M
  | 0, h => det_congr fun i j _ _ => if_neg (by omega)
  | k + 1, h => by
    have ih := det_el (n := n) (M := M) k (by omega)
    rw [← ih, ← det_ad (r := k + 1) (p := 0) (c := -(M (k + 1) 0 / M 0 0)) (M := el M k) h (by omega) (by omega)]
    refine det_congr fun i j _ _ => ?_
    show (if 0 < i ∧ i ≤ k + 1 then M i j - M i 0 / M 0 0 * M 0 j else M i j) = if i = k + 1 then (if 0 < k + 1 ∧ k + 1 ≤ k then _ else M (k + 1) j) + _ * (if 0 < 0 ∧ 0 ≤ k then _ else M 0 j) else (if 0 < i ∧ i ≤ k then M i j - M i 0 / M 0 0 * M 0 j else M i j)
    by_cases c : i = k + 1
    · rw [if_pos ⟨by omega, by omega⟩, if_pos c, if_neg (by omega), if_neg (by omega), c]
      grind
    · rw [if_neg c]
      by_cases c2 : 0 < i ∧ i ≤ k
      · rw [if_pos c2, if_pos ⟨c2.1, by omega⟩]
      · rw [if_neg c2, if_neg (by omega)]
theorem det_ga {n : Nat} {M : Mx} (h : M 0 0 ≠ 0) : det (n + 1) M = M 0 0 * det n (ga M) := by
  rw [← det_el n (by omega), det_col1]
  · have e : (el M n) 0 0 = M 0 0 := if_neg (by omega)
    rw [e]
    congr 1
    refine det_congr fun i j hi _ => ?_
    show (if 0 < i + 1 ∧ i + 1 ≤ n then _ else _) = _
    rw [if_pos ⟨by omega, by omega⟩]
    rfl
  · intro i hi
    show (if 0 < i + 1 ∧ i + 1 ≤ n then M (i + 1) 0 - M (i + 1) 0 / M 0 0 * M 0 0 else _) = 0
    rw [if_pos ⟨by omega, by omega⟩, Rat.div_mul_cancel h]
    grind
/-- so many steps -/
def gas : Nat → Mx → Mx
  | 0, M => M
  | k + 1, M => gas k (ga M)
/-- the product of the first leading entries -/
def cor : Nat → Mx → Rat
  | 0, _ => 1
  | k + 1, M => M 0 0 * cor k (ga M)
def leads : Nat → Mx → Prop
  | 0, _ => True
  | k + 1, M => M 0 0 ≠ 0 ∧ leads k (ga M)
theorem det_gas {n : Nat} : ∀ {k : Nat} {M : Mx}, leads k M → det (n + k) M = cor k M * det n (gas k M)
  | 0, M, _ => by
    show det n M = 1 * det n M
    grind
  | k + 1, M, h => by
    show det ((n + k) + 1) M = M 0 0 * cor k (ga M) * det n (gas k (ga M))
    rw [det_ga h.1, det_gas h.2]
    grind

/-! ### two rows exchanged, whichever -/
theorem det_neg {n r : Nat} {M : Mx} (hr : r < n) : det n (fun i j => if i = r then -(M r j) else M i j) = -det n M := by
  have h := det_lin (c := -2) (r := r) (n := n) (M := fun i j => if i = r then -(M r j) else M i j) (A := M) (B := M) hr
    (fun j _ => by
      show (if r = r then -(M r j) else M r j) = _
      rw [if_pos rfl]
      grind)
    (fun i j hi _ _ => by
      show (if i = r then _ else M i j) = M i j ∧ (if i = r then _ else M i j) = M i j
      rw [if_neg hi]
      exact ⟨rfl, rfl⟩)
  rw [h]
  grind
def xch (r t : Nat) (M : Mx) : Mx := fun i j => M (if i = r then t else if i = t then r else i) j
theorem det_xch {n r t : Nat} {M : Mx} (hr : r < n) (ht : t < n) (ne : r ≠ t) : det n (xch r t M) = -det n M := by
  have a1 := det_ad (c := 1) (M := M) hr ht (fun z => ne z.symm)
  have a2 := det_ad (c := -1) (M := ad r t 1 M) ht hr ne
  have a3 := det_ad (c := 1) (M := ad t r (-1) (ad r t 1 M)) hr ht (fun z => ne z.symm)
  have e : det n (ad r t 1 (ad t r (-1) (ad r t 1 M))) = det n (fun i j => if i = t then -((xch r t M) t j) else (xch r t M) i j) := det_congr fun i j _ _ => by
    unfold ad xch
    by_cases c1 : i = r
    · subst c1
      simp only [if_pos rfl, if_neg ne, if_neg (fun z => ne z.symm : ¬ t = i)]
      grind
    · by_cases c2 : i = t
      · subst c2
        simp only [if_neg c1, if_pos rfl, if_neg ne]
        grind
      · simp only [if_neg c1, if_neg c2]
  rw [e, det_neg ht] at a3
  grind
/-! ### whole numbers -/
def Wh (x : Rat) : Prop := ∃ z : Int, x = (z : Rat)
theorem wh_int (z : Int) : Wh (z : Rat) := ⟨z, rfl⟩
theorem wh_add {x y : Rat} (h : Wh x) (g : Wh y) : Wh (x + y) := by
  obtain ⟨a, rfl⟩ := h
  obtain ⟨b, rfl⟩ := g
  exact ⟨a + b, (Rat.intCast_add a b).symm⟩
theorem wh_mul {x y : Rat} (h : Wh x) (g : Wh y) : Wh (x * y) := by
  obtain ⟨a, rfl⟩ := h
  obtain ⟨b, rfl⟩ := g
  exact ⟨a * b, (Rat.intCast_mul a b).symm⟩
theorem wh_sg (j : Nat) : Wh (sg j) := by
  unfold sg
  split
  · exact ⟨1, rfl⟩
  · exact ⟨-1, by decide +kernel⟩
theorem wh_sm {f : Nat → Rat} : ∀ {n : Nat}, (∀ j, j < n → Wh (f j)) → Wh (sm n f)
  | 0, _ => ⟨0, rfl⟩
  | n + 1, h => wh_add (wh_sm fun j hj => h j (by omega)) (h n (by omega))
theorem wh_det : ∀ {n : Nat} {M : Mx}, (∀ i j, i < n → j < n → Wh (M i j)) → Wh (det n M)
  | 0, _, _ => ⟨1, rfl⟩
  | n + 1, M, h => wh_sm fun j hj => wh_mul (wh_mul (wh_sg j) (h 0 j (by omega) hj)) (wh_det fun i l hi hl => h (i + 1) (skip j l) (by omega) (by unfold skip; split <;> omega))
/-! ### the rest is a determinant over the corner -/
/-- rows 0 to k - 1 and from k + i on, columns likewise -/
def sel (k i j : Nat) (M : Mx) : Mx := fun a b => M (if a < k then a else i + a) (if b < k then b else j + b)
theorem sel_ga (k i j : Nat) (M : Mx) : ga (sel (k + 1) i j M) = sel k i j (ga M) := by
  funext a b
  have h1 : (if a + 1 < k + 1 then a + 1 else i + (a + 1)) = (if a < k then a else i + a) + 1 := by split <;> split <;> omega
  have h2 : (if b + 1 < k + 1 then b + 1 else j + (b + 1)) = (if b < k then b else j + b) + 1 := by split <;> split <;> omega
  have h0 : (if 0 < k + 1 then 0 else i + 0) = 0 := if_pos (by omega)
  have h0' : (if 0 < k + 1 then 0 else j + 0) = 0 := if_pos (by omega)
  unfold ga sel
  simp only [h1, h2, h0, h0']
theorem sel_zero (i j : Nat) (M : Mx) : (sel 0 i j M) 0 0 = M i j := rfl
theorem sel_top (k i j : Nat) (M : Mx) : (sel (k + 1) i j M) 0 0 = M 0 0 := by
  unfold sel
  rw [if_pos (by omega), if_pos (by omega)]
theorem sel_gas (i j : Nat) : ∀ (k : Nat) (M : Mx), (gas k (sel k i j M)) 0 0 = gas k M i j
  | 0, M => rfl
  | k + 1, M => by
    show (gas k (ga (sel (k + 1) i j M))) 0 0 = gas k (ga M) i j
    rw [sel_ga]
    exact sel_gas i j k (ga M)
theorem sel_cor (i j : Nat) : ∀ (k : Nat) (M : Mx), cor k (sel k i j M) = cor k M
  | 0, _ => rfl
  | k + 1, M => by
    show (sel (k + 1) i j M) 0 0 * cor k (ga (sel (k + 1) i j M)) = M 0 0 * cor k (ga M)
    rw [sel_top, sel_ga, sel_cor i j k]
theorem sel_leads (i j : Nat) : ∀ (k : Nat) (M : Mx), leads k M → leads k (sel k i j M)
  | 0, _, _ => trivial
  | k + 1, M, h => by
    refine ⟨by rw [sel_top]; exact h.1, ?_⟩
    rw [sel_ga]
    exact sel_leads i j k (ga M) h.2
theorem det_one (M : Mx) : det 1 M = M 0 0 := by
  show (0 : Rat) + sg 0 * M 0 0 * 1 = M 0 0
  have : sg 0 = 1 := rfl
  rw [this]
  grind
theorem rest_det {k i j : Nat} {M : Mx} (h : leads k M) : cor k M * gas k M i j = det (1 + k) (sel k i j M) := by
  rw [det_gas (n := 1) (sel_leads i j k M h), det_one, sel_gas, sel_cor]
theorem rest_wh {k i j : Nat} {M : Mx} (h : leads k M) (w : ∀ a b, Wh (M a b)) : Wh (cor k M * gas k M i j) := by
  rw [rest_det h]
  exact wh_det fun a b _ _ => w _ _
theorem gas_succ : ∀ (k : Nat) (M : Mx), gas (k + 1) M = ga (gas k M)
  | 0, _ => rfl
  | k + 1, M => gas_succ k (ga M)
theorem cor_succ : ∀ (k : Nat) (M : Mx), cor (k + 1) M = cor k M * gas k M 0 0
  | 0, M => by
    show M 0 0 * 1 = 1 * M 0 0
    grind
  | k + 1, M => by
    show M 0 0 * cor (k + 1) (ga M) = M 0 0 * cor k (ga M) * gas k (ga M) 0 0
    rw [cor_succ k (ga M)]
    grind
theorem leads_succ : ∀ {k : Nat} {M : Mx}, leads k M → gas k M 0 0 ≠ 0 → leads (k + 1) M
  | 0, _, _, h => ⟨h, trivial⟩
  | k + 1, _, h, g => ⟨h.1, leads_succ (k := k) h.2 g⟩
theorem cor_ne : ∀ {k : Nat} {M : Mx}, leads k M → cor k M ≠ 0
  | 0, _, _ => by
    show (1 : Rat) ≠ 0
    decide +kernel
  | k + 1, M, h => by
    have := cor_ne h.2
    show M 0 0 * cor k (ga M) ≠ 0
    have h1 := h.1
    grind
/-- a step of the program: exact -/
theorem bar_step {k : Nat} {M : Mx} {B : Nat → Nat → Int} {c : Int} (w : ∀ a b, Wh (M a b)) (h : leads k M) (hc : (c : Rat) = cor k M) (hB : ∀ i j, ((B i j : Int) : Rat) = cor k M * gas k M i j) (h0 : B 0 0 ≠ 0) :
    leads (k + 1) M ∧ ((B 0 0 : Int) : Rat) = cor (k + 1) M ∧ ∀ i j, (((B (i + 1) (j + 1) * B 0 0 - B (i + 1) 0 * B 0 (j + 1)).fdiv c : Int) : Rat) = cor (k + 1) M * gas (k + 1) M i j := by
  have cn := cor_ne h
  have b0 : ((B 0 0 : Int) : Rat) ≠ 0 := fun z => h0 (by exact_mod_cast z)
  have g0 : gas k M 0 0 ≠ 0 := fun z => b0 (by rw [hB, z]; grind)
  have l := leads_succ h g0
  refine ⟨l, by rw [hB, cor_succ], fun i j => ?_⟩
  obtain ⟨z, hz⟩ := rest_wh (i := i) (j := j) l w
  have key : ((c * z : Int) : Rat) = ((B (i + 1) (j + 1) * B 0 0 - B (i + 1) 0 * B 0 (j + 1) : Int) : Rat) := by
    rw [Rat.intCast_mul, ← hz, hc, Rat.intCast_sub, Rat.intCast_mul, Rat.intCast_mul, hB, hB, hB, hB, cor_succ, gas_succ]
    show cor k M * (cor k M * gas k M 0 0 * (gas k M (i + 1) (j + 1) - gas k M (i + 1) 0 / gas k M 0 0 * gas k M 0 (j + 1))) = _
    have d : gas k M (i + 1) 0 / gas k M 0 0 * gas k M 0 0 = gas k M (i + 1) 0 := Rat.div_mul_cancel g0
    grind
  have key2 : c * z = B (i + 1) (j + 1) * B 0 0 - B (i + 1) 0 * B 0 (j + 1) := by exact_mod_cast key
  have c0 : c ≠ 0 := fun q => cn (by rw [← hc, q]; rfl)
  rw [← key2, hz, Int.mul_fdiv_cancel_left _ c0]

/-! ### cleared by an entry anywhere -/
theorem det_colz {c : Nat} : ∀ {n : Nat} {M : Mx}, c < n → (∀ i, i < n → M i c = 0) → det n M = 0
  | 0, _, h, _ => by omega
  | n + 1, M, hc, h => by
    have : sm (n + 1) (fun j => sg j * M 0 j * det n (minor M j)) = sm (n + 1) fun _ => 0 := sm_congr fun j hj => by
      by_cases e : j = c
      · rw [e, h 0 (by omega)]
        grind
      · have z : det n (minor M j) = 0 := by
          by_cases l : c < j
          · refine det_colz (c := c) (by omega) fun i hi => ?_
            show M (i + 1) (skip j c) = 0
            rw [skip_lt l]
            exact h (i + 1) (by omega)
          · refine det_colz (c := c - 1) (by omega) fun i hi => ?_
            show M (i + 1) (skip j (c - 1)) = 0
            rw [skip_ge (by omega), show c - 1 + 1 = c by omega]
            exact h (i + 1) (by omega)
        rw [z]
        grind
    show sm (n + 1) _ = 0
    rw [this, sm_zero]
termination_by n => n
/-- row r at the top, the others below in their order -/
def top (r : Nat) (M : Mx) : Mx := fun i j => M (if i = 0 then r else skip r (i - 1)) j
theorem det_top {n : Nat} : ∀ {r : Nat} {M : Mx}, r < n → det n (top r M) = sg r * det n M
  | 0, M, _ => by
    have e : det n (top 0 M) = det n M := det_congr fun i j _ _ => by
      unfold top
      by_cases c : i = 0
      · rw [if_pos c, c]
      · rw [if_neg c, skip_ge (by omega), show i - 1 + 1 = i by omega]
    have : sg 0 = 1 := rfl
    rw [e, this]
    grind
  | r + 1, M, h => by
    have e : det n (top (r + 1) M) = det n (top r (sw r M)) := det_congr fun i j _ _ => by
      unfold top sw
      by_cases c : i = 0
      · rw [if_pos c, if_pos c, if_pos rfl]
      · rw [if_neg c, if_neg c]
        congr 1
        by_cases l : i - 1 < r
        · rw [skip_lt l, skip_lt (by omega), if_neg (by omega), if_neg (by omega)]
        · by_cases l2 : i - 1 = r
          · rw [l2, skip_lt (by omega), skip_ge (by omega), if_neg (by omega), if_pos rfl]
          · rw [skip_ge (by omega), skip_ge (by omega), if_neg (by omega), if_neg (by omega)]
    rw [e, det_top (by omega), det_sw (by omega), sg_succ]
    grind
/-- all rows but r cleared at column c, the first k of them -/
def cl (r c k : Nat) (M : Mx) : Mx := fun i j => if i ≠ r ∧ i < k then M i j - M i c / M r c * M r j else M i j
theorem det_cl {n r c : Nat} {M : Mx} (hr : r < n) : ∀ k, k ≤ n → det n (cl r c k M) = det n M
  | 0, _ => det_congr fun i j _ _ => if_neg (by omega)
  | k + 1, h => by
    have ih := det_cl (c := c) (M := M) hr k (by omega)
    by_cases e : k = r
    · rw [← ih]
      refine det_congr fun i j _ _ => ?_
      unfold cl
      by_cases g : i ≠ r ∧ i < k
      · rw [if_pos g, if_pos ⟨g.1, by omega⟩]
      · rw [if_neg g, if_neg (by omega)]
    · rw [← ih, ← det_ad (r := k) (p := r) (c := -(M k c / M r c)) (M := cl r c k M) (by omega) hr (fun z => e z.symm)]
      refine det_congr fun i j _ _ => ?_
      show (if i ≠ r ∧ i < k + 1 then M i j - M i c / M r c * M r j else M i j) = if i = k then (if k ≠ r ∧ k < k then _ else M k j) + -(M k c / M r c) * (if r ≠ r ∧ r < k then _ else M r j) else (if i ≠ r ∧ i < k then M i j - M i c / M r c * M r j else M i j)
      by_cases g : i = k
      · rw [if_pos ⟨by omega, by omega⟩, if_pos g, if_neg (by omega), if_neg (by omega), g]
        grind
      · rw [if_neg g]
        by_cases g2 : i ≠ r ∧ i < k
        · rw [if_pos g2, if_pos ⟨g2.1, by omega⟩]
        · rw [if_neg g2, if_neg (by omega)]
/-- the determinant by a pivot: its sign, the entry, the rest -/
theorem det_piv {n r c : Nat} {M : Mx} (hr : r < n + 1) (hc : c < n + 1) (h : M r c ≠ 0) :
    det (n + 1) M = sg r * sg c * M r c * det n (fun a b => M (skip r a) (skip c b) - M (skip r a) c / M r c * M r (skip c b)) := by
  have e1 := det_cl (c := c) (M := M) hr (n + 1) (Nat.le_refl _)
  have e2 := det_top (M := cl r c (n + 1) M) hr
  have e3 : det (n + 1) (top r (cl r c (n + 1) M)) = sg c * M r c * det n (fun a b => M (skip r a) (skip c b) - M (skip r a) c / M r c * M r (skip c b)) := by
    have row0 : ∀ j, (top r (cl r c (n + 1) M)) 0 j = M r j := fun j => by
      show (if r ≠ r ∧ r < n + 1 then _ else M r j) = M r j
      rw [if_neg (by omega)]
    have rest : ∀ a j, a < n → (top r (cl r c (n + 1) M)) (a + 1) j = M (skip r a) j - M (skip r a) c / M r c * M r j := fun a j ha => by
      show (if skip r a ≠ r ∧ skip r a < n + 1 then _ else _) = _
      rw [if_pos (by unfold skip; split <;> omega), if_neg (by omega), Nat.add_sub_cancel]
    have e : sm (n + 1) (fun j => sg j * (top r (cl r c (n + 1) M)) 0 j * det n (minor (top r (cl r c (n + 1) M)) j)) = sm (n + 1) fun j => if j = c then sg c * M r c * det n (fun a b => M (skip r a) (skip c b) - M (skip r a) c / M r c * M r (skip c b)) else 0 := sm_congr fun j hj => by
      rw [row0]
      by_cases g : j = c
      · subst g
        rw [if_pos rfl]
        congr 1
        exact det_congr fun a b ha hb => rest a (skip j b) ha
      · rw [if_neg g]
        have z : ∀ a, a < n → (top r (cl r c (n + 1) M)) (a + 1) c = 0 := fun a ha => by
          rw [rest a c ha, Rat.div_mul_cancel h]
          grind
        have z2 : det n (minor (top r (cl r c (n + 1) M)) j) = 0 := by
          by_cases l : c < j
          · refine det_colz (c := c) (by omega) fun i hi => ?_
            show (top r (cl r c (n + 1) M)) (i + 1) (skip j c) = 0
            rw [skip_lt l]
            exact z i hi
          · refine det_colz (c := c - 1) (by omega) fun i hi => ?_
            show (top r (cl r c (n + 1) M)) (i + 1) (skip j (c - 1)) = 0
            rw [skip_ge (by omega), show c - 1 + 1 = c by omega]
            exact z i hi
        rw [z2]
        grind
    show sm (n + 1) _ = _
    rw [e]
    have one : ∀ (m : Nat) (x : Rat), c < m → sm m (fun j => if j = c then x else 0) = x := fun m x => by
      induction m with
      | zero => intro h; omega
      | succ m ih =>
        intro hm
        show sm m (fun j => if j = c then x else 0) + (if m = c then x else 0) = x
        by_cases g : m = c
        · have : sm m (fun j => if j = c then x else 0) = sm m fun _ => 0 := sm_congr fun j hj => if_neg (by omega)
          rw [if_pos g, this, sm_zero]
          grind
        · rw [if_neg g, ih (by omega)]
          grind
    exact one _ _ hc
  have s2 := sg_sq r
  rw [e1] at e2
  have : det (n + 1) M = sg r * det (n + 1) (top r (cl r c (n + 1) M)) := by
    rw [e2]
    grind
  rw [this, e3]
  grind

/-! ### rows exchanged behind the cleared ones -/
theorem xch_ga {a b : Nat} (M : Mx) : ga (xch (a + 1) (b + 1) M) = xch a b (ga M) := by
  funext i j
  have h : (if i + 1 = a + 1 then b + 1 else if i + 1 = b + 1 then a + 1 else i + 1) = (if i = a then b else if i = b then a else i) + 1 := by
    by_cases c1 : i = a
    · rw [if_pos (by omega), if_pos c1]
    · rw [if_neg (by omega), if_neg c1]
      by_cases c2 : i = b
      · rw [if_pos (by omega), if_pos c2]
      · rw [if_neg (by omega), if_neg c2]
  have h0 : (if 0 = a + 1 then b + 1 else if 0 = b + 1 then a + 1 else 0) = 0 := by
    rw [if_neg (by omega), if_neg (by omega)]
  unfold ga xch
  simp only [h, h0]
theorem xch_top {a b : Nat} (M : Mx) : (xch (a + 1) (b + 1) M) 0 0 = M 0 0 := by
  unfold xch
  rw [if_neg (by omega), if_neg (by omega)]
theorem xch_gas {a b : Nat} : ∀ (k : Nat) (M : Mx), gas k (xch (k + a) (k + b) M) = xch a b (gas k M)
  | 0, M => by
    show xch (0 + a) (0 + b) M = xch a b M
    rw [Nat.zero_add, Nat.zero_add]
  | k + 1, M => by
    show gas k (ga (xch (k + 1 + a) (k + 1 + b) M)) = xch a b (gas k (ga M))
    rw [show k + 1 + a = (k + a) + 1 by omega, show k + 1 + b = (k + b) + 1 by omega, xch_ga, xch_gas k]
theorem xch_cor {a b : Nat} : ∀ (k : Nat) (M : Mx), cor k (xch (k + a) (k + b) M) = cor k M
  | 0, _ => rfl
  | k + 1, M => by
    show (xch (k + 1 + a) (k + 1 + b) M) 0 0 * cor k (ga (xch (k + 1 + a) (k + 1 + b) M)) = M 0 0 * cor k (ga M)
    rw [show k + 1 + a = (k + a) + 1 by omega, show k + 1 + b = (k + b) + 1 by omega, xch_ga, xch_top, xch_cor k]
theorem xch_leads {a b : Nat} : ∀ (k : Nat) (M : Mx), leads k M → leads k (xch (k + a) (k + b) M)
  | 0, _, _ => trivial
  | k + 1, M, h => by
    rw [show k + 1 + a = (k + a) + 1 by omega, show k + 1 + b = (k + b) + 1 by omega]
    refine ⟨by rw [xch_top]; exact h.1, ?_⟩
    rw [xch_ga]
    exact xch_leads k (ga M) h.2
theorem xch_wh {a b : Nat} {M : Mx} (w : ∀ i j, Wh (M i j)) : ∀ i j, Wh ((xch a b M) i j) := fun i j => w _ j
/-! ### the program's clearing, over lists -/
/-- the entry of a table, 0 outside -/
def at_ (R : List (List Int)) (i j : Nat) : Int := (R[i]?.getD [])[j]?.getD 0
def mx (R : List (List Int)) : Mx := fun i j => ((at_ R i j : Int) : Rat)
theorem mx_wh (R : List (List Int)) : ∀ i j, Wh (mx R i j) := fun i j => ⟨_, rfl⟩
def crow (row lead : List Int) (col : Nat) (corner : Int) : List Int := List.zipWith (fun e t => (e * lead[col]?.getD 0 - row[col]?.getD 0 * t).fdiv corner) row lead
/-- the rows behind so many steps, the row at t exchanged with the first of them -/
def others (R : List (List Int)) (s t : Nat) : List (List Int) := (List.range (R.length - (s + 1))).map fun i => if s + 1 + i = t then R[s]?.getD [] else R[s + 1 + i]?.getD []
/-- a step at a column, the row at t leading -/
def stepR (R : List (List Int)) (s t col : Nat) (corner : Int) : List (List Int) := R.take s ++ [R[t]?.getD []] ++ (others R s t).map fun row => crow row (R[t]?.getD []) col corner
structure Sq (n : Nat) (R : List (List Int)) : Prop where
  len : R.length = n
  wid : ∀ r ∈ R, r.length = n
theorem Sq.row {n : Nat} {R : List (List Int)} (h : Sq n R) {i : Nat} (hi : i < n) : (R[i]?.getD []).length = n := by
  have hl := h.len
  rw [List.getElem?_eq_getElem (by omega)]
  exact h.wid _ (List.getElem_mem _)
theorem Sq.out {n : Nat} {R : List (List Int)} (h : Sq n R) {i j : Nat} (c : n ≤ i ∨ n ≤ j) : at_ R i j = 0 := by
  unfold at_
  by_cases hi : i < n
  · have hr := h.row hi
    rw [List.getElem?_eq_none (l := R[i]?.getD []) (by omega)]
    rfl
  · rw [List.getElem?_eq_none (l := R) (by have := h.len; omega)]
    rfl
theorem step_sq {n s t col : Nat} {corner : Int} {R : List (List Int)} (h : Sq n R) (hs : s < n) (ht : t < n) : Sq n (stepR R s t col corner) := by
  have hl := h.len
  constructor
  · unfold stepR others
    rw [List.length_append, List.length_append, List.length_take, List.length_map, List.length_map, List.length_range, List.length_singleton]
    omega
  · intro r hr
    unfold stepR at hr
    rcases List.mem_append.mp hr with hr | hr
    · rcases List.mem_append.mp hr with hr | hr
      · exact h.wid r (List.mem_of_mem_take hr)
      · rw [List.mem_singleton.mp hr]
        exact h.row ht
    · obtain ⟨r', hr', rfl⟩ := List.mem_map.mp hr
      unfold others at hr'
      obtain ⟨i, hi, rfl⟩ := List.mem_map.mp hr'
      have hi := List.mem_range.mp hi
      unfold crow
      rw [List.length_zipWith, h.row ht]
      split
      · rw [h.row hs]
        omega
      · rw [h.row (by omega)]
        omega
/-- the rows with two exchanged -/
def perm (s t i : Nat) : Nat := if i = s then t else if i = t then s else i
theorem step_at {n s t : Nat} {corner : Int} {R : List (List Int)} (h : Sq n R) (hs : s < n) (ht : t < n) (hst : s ≤ t) (i j : Nat) :
    at_ (stepR R s t s corner) (s + 1 + i) (s + 1 + j) = (at_ R (perm s t (s + (i + 1))) (s + (j + 1)) * at_ R (perm s t s) s - at_ R (perm s t (s + (i + 1))) s * at_ R (perm s t s) (s + (j + 1))).fdiv corner := by
  have hl := h.len
  have hp : perm s t s = t := if_pos rfl
  rw [hp]
  by_cases c : s + 1 + i < n ∧ s + 1 + j < n
  · have e1 : (stepR R s t s corner)[s + 1 + i]? = some (crow (R[perm s t (s + (i + 1))]?.getD []) (R[t]?.getD []) s corner) := by
      unfold stepR
      have l1 : (R.take s ++ [R[t]?.getD []]).length = s + 1 := by
        rw [List.length_append, List.length_take, List.length_singleton]
        omega
      rw [List.getElem?_append_right (by omega), l1, show s + 1 + i - (s + 1) = i by omega, List.getElem?_map]
      unfold others
      rw [List.getElem?_map, List.getElem?_range (by omega)]
      show some (crow (if s + 1 + i = t then R[s]?.getD [] else R[s + 1 + i]?.getD []) _ s corner) = _
      congr 2
      unfold perm
      rw [if_neg (show ¬ s + (i + 1) = s by omega)]
      by_cases g : s + 1 + i = t
      · rw [if_pos g, if_pos (by omega)]
      · rw [if_neg g, if_neg (by omega), show s + 1 + i = s + (i + 1) by omega]
    have hpn : perm s t (s + (i + 1)) < n := by
      unfold perm
      repeat' split
      all_goals omega
    have r1 := h.row hpn
    have r2 := h.row ht
    unfold at_
    rw [e1]
    show (crow _ _ s corner)[s + 1 + j]?.getD 0 = _
    unfold crow
    rw [List.getElem?_zipWith, List.getElem?_eq_getElem (show s + 1 + j < (R[perm s t (s + (i + 1))]?.getD []).length by omega), List.getElem?_eq_getElem (show s + 1 + j < (R[t]?.getD []).length by omega)]
    show (_ * _ - _ * _ : Int).fdiv corner = _
    have ej : s + (j + 1) = s + 1 + j := by omega
    rw [ej, List.getElem?_eq_getElem (show s + 1 + j < (R[perm s t (s + (i + 1))]?.getD []).length by omega), List.getElem?_eq_getElem (show s + 1 + j < (R[t]?.getD []).length by omega)]
    rfl
  · rw [(step_sq h hs ht).out (by omega)]
    by_cases ci : n ≤ s + 1 + i
    · have hp2 : perm s t (s + (i + 1)) = s + (i + 1) := by
        unfold perm
        rw [if_neg (by omega), if_neg (by omega)]
      rw [hp2, h.out (.inl (by omega)), h.out (i := s + (i + 1)) (j := s) (.inl (by omega))]
      simp
    · rw [h.out (i := perm s t (s + (i + 1))) (j := s + (j + 1)) (.inr (by omega)), h.out (i := t) (j := s + (j + 1)) (.inr (by omega))]
      simp

/-! ### all steps -/
structure Cs where
  R : List (List Int)
  sign : Int
  corner : Int
  steps : Nat
def found (c : Cs) (col : Nat) : List Nat := (List.range (c.R.length - c.steps)).filter fun i => at_ c.R (c.steps + i) col != 0
def cstep (c : Cs) (col : Nat) : Cs := match found c col with
  | [] => c
  | i :: _ => ⟨stepR c.R c.steps (c.steps + i) col c.corner, if i = 0 then c.sign else -c.sign, at_ c.R (c.steps + i) col, c.steps + 1⟩
def clears (R : List (List Int)) : Nat → Cs
  | 0 => ⟨R, 1, 1, 0⟩
  | k + 1 => cstep (clears R k) k
structure InvC (n k : Nat) (R0 : List (List Int)) (c : Cs) : Prop where
  sq : Sq n c.R
  le : c.steps ≤ k
  cn : c.corner ≠ 0
  ss : c.sign * c.sign = 1
  good : c.steps = k → ∃ M : Mx, (∀ i j, Wh (M i j)) ∧ det n M = (c.sign : Rat) * det n (mx R0) ∧ leads k M ∧ (c.corner : Rat) = cor k M ∧ ∀ i j, ((at_ c.R (k + i) (k + j) : Int) : Rat) = cor k M * gas k M i j
  bad : c.steps < k → det n (mx R0) = 0
theorem found_mem {c : Cs} {col i : Nat} {r : List Nat} (h : found c col = i :: r) : i < c.R.length - c.steps ∧ at_ c.R (c.steps + i) col ≠ 0 := by
  have : i ∈ found c col := by rw [h]; exact List.mem_cons_self ..
  unfold found at this
  obtain ⟨h1, h2⟩ := List.mem_filter.mp this
  exact ⟨List.mem_range.mp h1, by simpa using h2⟩
theorem found_nil {c : Cs} {col i : Nat} (h : found c col = []) (hi : i < c.R.length - c.steps) : at_ c.R (c.steps + i) col = 0 := by
  unfold found at h
  have := List.filter_eq_nil_iff.mp h i (List.mem_range.mpr hi)
  simpa using this
theorem perm_add (k i a : Nat) : perm k (k + i) (k + a) = k + (if a = 0 then i else if a = i then 0 else a) := by
  unfold perm
  by_cases c1 : a = 0
  · rw [if_pos (by omega), if_pos c1]
  · rw [if_neg (by omega), if_neg c1]
    by_cases c2 : a = i
    · rw [if_pos (by omega), if_pos c2]
      rfl
    · rw [if_neg (by omega), if_neg c2]
/-- one step of the clearing as found by the program, at a width that may be another one -/
theorem inv_step {n k : Nat} {R0 : List (List Int)} {c : Cs} (h : InvC n k R0 c) (hk : k < n) : InvC n (k + 1) R0 (cstep c k) := by
  have hl := h.sq.len
  have hs := h.le
  cases e : found c k with
  | nil =>
    have ec : cstep c k = c := by unfold cstep; rw [e]
    rw [ec]
    refine ⟨h.sq, by omega, h.cn, h.ss, fun z => by omega, fun _ => ?_⟩
    by_cases g : c.steps < k
    · exact h.bad g
    have gs : c.steps = k := by omega
    obtain ⟨M, w, hd, hle, hc, hB⟩ := h.good gs
    have cn := cor_ne hle
    have z : det (n - k) (gas k M) = 0 := det_col0 (by omega) fun i hi => by
      have h1 := found_nil e (i := i) (by omega)
      rw [gs] at h1
      have h2 := hB i 0
      rw [Nat.add_zero, h1] at h2
      have h3 : cor k M * gas k M i 0 = 0 := h2.symm
      grind
    have hd2 := det_gas (n := n - k) (k := k) (M := M) hle
    rw [show n - k + k = n by omega, z] at hd2
    rw [hd2] at hd
    have s1 : ((c.sign * c.sign : Int) : Rat) = 1 := by rw [h.ss]; rfl
    rw [Rat.intCast_mul] at s1
    grind
  | cons i r =>
    obtain ⟨hi, hne⟩ := found_mem e
    have ec : cstep c k = ⟨stepR c.R c.steps (c.steps + i) k c.corner, if i = 0 then c.sign else -c.sign, at_ c.R (c.steps + i) k, c.steps + 1⟩ := by unfold cstep; rw [e]
    rw [ec]
    have s2 : (if i = 0 then c.sign else -c.sign) * (if i = 0 then c.sign else -c.sign) = 1 := by
      split
      · exact h.ss
      · rw [Int.neg_mul_neg]
        exact h.ss
    refine ⟨step_sq h.sq (by omega) (by omega), by show c.steps + 1 ≤ k + 1; omega, hne, s2, fun z => ?_, fun z => h.bad (by have : c.steps + 1 < k + 1 := z; omega)⟩
    have gs : c.steps = k := by
      have : c.steps + 1 = k + 1 := z
      omega
    obtain ⟨M, w, hd, hle, hc, hB⟩ := h.good gs
    rw [gs] at hi hne ⊢
    have hB' : ∀ a b, ((at_ c.R (perm k (k + i) (k + a)) (k + b) : Int) : Rat) = cor k (xch (k + 0) (k + i) M) * gas k (xch (k + 0) (k + i) M) a b := fun a b => by
      rw [perm_add, hB, xch_cor, xch_gas]
      rfl
    have h0 : at_ c.R (perm k (k + i) (k + 0)) (k + 0) ≠ 0 := by
      rw [perm_add, if_pos rfl]
      exact hne
    obtain ⟨b1, b2, b3⟩ := bar_step (k := k) (M := xch (k + 0) (k + i) M) (B := fun a b => at_ c.R (perm k (k + i) (k + a)) (k + b)) (c := c.corner) (xch_wh w) (xch_leads k M hle) (by rw [xch_cor]; exact hc) hB' h0
    have hp : perm k (k + i) (k + 0) = k + i := by rw [perm_add, if_pos rfl]
    refine ⟨xch (k + 0) (k + i) M, xch_wh w, ?_, b1, ?_, fun a b => ?_⟩
    · show det n (xch (k + 0) (k + i) M) = (((if i = 0 then c.sign else -c.sign) : Int) : Rat) * det n (mx R0)
      by_cases ci : i = 0
      · rw [if_pos ci, ← hd]
        refine det_congr fun a b _ _ => ?_
        unfold xch
        rw [ci]
        congr 1
        by_cases g : a = k + 0
        · rw [if_pos g, g]
        · rw [if_neg g, if_neg g]
      · rw [if_neg ci, det_xch (by omega) (by omega) (by omega), hd, Rat.intCast_neg]
        grind
    · have := b2
      rw [hp] at this
      exact this
    · have g := b3 a b
      have ss := step_at (corner := c.corner) h.sq (show k < n by omega) (show k + i < n by omega) (by omega) a b
      rw [← g, ss]
      rfl
theorem inv_zero {n : Nat} {R : List (List Int)} (h : Sq n R) : InvC n 0 R ⟨R, 1, 1, 0⟩ :=
  ⟨h, Nat.le_refl _, (by decide : (1 : Int) ≠ 0), (by decide : (1 : Int) * 1 = 1), fun _ => ⟨mx R, mx_wh R, by
    show det n (mx R) = ((1 : Int) : Rat) * det n (mx R)
    have : ((1 : Int) : Rat) = 1 := rfl
    rw [this]
    grind, trivial, rfl, fun i j => by
    rw [Nat.zero_add, Nat.zero_add]
    show mx R i j = 1 * mx R i j
    grind⟩, fun z => by omega⟩
theorem inv_all {n : Nat} {R : List (List Int)} (h : Sq n R) : ∀ k, k ≤ n → InvC n k R (clears R k)
  | 0, _ => inv_zero h
  | k + 1, hk => inv_step (inv_all h k (by omega)) (by omega)
/-- what the program tells of a square -/
theorem clears_det {n : Nat} {R : List (List Int)} (h : Sq n R) : (((if (clears R n).steps = n then (clears R n).sign * (clears R n).corner else 0) : Int) : Rat) = det n (mx R) := by
  have I := inv_all h n (Nat.le_refl _)
  by_cases c : (clears R n).steps = n
  · rw [if_pos c]
    obtain ⟨M, _, hd, hle, hc, _⟩ := I.good c
    have h1 := det_gas (n := 0) (k := n) (M := M) hle
    rw [Nat.zero_add] at h1
    have h2 : det n M = cor n M := by
      rw [h1]
      show cor n M * 1 = cor n M
      grind
    have s1 : (((clears R n).sign * (clears R n).sign : Int) : Rat) = 1 := by rw [I.ss]; rfl
    rw [Rat.intCast_mul] at s1 ⊢
    rw [hc, ← h2, hd]
    grind
  · rw [if_neg c]
    have := I.le
    exact (I.bad (by omega)).symm
/-! ### bounds of the clearing -/
def Bdz (n : Nat) (i : Int) : Prop := i.natAbs < 2 ^ n
theorem fdiv_abs (a c : Int) : (a.fdiv c).natAbs ≤ a.natAbs := by
  rcases Int.lt_trichotomy c 0 with h | h | h
  · have e : a.fdiv c = (-a).fdiv (-c) := (Int.neg_fdiv_neg a c).symm
    have e2 : (-a).fdiv (-c) = (-a) / (-c) := Int.fdiv_eq_ediv_of_nonneg _ (by omega)
    rw [e, e2]
    exact Nat.le_trans (Int.natAbs_ediv_le_natAbs _ _) (by rw [Int.natAbs_neg]; exact Nat.le_refl _)
  · rw [h, Int.fdiv_zero]
    exact Nat.zero_le _
  · rw [Int.fdiv_eq_ediv_of_nonneg _ (by omega)]
    exact Int.natAbs_ediv_le_natAbs _ _
theorem crow_one {n : Nat} {a b c d e : Int} (h1 : Bdz n a) (h2 : Bdz n b) (h3 : Bdz n c) (h4 : Bdz n d) : Bdz (2 * n + 1) ((a * b - c * d).fdiv e) := by
  unfold Bdz at *
  refine Nat.lt_of_le_of_lt (fdiv_abs _ _) ?_
  have m1 : (a * b).natAbs < 2 ^ (n + n) := by
    rw [Int.natAbs_mul, Nat.pow_add]
    exact Nat.mul_lt_mul_of_lt_of_le h1 (Nat.le_of_lt h2) (Nat.two_pow_pos _)
  have m2 : (c * d).natAbs < 2 ^ (n + n) := by
    rw [Int.natAbs_mul, Nat.pow_add]
    exact Nat.mul_lt_mul_of_lt_of_le h3 (Nat.le_of_lt h4) (Nat.two_pow_pos _)
  have e2 : (2 : Nat) ^ (2 * n + 1) = 2 ^ (n + n) + 2 ^ (n + n) := by
    rw [show 2 * n + 1 = (n + n) + 1 by omega, Nat.pow_succ]
    omega
  rw [e2]
  omega
/-- what stays of the clearing of a table of m rows and w columns, entries below 2^b -/
structure PC (m w b k : Nat) (c : Cs) : Prop where
  len : c.R.length = m
  wid : ∀ r ∈ c.R, r.length = w
  st : c.steps ≤ k
  sm_ : c.steps ≤ m
  cn : c.corner ≠ 0
  cb : Bdz ((b + 1) * 2 ^ c.steps - 1) c.corner
  eb : ∀ r ∈ c.R, ∀ y ∈ r, Bdz ((b + 1) * 2 ^ c.steps - 1) y
  sn : c.sign = 1 ∨ c.sign = -1
theorem bits_succ (b s : Nat) : 2 * ((b + 1) * 2 ^ s - 1) + 1 = (b + 1) * 2 ^ (s + 1) - 1 := by
  have h : 0 < (b + 1) * 2 ^ s := Nat.mul_pos (by omega) (Nat.two_pow_pos _)
  rw [Nat.pow_succ, ← Nat.mul_assoc]
  omega
theorem bdz_mono {a b : Nat} {i : Int} (h : Bdz a i) (hab : a ≤ b) : Bdz b i := Nat.lt_of_lt_of_le h (Nat.pow_le_pow_right (by decide) hab)
theorem PC.row {m w b k : Nat} {c : Cs} (h : PC m w b k c) {i : Nat} (hi : i < m) : (c.R[i]?.getD []) ∈ c.R ∧ (c.R[i]?.getD []).length = w := by
  have hl := h.len
  rw [List.getElem?_eq_getElem (by omega)]
  exact ⟨List.getElem_mem _, h.wid _ (List.getElem_mem _)⟩
theorem PC.entry {m w b k : Nat} {c : Cs} (h : PC m w b k c) {i j : Nat} (hi : i < m) (hj : j < w) : Bdz ((b + 1) * 2 ^ c.steps - 1) (at_ c.R i j) := by
  obtain ⟨h1, h2⟩ := h.row hi
  unfold at_
  rw [List.getElem?_eq_getElem (by omega)]
  exact h.eb _ h1 _ (List.getElem_mem _)
theorem others_mem {R : List (List Int)} {s t : Nat} (hs : s < R.length) {r : List Int} (hr : r ∈ others R s t) : r ∈ R := by
  unfold others at hr
  obtain ⟨i, hi, rfl⟩ := List.mem_map.mp hr
  have hi := List.mem_range.mp hi
  split
  · rw [List.getElem?_eq_getElem hs]
    exact List.getElem_mem _
  · rw [List.getElem?_eq_getElem (by omega)]
    exact List.getElem_mem _
theorem pc_step {m w b k : Nat} {c : Cs} (h : PC m w b k c) (hk : k < w) : PC m w b (k + 1) (cstep c k) := by
  have hl := h.len
  cases e : found c k with
  | nil =>
    have ec : cstep c k = c := by unfold cstep; rw [e]
    rw [ec]
    exact ⟨h.len, h.wid, by have := h.st; omega, h.sm_, h.cn, h.cb, h.eb, h.sn⟩
  | cons i r =>
    obtain ⟨hi, hne⟩ := found_mem e
    have ec : cstep c k = ⟨stepR c.R c.steps (c.steps + i) k c.corner, if i = 0 then c.sign else -c.sign, at_ c.R (c.steps + i) k, c.steps + 1⟩ := by unfold cstep; rw [e]
    rw [ec]
    have hb := bits_succ b c.steps
    have le : (b + 1) * 2 ^ c.steps - 1 ≤ (b + 1) * 2 ^ (c.steps + 1) - 1 := by omega
    have ld := h.row (i := c.steps + i) (by omega)
    have crw : ∀ r ∈ c.R, (crow r (c.R[c.steps + i]?.getD []) k c.corner).length = w ∧ ∀ y ∈ crow r (c.R[c.steps + i]?.getD []) k c.corner, Bdz ((b + 1) * 2 ^ (c.steps + 1) - 1) y := fun r hr => by
      have lr := h.wid r hr
      refine ⟨by unfold crow; rw [List.length_zipWith, lr, ld.2]; omega, fun y hy => ?_⟩
      unfold crow at hy
      obtain ⟨j, hj⟩ := List.mem_iff_getElem?.mp hy
      have hj2 : j < w := by
        have := (List.getElem?_eq_some_iff.mp hj).1
        rw [List.length_zipWith, lr, ld.2] at this
        omega
      rw [List.getElem?_zipWith, List.getElem?_eq_getElem (show j < r.length by omega), List.getElem?_eq_getElem (show j < (c.R[c.steps + i]?.getD []).length by omega)] at hj
      cases hj
      rw [← hb]
      refine crow_one (h.eb r hr _ (List.getElem_mem _)) ?_ ?_ (h.eb _ ld.1 _ (List.getElem_mem _))
      · rw [List.getElem?_eq_getElem (show k < (c.R[c.steps + i]?.getD []).length by omega)]
        exact h.eb _ ld.1 _ (List.getElem_mem _)
      · rw [List.getElem?_eq_getElem (show k < r.length by omega)]
        exact h.eb _ hr _ (List.getElem_mem _)
    have cases_ : ∀ r ∈ stepR c.R c.steps (c.steps + i) k c.corner, r.length = w ∧ ∀ y ∈ r, Bdz ((b + 1) * 2 ^ (c.steps + 1) - 1) y := fun r hr => by
      unfold stepR at hr
      rcases List.mem_append.mp hr with hr | hr
      · rcases List.mem_append.mp hr with hr | hr
        · have hr := List.mem_of_mem_take hr
          exact ⟨h.wid r hr, fun y hy => bdz_mono (h.eb r hr y hy) le⟩
        · rw [List.mem_singleton.mp hr]
          exact ⟨ld.2, fun y hy => bdz_mono (h.eb _ ld.1 y hy) le⟩
      · obtain ⟨r', hr', rfl⟩ := List.mem_map.mp hr
        exact crw r' (others_mem (by omega) hr')
    refine ⟨?_, fun r hr => (cases_ r hr).1, by have := h.st; show c.steps + 1 ≤ k + 1; omega, by show c.steps + 1 ≤ m; omega, hne, bdz_mono (h.entry (by omega) hk) le, fun r hr => (cases_ r hr).2, ?_⟩
    · show (stepR c.R c.steps (c.steps + i) k c.corner).length = m
      unfold stepR others
      rw [List.length_append, List.length_append, List.length_take, List.length_map, List.length_map, List.length_range, List.length_singleton]
      omega
    · show (if i = 0 then c.sign else -c.sign) = 1 ∨ (if i = 0 then c.sign else -c.sign) = -1
      have := h.sn
      split <;> omega
theorem pc_all {m w b : Nat} {R : List (List Int)} (hl : R.length = m) (hw : ∀ r ∈ R, r.length = w) (hb : ∀ r ∈ R, ∀ y ∈ r, Bdz b y) (h0 : 0 < b) : ∀ k, k ≤ w → PC m w b k (clears R k)
  | 0, _ => ⟨hl, hw, Nat.le_refl _, Nat.zero_le _, (by decide : (1 : Int) ≠ 0), by
    show (1 : Int).natAbs < 2 ^ ((b + 1) * 2 ^ 0 - 1)
    exact Nat.one_lt_two_pow (by rw [Nat.pow_zero]; omega), fun r hr y hy => bdz_mono (hb r hr y hy) (by show b ≤ (b + 1) * 2 ^ 0 - 1; rw [Nat.pow_zero]; omega), .inl rfl⟩
  | k + 1, h => pc_step (pc_all hl hw hb h0 k (by omega)) (by omega)
end Dt
/-! pivoting, entry by entry -/
namespace Dt
def pvAt (R : List (List Int)) (i j a b : Nat) : Int :=
  if a = i then (if b = j then at_ R i j else at_ R i j * at_ R i b) else if b = j then -(at_ R i j) * at_ R a j else at_ R a b - at_ R i j * at_ R a j * at_ R i b
def pivT (R : List (List Int)) (m w i j : Nat) : List (List Int) := (List.range m).map fun a => (List.range w).map fun b => pvAt R i j a b
theorem pivT_len {R : List (List Int)} {m w i j : Nat} : (pivT R m w i j).length = m := by unfold pivT; rw [List.length_map, List.length_range]
theorem pivT_wid {R : List (List Int)} {m w i j : Nat} : ∀ r ∈ pivT R m w i j, r.length = w := by
  intro r hr
  unfold pivT at hr
  obtain ⟨a, _, rfl⟩ := List.mem_map.mp hr
  rw [List.length_map, List.length_range]
theorem tab_at (f : Nat → Nat → Int) {m w a b : Nat} (ha : a < m) (hb : b < w) : at_ ((List.range m).map fun a => (List.range w).map fun b => f a b) a b = f a b := by
  unfold at_
  rw [List.getElem?_map, List.getElem?_range ha]
  show ((List.range w).map fun b => f a b)[b]?.getD 0 = _
  rw [List.getElem?_map, List.getElem?_range hb]
  rfl
theorem pivT_at {R : List (List Int)} {m w i j a b : Nat} (ha : a < m) (hb : b < w) : at_ (pivT R m w i j) a b = pvAt R i j a b := tab_at (pvAt R i j) ha hb
theorem tab_eq {R : List (List Int)} {m w : Nat} (hl : R.length = m) (hw : ∀ r ∈ R, r.length = w) : ((List.range m).map fun a => (List.range w).map fun b => at_ R a b) = R := by
  refine List.ext_getElem (by rw [List.length_map, List.length_range, hl]) fun a h1 h2 => ?_
  rw [List.getElem_map, List.getElem_range]
  have hr := hw _ (List.getElem_mem h2)
  refine List.ext_getElem (by rw [List.length_map, List.length_range, hr]) fun b h3 h4 => ?_
  rw [List.getElem_map, List.getElem_range]
  unfold at_
  rw [List.getElem?_eq_getElem h2]
  show R[a][b]?.getD 0 = _
  rw [List.getElem?_eq_getElem h4]
  rfl
theorem piv_two {R : List (List Int)} {m w i j a b : Nat} (ha : a < m) (hb : b < w) (hi : i < m) (hj : j < w) (p : at_ R i j = 1 ∨ at_ R i j = -1) : pvAt (pivT R m w i j) i j a b = at_ R a b := by
  have eij : at_ (pivT R m w i j) i j = at_ R i j := by
    rw [pivT_at hi hj]
    unfold pvAt
    rw [if_pos rfl, if_pos rfl]
  unfold pvAt
  rw [eij]
  by_cases c : a = i
  · subst c
    rw [if_pos rfl]
    by_cases d : b = j
    · subst d
      rw [if_pos rfl]
    · rw [if_neg d, pivT_at hi hb]
      unfold pvAt
      rw [if_pos rfl, if_neg d]
      rcases p with p | p <;> rw [p] <;> grind
  · rw [if_neg c]
    have ea : at_ (pivT R m w i j) a j = -(at_ R i j) * at_ R a j := by
      rw [pivT_at ha hj]
      unfold pvAt
      rw [if_neg c, if_pos rfl]
    by_cases d : b = j
    · subst d
      rw [if_pos rfl, ea]
      rcases p with p | p <;> rw [p] <;> grind
    · rw [if_neg d, ea, pivT_at ha hb, pivT_at hi hb]
      unfold pvAt
      rw [if_neg c, if_neg d, if_pos rfl, if_neg d]
      rcases p with p | p <;> rw [p] <;> grind
theorem pivT_twice {R : List (List Int)} {m w i j : Nat} (hl : R.length = m) (hw : ∀ r ∈ R, r.length = w) (hi : i < m) (hj : j < w) (p : at_ R i j = 1 ∨ at_ R i j = -1) : pivT (pivT R m w i j) m w i j = R := by
  refine Eq.trans ?_ (tab_eq hl hw)
  show (List.range m).map _ = _
  refine List.map_congr_left fun a ha => List.map_congr_left fun b hb => ?_
  exact piv_two (List.mem_range.mp ha) (List.mem_range.mp hb) hi hj p
/-- without a row and a column -/
def restT (R : List (List Int)) (i j : Nat) : List (List Int) := (R.take i ++ R.drop (i + 1)).map fun r => r.take j ++ r.drop (j + 1)
theorem out_get {α : Type} (l : List α) (i k : Nat) (h : i < l.length) : (l.take i ++ l.drop (i + 1))[k]? = l[skip i k]? := by
  by_cases c : k < i
  · rw [List.getElem?_append_left (by rw [List.length_take]; omega), List.getElem?_take_of_lt c, skip_lt c]
  · rw [List.getElem?_append_right (by rw [List.length_take]; omega), List.getElem?_drop, skip_ge (by omega), List.length_take]
    congr 1
    omega
theorem rest_at {R : List (List Int)} {m w i j : Nat} (hl : R.length = m) (hw : ∀ r ∈ R, r.length = w) (hi : i < m) (hj : j < w) (a b : Nat) (ha : skip i a < m) : at_ (restT R i j) a b = at_ R (skip i a) (skip j b) := by
  unfold at_ restT
  rw [List.getElem?_map, out_get R i a (by omega)]
  have : skip i a < R.length := by omega
  rw [List.getElem?_eq_getElem this]
  show (R[skip i a].take j ++ R[skip i a].drop (j + 1))[b]?.getD 0 = _
  rw [out_get _ j b (by rw [hw _ (List.getElem_mem this)]; exact hj)]
  rfl
theorem rest_len {R : List (List Int)} {m i j : Nat} (hl : R.length = m) (hi : i < m) : (restT R i j).length = m - 1 := by
  unfold restT
  rw [List.length_map, List.length_append, List.length_take, List.length_drop]
  omega
theorem rest_wid {R : List (List Int)} {w i j : Nat} (hw : ∀ r ∈ R, r.length = w) (hj : j < w) : ∀ r ∈ restT R i j, r.length = w - 1 := by
  intro r hr
  unfold restT at hr
  obtain ⟨r', h', rfl⟩ := List.mem_map.mp hr
  have hm : r' ∈ R := by
    rcases List.mem_append.mp h' with h | h
    · exact List.mem_of_mem_take h
    · exact List.mem_of_mem_drop h
  have := hw _ hm
  rw [List.length_append, List.length_take, List.length_drop]
  omega
theorem rest_mem {R : List (List Int)} {i j : Nat} {P : Int → Prop} (h : ∀ r ∈ R, ∀ y ∈ r, P y) : ∀ r ∈ restT R i j, ∀ y ∈ r, P y := by
  intro r hr y hy
  unfold restT at hr
  obtain ⟨r', h', rfl⟩ := List.mem_map.mp hr
  have hm : r' ∈ R := by
    rcases List.mem_append.mp h' with h | h
    · exact List.mem_of_mem_take h
    · exact List.mem_of_mem_drop h
  refine h r' hm y ?_
  rcases List.mem_append.mp hy with h | h
  · exact List.mem_of_mem_take h
  · exact List.mem_of_mem_drop h
theorem sg_pm (n : Nat) : (n % 2 = 0 ∧ sg n = 1) ∨ (n % 2 = 1 ∧ sg n = -1) := by
  induction n with
  | zero => exact .inl ⟨rfl, rfl⟩
  | succ n ih =>
    rw [sg_succ]
    rcases ih with ⟨h, e⟩ | ⟨h, e⟩
    · exact .inr ⟨by omega, by rw [e]⟩
    · exact .inl ⟨by omega, by rw [e]; rfl⟩
/-- the sign at a row and a column -/
def sgn2 (i j : Nat) : Int := if (i + j) % 2 = 0 then 1 else -1
theorem sgn2_eq (i j : Nat) : ((sgn2 i j : Int) : Rat) = sg i * sg j := by
  unfold sgn2
  rcases sg_pm i with ⟨h, e⟩ | ⟨h, e⟩ <;> rcases sg_pm j with ⟨g, f⟩ | ⟨g, f⟩ <;> rw [e, f]
  · rw [if_pos (by omega)]; simp
  · rw [if_neg (by omega)]; simp
  · rw [if_neg (by omega)]; simp
  · rw [if_pos (by omega)]; simp; grind
theorem piv_det {R : List (List Int)} {n i j : Nat} (hl : R.length = n + 1) (hw : ∀ r ∈ R, r.length = n + 1) (hi : i < n + 1) (hj : j < n + 1) (p : at_ R i j = 1 ∨ at_ R i j = -1) :
    det (n + 1) (mx R) = ((sgn2 i j * at_ R i j : Int) : Rat) * det n (mx (restT (pivT R (n + 1) (n + 1) i j) i j)) := by
  have hp : mx R i j ≠ 0 := by
    show ((at_ R i j : Int) : Rat) ≠ 0
    rcases p with p | p <;> rw [p] <;> decide
  rw [det_piv hi hj hp, Rat.intCast_mul, sgn2_eq]
  have e : det n (fun a b => mx R (skip i a) (skip j b) - mx R (skip i a) j / mx R i j * mx R i (skip j b)) = det n (mx (restT (pivT R (n + 1) (n + 1) i j) i j)) := by
    refine det_congr fun a b ha hb => ?_
    have ka : skip i a < n + 1 := by unfold skip; split <;> omega
    have kb : skip j b < n + 1 := by unfold skip; split <;> omega
    have na : skip i a ≠ i := by unfold skip; split <;> omega
    have nb : skip j b ≠ j := by unfold skip; split <;> omega
    show _ = ((at_ _ a b : Int) : Rat)
    rw [rest_at pivT_len pivT_wid hi hj a b ka, pivT_at ka kb]
    unfold pvAt
    rw [if_neg na, if_neg nb, Rat.intCast_sub, Rat.intCast_mul, Rat.intCast_mul]
    show ((at_ R (skip i a) (skip j b) : Int) : Rat) - ((at_ R (skip i a) j : Int) : Rat) / ((at_ R i j : Int) : Rat) * ((at_ R i (skip j b) : Int) : Rat) = _
    rcases p with p | p <;> rw [p] <;> simp only [Rat.div_def] <;> grind
  rw [e]
  rfl
end Dt
/-! determinants of turned squares and of products -/
namespace Dt
theorem sm_shift {f : Nat → Rat} : ∀ n : Nat, sm (n + 1) f = f 0 + sm n (fun j => f (j + 1))
  | 0 => by
    show sm 0 f + f 0 = f 0 + 0
    show 0 + f 0 = f 0 + 0
    grind
  | n + 1 => by
    show sm (n + 1) f + f (n + 1) = f 0 + (sm n (fun j => f (j + 1)) + f (n + 1))
    rw [sm_shift n]
    grind
theorem sm_mulr {f : Nat → Rat} (c : Rat) (n : Nat) : sm n (fun j => f j * c) = sm n f * c := by
  have : sm n (fun j => f j * c) = sm n (fun j => c * f j) := sm_congr fun j _ => Rat.mul_comm _ _
  rw [this, sm_mul, Rat.mul_comm]
theorem sg0 : sg 0 = 1 := rfl
theorem skip_succ (i a : Nat) : skip (i + 1) (a + 1) = skip i a + 1 := by
  unfold skip
  by_cases h : a < i
  · rw [if_pos h, if_pos (by omega)]
  · rw [if_neg h, if_neg (by omega)]
/-- along the first column -/
theorem det_first : ∀ {n : Nat} {M : Mx}, det (n + 1) M = sm (n + 1) fun i => sg i * M i 0 * det n (fun a b => M (skip i a) (b + 1))
  | 0, M => rfl
  | n + 1, M => by
    have L : det (n + 2) M = sm (n + 2) fun j => sg j * M 0 j * det (n + 1) (minor M j) := rfl
    rw [L, sm_shift (n + 1), sm_shift (n + 1)]
    have h0 : sg 0 * M 0 0 * det (n + 1) (minor M 0) = sg 0 * M 0 0 * det (n + 1) (fun a b => M (skip 0 a) (b + 1)) := by
      congr 1
    rw [h0]
    congr 1
    have l1 : sm (n + 1) (fun j => sg (j + 1) * M 0 (j + 1) * det (n + 1) (minor M (j + 1))) = sm (n + 1) fun j => sm (n + 1) fun i => -(sg j * sg i) * (M 0 (j + 1) * M (i + 1) 0) * det n (fun a b => M (skip i a + 1) (skip j b + 1)) := sm_congr fun j hj => by
      rw [det_first (n := n) (M := minor M (j + 1)), ← sm_mul]
      refine sm_congr fun i hi => ?_
      have e1 : (minor M (j + 1)) i 0 = M (i + 1) 0 := by
        show M (i + 1) (skip (j + 1) 0) = _
        rw [skip_lt (by omega)]
      have e2 : det n (fun a b => (minor M (j + 1)) (skip i a) (b + 1)) = det n (fun a b => M (skip i a + 1) (skip j b + 1)) := det_congr fun a b _ _ => by
        show M (skip i a + 1) (skip (j + 1) (b + 1)) = _
        rw [skip_succ]
      rw [e1, e2, sg_succ]
      grind
    have l2 : sm (n + 1) (fun i => sg (i + 1) * M (i + 1) 0 * det (n + 1) (fun a b => M (skip (i + 1) a) (b + 1))) = sm (n + 1) fun i => sm (n + 1) fun j => -(sg j * sg i) * (M 0 (j + 1) * M (i + 1) 0) * det n (fun a b => M (skip i a + 1) (skip j b + 1)) := sm_congr fun i hi => by
      have e : det (n + 1) (fun a b => M (skip (i + 1) a) (b + 1)) = sm (n + 1) fun j => sg j * M 0 (j + 1) * det n (fun a b => M (skip i a + 1) (skip j b + 1)) := by
        show sm (n + 1) _ = _
        refine sm_congr fun j hj => ?_
        have e2 : det n (minor (fun a b => M (skip (i + 1) a) (b + 1)) j) = det n (fun a b => M (skip i a + 1) (skip j b + 1)) := det_congr fun a b _ _ => by
          show M (skip (i + 1) (a + 1)) (skip j b + 1) = _
          rw [skip_succ]
        rw [e2]
        show sg j * M (skip (i + 1) 0) (j + 1) * _ = _
        rw [skip_lt (show 0 < i + 1 by omega)]
      rw [e, ← sm_mul]
      refine sm_congr fun j hj => ?_
      rw [sg_succ]
      grind
    rw [l1, l2, sm_comm]
theorem det_T : ∀ {n : Nat} {M : Mx}, det n (fun i j => M j i) = det n M
  | 0, _ => rfl
  | n + 1, M => by
    rw [det_first (M := M)]
    show sm (n + 1) _ = _
    refine sm_congr fun j hj => ?_
    show sg j * M j 0 * det n (minor (fun i j => M j i) j) = _
    have e : det n (minor (fun i j => M j i) j) = det n (fun a b => M (skip j a) (b + 1)) := det_T (n := n) (M := fun a b => M (skip j a) (b + 1))
    rw [e]
def adds (k : Nat) (c : Nat → Rat) (M : Mx) : Mx := fun i j => if 0 < i ∧ i < k then M i j + c i * M 0 j else M i j
theorem det_adds {n : Nat} {c : Nat → Rat} {M : Mx} : ∀ k, k ≤ n → det n (adds k c M) = det n M
  | 0, _ => det_congr fun i j _ _ => if_neg (by omega)
  | k + 1, h => by
    have ih := det_adds (n := n) (c := c) (M := M) k (by omega)
    by_cases z : k = 0
    · subst z
      rw [← ih]
      exact det_congr fun i j _ _ => by
        unfold adds
        rw [if_neg (by omega), if_neg (by omega)]
    · rw [← ih, ← det_ad (r := k) (p := 0) (c := c k) (M := adds k c M) (by omega) (by omega) (fun z2 => z z2.symm)]
      exact det_congr fun i j _ _ => by
        unfold ad adds
        by_cases e : i = k
        · subst e
          rw [if_pos ⟨by omega, by omega⟩, if_pos rfl, if_neg (by omega), if_neg (by omega)]
        · rw [if_neg e]
          by_cases g : 0 < i ∧ i < k
          · rw [if_pos g, if_pos ⟨g.1, by omega⟩]
          · rw [if_neg g, if_neg (by omega)]
def mulM (m : Nat) (A B : Mx) : Mx := fun i j => sm m fun k => A i k * B k j
theorem det_mul : ∀ {n : Nat} {A B : Mx}, det n (mulM n A B) = det n A * det n B
  | 0, _, _ => by
    show (1 : Rat) = 1 * 1
    grind
  | n + 1, A, B => by
    -- each row of B ahead of the rest
    let P : Nat → Mx := fun k i j => if i = 0 then B k j else mulM (n + 1) A B i j
    have s1 : det (n + 1) (mulM (n + 1) A B) = sm (n + 1) fun k => A 0 k * det (n + 1) (P k) := by
      have e : ∀ k, A 0 k * det (n + 1) (P k) = sm (n + 1) fun j => sg j * (A 0 k * B k j) * det n (minor (mulM (n + 1) A B) j) := fun k => by
        show A 0 k * sm (n + 1) (fun j => sg j * (P k) 0 j * det n (minor (P k) j)) = _
        rw [← sm_mul]
        refine sm_congr fun j hj => ?_
        have e1 : (P k) 0 j = B k j := if_pos rfl
        have e2 : det n (minor (P k) j) = det n (minor (mulM (n + 1) A B) j) := det_congr fun a b _ _ => by
          show P k (a + 1) (skip j b) = mulM (n + 1) A B (a + 1) (skip j b)
          exact if_neg (by omega)
        rw [e1, e2]
        grind
      rw [sm_congr (fun k _ => e k), sm_comm]
      show sm (n + 1) _ = _
      refine sm_congr fun j hj => ?_
      rw [sm_mulr]
      congr 1
      show sg j * sm (n + 1) (fun k => A 0 k * B k j) = _
      rw [← sm_mul]
    have s2 : ∀ k, k < n + 1 → det (n + 1) (P k) = det n (minor A k) * (sg k * det (n + 1) B) := fun k hk => by
      rw [← det_adds (c := fun i => -(A i k)) (M := P k) (n + 1) (Nat.le_refl _), ← det_top (M := B) hk]
      show sm (n + 1) _ = _ * sm (n + 1) _
      rw [← sm_mul]
      refine sm_congr fun j hj => ?_
      have e0 : (adds (n + 1) (fun i => -(A i k)) (P k)) 0 j = B k j := by
        unfold adds
        rw [if_neg (by omega)]
        exact if_pos rfl
      have e1 : (top k B) 0 j = B k j := rfl
      have e2 : det n (minor (top k B) j) = det n (fun a b => B (skip k a) (skip j b)) := det_congr fun a b _ _ => by
        show B (if a + 1 = 0 then k else skip k (a + 1 - 1)) (skip j b) = _
        rw [if_neg (by omega), Nat.add_sub_cancel]
      have e3 : det n (minor (adds (n + 1) (fun i => -(A i k)) (P k)) j) = det n (mulM n (minor A k) (fun a b => B (skip k a) (skip j b))) := det_congr fun a b ha hb => by
        show (if 0 < a + 1 ∧ a + 1 < n + 1 then P k (a + 1) (skip j b) + -(A (a + 1) k) * P k 0 (skip j b) else P k (a + 1) (skip j b)) = sm n fun l => A (a + 1) (skip k l) * B (skip k l) (skip j b)
        rw [if_pos ⟨by omega, by omega⟩, sm_skip (g := fun l => A (a + 1) l * B l (skip j b)) (by omega)]
        have p1 : P k (a + 1) (skip j b) = sm (n + 1) fun l => A (a + 1) l * B l (skip j b) := if_neg (by omega)
        have p0 : P k 0 (skip j b) = B k (skip j b) := if_pos rfl
        rw [p1, p0]
        have one : ∀ (m : Nat) (x : Rat), k < m → sm m (fun l => if l = k then x else 0) = x := fun m x => by
          induction m with
          | zero => intro h; omega
          | succ m ih =>
            intro hm
            show sm m (fun l => if l = k then x else 0) + (if m = k then x else 0) = x
            by_cases g : m = k
            · have : sm m (fun l => if l = k then x else 0) = sm m fun _ => 0 := sm_congr fun l hl => if_neg (by omega)
              rw [if_pos g, this, sm_zero]
              grind
            · rw [if_neg g, ih (by omega)]
              grind
        have o := one (n + 1) (-(A (a + 1) k) * B k (skip j b)) hk
        rw [← o, ← sm_add]
        refine sm_congr fun l hl => ?_
        by_cases g : l = k
        · subst g
          rw [if_pos rfl, if_pos rfl]
          grind
        · rw [if_neg g, if_neg g]
          grind
      rw [e0, e1, e2, e3, det_mul (n := n)]
      grind
    rw [s1]
    show _ = sm (n + 1) (fun k => sg k * A 0 k * det n (minor A k)) * det (n + 1) B
    rw [← sm_mulr]
    refine sm_congr fun k hk => ?_
    rw [s2 k hk]
    grind
theorem det_scale {n r : Nat} {c : Rat} {M N : Mx} (hr : r < n) (h1 : ∀ j, j < n → N r j = c * M r j) (h2 : ∀ i j, i ≠ r → i < n → j < n → N i j = M i j) : det n N = c * det n M := by
  have h := det_lin (c := c - 1) (r := r) (n := n) (M := N) (A := M) (B := M) hr (fun j hj => by rw [h1 j hj]; grind) (fun i j ne hi hj => ⟨h2 i j ne hi hj, h2 i j ne hi hj⟩)
  rw [h]
  grind
theorem det_scalec {n r : Nat} {c : Rat} {M N : Mx} (hr : r < n) (h1 : ∀ i, i < n → N i r = c * M i r) (h2 : ∀ i j, j ≠ r → i < n → j < n → N i j = M i j) : det n N = c * det n M := by
  rw [← det_T (M := N), ← det_T (M := M)]
  exact det_scale hr (fun j hj => h1 j hj) (fun i j ne hi hj => h2 j i ne hj hi)
end Dt
/-! what determinants keep, of tables as lists -/
namespace Dt
def detI (n : Nat) (R : List (List Int)) : Int := if (clears R n).steps = n then (clears R n).sign * (clears R n).corner else 0
theorem detI_eq {n : Nat} {R : List (List Int)} (h : Sq n R) : ((detI n R : Int) : Rat) = det n (mx R) := clears_det h
theorem detI_of {n : Nat} {R S : List (List Int)} {c : Int} (h : Sq n R) (g : Sq n S) (e : det n (mx S) = (c : Rat) * det n (mx R)) : detI n S = c * detI n R := by
  apply Rat.intCast_inj.mp
  rw [detI_eq g, Rat.intCast_mul, detI_eq h, e]
theorem sum_range (f : Nat → Int) : ∀ n : Nat, ((((List.range n).map f).sum : Int) : Rat) = sm n fun k => ((f k : Int) : Rat)
  | 0 => rfl
  | n + 1 => by
    rw [List.range_succ, List.map_append, List.sum_append, Rat.intCast_add, sum_range f n]
    show _ + (((f n + 0 : Int)) : Rat) = _
    rw [Int.add_zero]
    rfl
theorem detI_turn {n : Nat} {R S : List (List Int)} (h : Sq n R) (g : Sq n S) (e : ∀ a b, a < n → b < n → at_ S b a = at_ R a b) : detI n S = detI n R := by
  apply Rat.intCast_inj.mp
  rw [detI_eq g, detI_eq h, ← det_T]
  exact det_congr fun a b ha hb => by
    show ((at_ S b a : Int) : Rat) = ((at_ R a b : Int) : Rat)
    rw [e a b ha hb]
theorem detI_mul {n : Nat} {A B C : List (List Int)} (hA : Sq n A) (hB : Sq n B) (hC : Sq n C) (e : ∀ a b, a < n → b < n → at_ C a b = ((List.range n).map fun k => at_ A a k * at_ B k b).sum) : detI n C = detI n A * detI n B := by
  apply Rat.intCast_inj.mp
  rw [detI_eq hC, Rat.intCast_mul, detI_eq hA, detI_eq hB, ← det_mul]
  refine det_congr fun a b ha hb => ?_
  show ((at_ C a b : Int) : Rat) = sm n fun k => ((at_ A a k : Int) : Rat) * ((at_ B k b : Int) : Rat)
  rw [e a b ha hb, sum_range]
  exact sm_congr fun k _ => Rat.intCast_mul _ _
theorem detI_row {n r : Nat} {R S : List (List Int)} {c : Int} (h : Sq n R) (g : Sq n S) (hr : r < n) (e1 : ∀ b, b < n → at_ S r b = c * at_ R r b) (e2 : ∀ a b, a ≠ r → a < n → b < n → at_ S a b = at_ R a b) : detI n S = c * detI n R := detI_of h g (det_scale hr (fun b hb => by
    show ((at_ S r b : Int) : Rat) = (c : Rat) * ((at_ R r b : Int) : Rat)
    rw [e1 b hb, Rat.intCast_mul]) (fun a b ne ha hb => by
    show ((at_ S a b : Int) : Rat) = ((at_ R a b : Int) : Rat)
    rw [e2 a b ne ha hb]))
theorem detI_col {n r : Nat} {R S : List (List Int)} {c : Int} (h : Sq n R) (g : Sq n S) (hr : r < n) (e1 : ∀ a, a < n → at_ S a r = c * at_ R a r) (e2 : ∀ a b, b ≠ r → a < n → b < n → at_ S a b = at_ R a b) : detI n S = c * detI n R := detI_of h g (det_scalec hr (fun a ha => by
    show ((at_ S a r : Int) : Rat) = (c : Rat) * ((at_ R a r : Int) : Rat)
    rw [e1 a ha, Rat.intCast_mul]) (fun a b ne ha hb => by
    show ((at_ S a b : Int) : Rat) = ((at_ R a b : Int) : Rat)
    rw [e2 a b ne ha hb]))
theorem detI_add {n r p : Nat} {R S : List (List Int)} {c : Int} (h : Sq n R) (g : Sq n S) (hr : r < n) (hp : p < n) (ne : p ≠ r) (e1 : ∀ b, b < n → at_ S r b = at_ R r b + c * at_ R p b) (e2 : ∀ a b, a ≠ r → a < n → b < n → at_ S a b = at_ R a b) : detI n S = detI n R := by
  apply Rat.intCast_inj.mp
  rw [detI_eq g, detI_eq h, ← det_ad (c := (c : Rat)) (M := mx R) hr hp ne]
  refine det_congr fun a b ha hb => ?_
  unfold ad
  by_cases z : a = r
  · subst z
    rw [if_pos rfl]
    show ((at_ S a b : Int) : Rat) = ((at_ R a b : Int) : Rat) + (c : Rat) * ((at_ R p b : Int) : Rat)
    rw [e1 b hb, Rat.intCast_add, Rat.intCast_mul]
  · rw [if_neg z]
    show ((at_ S a b : Int) : Rat) = ((at_ R a b : Int) : Rat)
    rw [e2 a b z ha hb]
theorem detI_swap {n r t : Nat} {R S : List (List Int)} (h : Sq n R) (g : Sq n S) (hr : r < n) (ht : t < n) (ne : r ≠ t) (e : ∀ a b, a < n → b < n → at_ S a b = at_ R (if a = r then t else if a = t then r else a) b) : detI n S = 0 - detI n R := by
  apply Rat.intCast_inj.mp
  rw [detI_eq g, Rat.intCast_sub, detI_eq h]
  have x := det_xch (M := mx R) hr ht ne
  have : det n (mx S) = det n (xch r t (mx R)) := det_congr fun a b ha hb => by
    show ((at_ S a b : Int) : Rat) = ((at_ R (if a = r then t else if a = t then r else a) b : Int) : Rat)
    rw [e a b ha hb]
  rw [this, x]
  show _ = (0 : Rat) - _
  grind
theorem at_set {R : List (List Int)} {r : Nat} {x : List Int} (hr : r < R.length) (a b : Nat) : at_ (R.set r x) a b = if a = r then x[b]?.getD 0 else at_ R a b := by
  unfold at_
  by_cases h : a = r
  · subst h
    rw [if_pos rfl, List.getElem?_set_self hr]
    rfl
  · rw [if_neg h, List.getElem?_set_ne (fun z => h z.symm)]
end Dt
/-! picks of so many of the first numbers, the least ahead -/
namespace Cb
/-- all rising lists of so many of lo .. n - 1, the least ahead -/
def C (n : Nat) : Nat → Nat → List (List Nat)
  | 0, _ => [[]]
  | r + 1, lo => (List.range' lo (n - lo)).flatMap fun i => (C n r (i + 1)).map (i :: ·)
theorem C_step (n r lo : Nat) (h : lo < n) : C n (r + 1) lo = (C n r (lo + 1)).map (lo :: ·) ++ C n (r + 1) (lo + 1) := by
  have e : ∀ m, C n (r + 1) m = (List.range' m (n - m)).flatMap fun i => (C n r (i + 1)).map (i :: ·) := fun m => rfl
  obtain ⟨k, hk⟩ : ∃ k, n - lo = k + 1 := ⟨n - lo - 1, by omega⟩
  have h2 : n - (lo + 1) = k := by omega
  rw [e, e, hk, h2, List.range'_succ, List.flatMap_cons]
theorem C_end (n r lo : Nat) (h : n ≤ lo) : C n (r + 1) lo = [] := by
  unfold C
  rw [show n - lo = 0 by omega]
  rfl
/-- the next one, as the table's own recursion has it -/
def nxt (n : Nat) : List Nat → Option (List Nat)
  | [] => none
  | a :: l => match nxt n l with
    | some m => some (a :: m)
    | none => if a != n - (l.length + 1) then some (List.range' (a + 1) (l.length + 1)) else none
/-- the next one, as the iterator finds it -/
def step (n : Nat) (indices : List Nat) : Option (List Nat) :=
  let r := indices.length
  match (List.range r).reverse.find? fun i => indices.getD i 0 != i + n - r with
  | none => none
  | some i => some (indices.take i ++ (List.range (r - i)).map (indices.getD i 0 + 1 + ·))
theorem step_nxt (n : Nat) : ∀ l : List Nat, step n l = nxt n l
  | [] => rfl
  | a :: l => by
    have ih := step_nxt n l
    have e1 : (List.range (l.length + 1)).reverse = (List.range l.length).reverse.map (· + 1) ++ [0] := by
      rw [List.range_succ_eq_map, List.reverse_cons, List.map_reverse]
    have e2 : (fun i => (a :: l).getD i 0 != i + n - (l.length + 1)) ∘ (· + 1) = fun i => l.getD i 0 != i + n - l.length := by
      funext i
      show (l.getD i 0 != i + 1 + n - (l.length + 1)) = _
      rw [show i + 1 + n - (l.length + 1) = i + n - l.length by omega]
    unfold step nxt
    rw [← ih]
    unfold step
    simp only [List.length_cons]
    rw [e1, List.find?_append, List.find?_map, e2]
    cases h : List.find? (fun i => l.getD i 0 != i + n - l.length) (List.range l.length).reverse with
    | some i =>
      simp only [Option.map_some, Option.some_or, List.take_succ_cons, List.getD_cons_succ, List.cons_append]
      rw [show l.length + 1 - (i + 1) = l.length - i by omega]
    | none =>
      simp only [Option.map_none, Option.none_or]
      by_cases z : (a != n - (l.length + 1)) = true
      · have z2 : ((a :: l).getD 0 0 != 0 + n - (l.length + 1)) = true := by rw [Nat.zero_add]; exact z
        have z3 : List.find? (fun i => (a :: l).getD i 0 != i + n - (l.length + 1)) [0] = some 0 := List.find?_cons_of_pos (p := fun i => (a :: l).getD i 0 != i + n - (l.length + 1)) z2
        rw [z3, if_pos z]
        simp only [List.take_zero, List.nil_append, Nat.sub_zero]
        rw [List.range'_eq_map_range]
        rfl
      · have z2 : ¬ ((a :: l).getD 0 0 != 0 + n - (l.length + 1)) = true := by rw [Nat.zero_add]; exact z
        have z3 : List.find? (fun i => (a :: l).getD i 0 != i + n - (l.length + 1)) [0] = none := List.find?_cons_of_neg (p := fun i => (a :: l).getD i 0 != i + n - (l.length + 1)) z2
        rw [z3, if_neg z]
def Ok (n r lo : Nat) : Prop := (r + lo ≤ n → (C n r lo)[0]? = some (List.range' lo r)) ∧ (n < r + lo → lo ≤ n → C n r lo = []) ∧ ∀ i l, (C n r lo)[i]? = some l → l.length = r ∧ nxt n l = (C n r lo)[i + 1]?
theorem ok (n : Nat) : ∀ r d lo, lo + d = n → Ok n r lo
  | 0, d, lo, h => ⟨fun _ => rfl, fun h1 _ => by omega, fun i l hi => by
    cases i with
    | zero =>
      cases hi
      exact ⟨rfl, rfl⟩
    | succ i => cases i <;> cases hi⟩
  | r + 1, 0, lo, h => by
    have e : C n (r + 1) lo = [] := C_end n r lo (by omega)
    exact ⟨fun h1 => by omega, fun _ _ => e, fun i l hi => by rw [e] at hi; cases hi⟩
  | r + 1, d + 1, lo, h => by
    have hlo : lo < n := by omega
    have A := ok n r d (lo + 1) (by omega)
    have B := ok n (r + 1) d (lo + 1) (by omega)
    have e := C_step n r lo hlo
    refine ⟨fun h1 => ?_, fun h1 _ => ?_, fun i l hi => ?_⟩
    · rw [e, List.getElem?_append_left (by
        have := A.1 (by omega)
        have := (List.getElem?_eq_some_iff.mp this).1
        rwa [List.length_map]), List.getElem?_map, A.1 (by omega), List.range'_succ]
      rfl
    · rw [e, A.2.1 (by omega) (by omega), B.2.1 (by omega) (by omega)]
      rfl
    · rw [e] at hi ⊢
      by_cases c : i < ((C n r (lo + 1)).map (lo :: ·)).length
      · rw [List.getElem?_append_left c, List.getElem?_map] at hi
        obtain ⟨m, hm, rfl⟩ := Option.map_eq_some_iff.mp hi
        obtain ⟨l1, l2⟩ := A.2.2 i m hm
        refine ⟨by rw [List.length_cons, l1], ?_⟩
        unfold nxt
        rw [l2]
        by_cases c2 : i + 1 < ((C n r (lo + 1)).map (lo :: ·)).length
        · rw [List.getElem?_append_left c2, List.getElem?_map]
          rw [List.length_map] at c2
          rw [List.getElem?_eq_getElem c2]
          rfl
        · rw [List.getElem?_append_right (by omega)]
          rw [List.length_map] at c c2 ⊢
          rw [List.getElem?_eq_none (by omega), show i + 1 - (C n r (lo + 1)).length = 0 by omega]
          show (if lo != n - (m.length + 1) then some (List.range' (lo + 1) (m.length + 1)) else none) = _
          rw [l1]
          have ne : ¬ (n < r + (lo + 1)) := fun z => by
            rw [A.2.1 z (by omega)] at c
            cases c
          by_cases q : r + 1 + (lo + 1) ≤ n
          · rw [B.1 q, if_pos (by simp; omega)]
          · rw [B.2.1 (by omega) (by omega), if_neg (by simp; omega)]
            rfl
      · rw [List.getElem?_append_right (by omega)] at hi
        obtain ⟨l1, l2⟩ := B.2.2 _ l hi
        refine ⟨l1, ?_⟩
        rw [l2, List.getElem?_append_right (by omega), show i + 1 - ((C n r (lo + 1)).map (lo :: ·)).length = i - ((C n r (lo + 1)).map (lo :: ·)).length + 1 by omega]
/-- all picks of r of n places -/
def all (n r : Nat) : List (List Nat) := C n r 0
theorem all_none {n r : Nat} (h : n < r) : all n r = [] := (ok n r n 0 (by omega)).2.1 (by omega) (by omega)
theorem all_head {n r : Nat} (h : r ≤ n) : (all n r)[0]? = some (List.range r) := by
  rw [List.range_eq_range']
  exact (ok n r n 0 (by omega)).1 (by omega)
theorem all_next {n r i : Nat} {l : List Nat} (h : (all n r)[i]? = some l) : step n l = (all n r)[i + 1]? := by
  rw [step_nxt]
  exact ((ok n r n 0 (by omega)).2.2 i l h).2
theorem all_len {n r i : Nat} {l : List Nat} (h : (all n r)[i]? = some l) : l.length = r := ((ok n r n 0 (by omega)).2.2 i l h).1
/-- what is among them: the rising lists of so many places -/
theorem mem_C {n : Nat} : ∀ {r lo : Nat} {l : List Nat}, l ∈ C n r lo ↔ l.length = r ∧ l.Pairwise (· < ·) ∧ ∀ x ∈ l, lo ≤ x ∧ x < n
  | 0, lo, l => by
    show l ∈ [[]] ↔ _
    rw [List.mem_singleton]
    constructor
    · rintro rfl
      exact ⟨rfl, .nil, fun x hx => nomatch hx⟩
    · rintro ⟨h, _⟩
      exact List.length_eq_zero_iff.mp h
  | r + 1, lo, l => by
    unfold C
    rw [List.mem_flatMap]
    constructor
    · rintro ⟨i, hi, hl⟩
      obtain ⟨m, hm, rfl⟩ := List.mem_map.mp hl
      obtain ⟨a, b, c⟩ := mem_C.mp hm
      rw [List.mem_range'_1] at hi
      refine ⟨by rw [List.length_cons, a], .cons (fun y hy => ?_) b, fun x hx => ?_⟩
      · have := c y hy
        omega
      · rcases List.mem_cons.mp hx with rfl | hx
        · omega
        · have := c x hx
          omega
    · rintro ⟨a, b, c⟩
      cases l with
      | nil => simp at a
      | cons i m =>
        have ci := c i (List.mem_cons_self ..)
        refine ⟨i, by rw [List.mem_range'_1]; omega, List.mem_map.mpr ⟨m, mem_C.mpr ⟨by simpa using a, (List.pairwise_cons.mp b).2, fun x hx => ?_⟩, rfl⟩⟩
        have h1 := (List.pairwise_cons.mp b).1 x hx
        have h2 := c x (List.mem_cons_of_mem _ hx)
        omega
theorem mem_all {n r : Nat} {l : List Nat} : l ∈ all n r ↔ l.length = r ∧ l.Pairwise (· < ·) ∧ ∀ x ∈ l, x < n := by
  unfold all
  rw [mem_C]
  constructor
  · rintro ⟨a, b, c⟩
    exact ⟨a, b, fun x hx => (c x hx).2⟩
  · rintro ⟨a, b, c⟩
    exact ⟨a, b, fun x hx => ⟨Nat.zero_le _, c x hx⟩⟩
end Cb
/-! combinations(..): the facts of the type -/
namespace PySem
namespace F
theorem slot_comb_init : Slot "itertools.combinations" "__init__" "object.__init__" :=
  .of (owner := "object") (n := "__init__") (by rw [typeLookup_type, builtinLookup_eq_fast]; kernel_rfl) (by decide +kernel) (by decide +kernel) (by decide +kernel)
    (by first | exact .inl (by decide +kernel) | exact .inr (by decide +kernel)) (by rw [isSubtype_type]; kernel_rfl)
theorem slot_comb_next : Slot "itertools.combinations" "__next__" "itertools.combinations.__next__" :=
  .of (owner := "itertools.combinations") (n := "__next__") (by rw [typeLookup_type, builtinLookup_eq_fast]; kernel_rfl) (by decide +kernel) (by decide +kernel) (by decide +kernel)
    (by first | exact .inl (by decide +kernel) | exact .inr (by decide +kernel)) (by rw [isSubtype_type]; kernel_rfl)
theorem slot_comb_iter : Slot "itertools.combinations" "__iter__" "itertools.combinations.__iter__" :=
  .of (owner := "itertools.combinations") (n := "__iter__") (by rw [typeLookup_type, builtinLookup_eq_fast]; kernel_rfl) (by decide +kernel) (by decide +kernel) (by decide +kernel)
    (by first | exact .inl (by decide +kernel) | exact .inr (by decide +kernel)) (by rw [isSubtype_type]; kernel_rfl)
theorem owner_comb : Manifest.owners.lookup (String.ofList ['s', 'n', 'o', 'i', 't', 'a', 'n', 'i', 'b', 'm', 'o', 'c', '.', 's', 'l', 'o', 'o', 't', 'r', 'e', 't', 'i'].reverse) = some Manifest.sig_itertools_combinations := by kernel_rfl
theorem args_comb_next_1 (a : Value) : argsOk "itertools.combinations.__next__" ⟨[a], []⟩ := by
  unfold argsOk; rw [signature?_of (id := "itertools.combinations.__next__") (n := ['_', '_', 't', 'x', 'e', 'n', '_', '_']) (o := ['s', 'n', 'o', 'i', 't', 'a', 'n', 'i', 'b', 'm', 'o', 'c', '.', 's', 'l', 'o', 'o', 't', 'r', 'e', 't', 'i']) (by kernel_rfl) owner_comb]; kernel_rfl
theorem args_comb_iter_1 (a : Value) : argsOk "itertools.combinations.__iter__" ⟨[a], []⟩ := by
  unfold argsOk; rw [signature?_of (id := "itertools.combinations.__iter__") (n := ['_', '_', 'r', 'e', 't', 'i', '_', '_']) (o := ['s', 'n', 'o', 'i', 't', 'a', 'n', 'i', 'b', 'm', 'o', 'c', '.', 's', 'l', 'o', 'o', 't', 'r', 'e', 't', 'i']) (by kernel_rfl) owner_comb]; kernel_rfl
theorem mro_comb : mroOf (.type "itertools.combinations") = pure [.type "itertools.combinations", .type "object"] := by rw [mroOf_type]; kernel_rfl
theorem lookup_comb_new : typeLookup (.type "itertools.combinations") "__new__" = pure (some (.builtin "itertools.combinations.__new__")) := by rw [typeLookup_type, builtinLookup_eq_fast]; kernel_rfl
theorem called_comb : TypeCalled "itertools.combinations" "itertools.combinations.__new__" "object.__init__" :=
  ⟨by decide +kernel, by decide +kernel, ⟨_, _, mro_comb⟩, madeBy_type mro_comb lookup_comb_new (by decide +kernel), by decide +kernel, by rw [isSubtype_type]; kernel_rfl, slot_comb_init⟩
theorem typeCall_comb_2 (a b : Value) : checkTypeCall "itertools.combinations" ⟨[a, b], []⟩ = pure () := by kernel_rfl
theorem newCall_comb_2 (a b : Value) : checkBuiltinCall "itertools.combinations.__new__" ⟨[.type "itertools.combinations", a, b], []⟩ = pure () := by kernel_rfl
theorem entry_comb_new : entryFor table "itertools.combinations.__new__" = some Builtin.«itertools.combinations.__new__» := entryFor_of_tree (by kernel_rfl)
theorem entry_comb_next : entryFor table "itertools.combinations.__next__" = some Builtin.«itertools.combinations.__next__» := entryFor_of_tree (by kernel_rfl)
theorem entry_comb_iter : entryFor table "itertools.combinations.__iter__" = some Builtin.«dict_keyiterator.__iter__» :=
  entryFor_alias (id' := "dict_keyiterator.__iter__") (by kernel_rfl) (by first | rfl | decide +kernel | (unfold String.splitOn; simp +decide [String.splitOnAux])) (by decide +kernel) (by kernel_rfl)
theorem plain_comb_new : plainId "itertools.combinations.__new__" = true := by decide +kernel
end F
end PySem
/-! combinations(..): made and stepped on -/
namespace PySem
abbrev IsComb (h : Heap) (c p : Addr) (st : Int) (last : Value) (idx : List Nat) : Prop := h.get? c = some { cls := .type "itertools.combinations", dict := none, data := .fields (Value.ref p :: rawInt st :: last :: idx.map fun (i : Nat) => rawInt i).toArray, slots := #[] }
abbrev IsPool (h : Heap) (p : Addr) (its : List Value) : Prop := h.get? p = some { cls := .type "tuple", data := .seq its.toArray }
theorem nums_back (idx : List Nat) : ((idx.map fun (i : Nat) => rawInt i).map fun (v : Value) => match v with | .int n _ => n.toNat | _ => 0) = idx := by
  rw [List.map_map]
  have : ((fun (v : Value) => match v with | .int n _ => n.toNat | _ => 0) ∘ fun (i : Nat) => rawInt i) = id := by
    funext i
    show (i : Int).toNat = i
    exact Int.toNat_natCast i
  rw [this, List.map_id]
section
variable {prog : Program} {w : World} {A : Around} {E : Value → Shared → Prop} {s : Shared}
theorem wpAny_numbers {c p : Addr} {st : Int} {last : Value} {idx : List Nat} {Q : List Nat → Shared → Prop} (hc : IsComb s.heap c p st last idx) (h : Q idx s) : wpAny (model prog w) A (Builtin.Itertools.itNumbersFrom (.ref c) 3) Q E s := by
  unfold Builtin.Itertools.itNumbersFrom
  refine wpAny_bind (wpAny_load hc ?_)
  refine wpAny_pure ?_
  have e : (((Value.ref p :: rawInt st :: last :: idx.map fun (i : Nat) => rawInt i).toArray.toList.drop 3).map fun (v : Value) => match v with | .int n _ => n.toNat | _ => 0) = idx := nums_back idx
  exact (congrArg (fun z => Q z s) e.symm).mp h
theorem wpAny_itStop {α : Type} {Q : α → Shared → Prop} (hh : A.handled = none)
    (h : ∀ h' e, (∀ b o, s.heap.get? b = some o → h'.get? b = some o) → (∃ o, h'.get? e = some o ∧ o.cls = .type "StopIteration") → E (.ref e) { s with heap := h' }) : wpAny (model prog w) A (Builtin.Itertools.itStop : Sem α) Q E s := by
  unfold Builtin.Itertools.itStop
  show wpAny _ _ (newExc (.type "StopIteration") [] >>= _) _ _ _
  refine wpAny_bind ?_
  simp only [newExc, newTuple]
  refine wpAny_bind (wpAny_newObj_type ?_ (by size_fits))
  refine wpAny_bind (m := firstArgMember _ _) (wpAny_of_eq (a := Value.none) (by first | rfl | (simp only [firstArgMember]; rfl)) ?_)
  refine wpAny_newObj_type ?_ (by size_fits)
  simp only [raiseNew]
  refine wpAny_bind (wpAny_handled ?_)
  rw [hh]
  refine wpAny_bind (wpAny_pure (wpAny_throw ?_))
  exact h _ _ (fun b o z => Heap.get?_push_of_some _ (Heap.get?_push_of_some _ z)) ⟨_, Heap.get?_push_size _ rfl, rfl⟩
theorem comb_next_hand {c p : Addr} {its : List Value} {last : Value} {idx : List Nat} {Q : Value → Shared → Prop} (hc : IsComb s.heap c p 1 last idx) (hp : IsPool s.heap p its) (hl : idx.length ≤ 1000)
    (hQ : ∀ h', IsComb h' c p 1 (.ref s.heap.objs.size) idx → h'.get? s.heap.objs.size = some { cls := .type "tuple", data := .seq (idx.map fun i => its.toArray.getD i .none).toArray } → h'.objs.size = s.heap.objs.size + 1 → (∀ b o, b ≠ c → s.heap.get? b = some o → h'.get? b = some o) → Q (.ref s.heap.objs.size) { s with heap := h' }) :
    wpAny (model prog w) A (do
      let result ← (do
        let items ← Builtin.Itertools.itPoolItems (.ref p)
        newTuple (idx.map fun i => items.getD i .none))
      let before ← field (.ref c) 2
      setField (.ref c) 2 result
      letGo [before] [result]
      ret result) (fun fin s' => ∃ v, fin = .done (.ret v) ∧ Q v s') E s := by
  unfold Builtin.Itertools.itPoolItems
  refine wpAny_bind (wpAny_bind (wpAny_bind (wpAny_seqItems hp rfl (wpAny_pure ?_))))
  refine (wpAny_newTuple ?_ (by rw [List.length_map]; exact Nat.le_trans hl (by decide)))
  have lt := Heap.lt_size hc
  have hc1 : IsComb (s.heap.push { cls := .type "tuple", data := .seq (idx.map fun i => its.toArray.getD i .none).toArray }) c p 1 last idx := Heap.get?_push_of_some _ hc
  refine wpAny_bind (wpAny_field hc1 rfl (x := last) rfl ?_)
  refine wpAny_bind (wpAny_setField_rec hc1 (by simp) fun h1 hc2 hs => ?_)
  refine wpAny_bind (wpAny_letGo (wpAny_pure ⟨_, rfl, ?_⟩))
  refine hQ h1 ?_ ?_ ?_ fun b o nb e => hs.extBut _ _ nb (Heap.get?_push_of_some _ e)
  · have e : (Value.ref p :: rawInt 1 :: last :: idx.map fun (i : Nat) => rawInt i).toArray.setIfInBounds 2 (Value.ref s.heap.objs.size) = (Value.ref p :: rawInt 1 :: Value.ref s.heap.objs.size :: idx.map fun (i : Nat) => rawInt i).toArray := by simp
    rw [e] at hc2
    exact hc2
  · exact hs.extBut _ _ (Nat.ne_of_gt lt) (Heap.get?_push_size _ rfl)
  · rw [hs.1, Heap.size_push]
theorem comb_next_first {c p : Addr} {its : List Value} {last : Value} {idx : List Nat} {Q : Value → Shared → Prop} (hc : IsComb s.heap c p 0 last idx) (hp : IsPool s.heap p its) (hcp : p ≠ c) (hl : idx.length ≤ 1000)
    (hQ : ∀ h', IsComb h' c p 1 (.ref s.heap.objs.size) idx → h'.get? s.heap.objs.size = some { cls := .type "tuple", data := .seq (idx.map fun i => its.toArray.getD i .none).toArray } → h'.objs.size = s.heap.objs.size + 1 → (∀ b o, b ≠ c → s.heap.get? b = some o → h'.get? b = some o) → Q (.ref s.heap.objs.size) { s with heap := h' }) :
    wpAny (model prog w) A (Builtin.«itertools.combinations.__next__» ⟨[.ref c], []⟩) (fun fin s' => ∃ v, fin = .done (.ret v) ∧ Q v s') E s := by
  show wpAny _ _ (field (.ref c) 0 >>= _) _ _ _
  refine wpAny_bind (wpAny_field hc rfl (x := .ref p) rfl ?_)
  refine wpAny_bind (wpAny_numbers hc ?_)
  show wpAny _ _ (Builtin.Itertools.itIntField (.ref c) 1 >>= _) _ _ _
  unfold Builtin.Itertools.itIntField
  refine wpAny_bind (wpAny_bind (wpAny_field hc rfl (x := rawInt 0) rfl (wpAny_pure ?_)))
  show wpAny _ _ (setField (.ref c) 1 (rawInt 1) >>= _) _ _ _
  refine wpAny_bind (wpAny_setField_rec hc (by simp) fun h1 hc1 hs => ?_)
  have e : (Value.ref p :: rawInt 0 :: last :: idx.map fun (i : Nat) => rawInt i).toArray.setIfInBounds 1 (rawInt 1) = (Value.ref p :: rawInt 1 :: last :: idx.map fun (i : Nat) => rawInt i).toArray := by simp
  rw [e] at hc1
  have := comb_next_hand (prog := prog) (w := w) (A := A) (E := E) (s := { s with heap := h1 }) (Q := Q) hc1 (hs.extBut _ _ hcp hp) hl (fun h' a1 a2 a3 a4 => ?_)
  · exact this
  have sz : h1.objs.size = s.heap.objs.size := hs.1
  simp only [sz] at a1 a2 a3 ⊢
  exact hQ h' a1 a2 a3 fun b o nb e => a4 b o nb (hs.extBut _ _ nb e)
theorem comb_next_more {c p : Addr} {its : List Value} {last : Value} {idx nx : List Nat} {Q : Value → Shared → Prop} (hc : IsComb s.heap c p 1 last idx) (hp : IsPool s.heap p its) (hcp : p ≠ c) (hn : Cb.step its.length idx = some nx) (hl : nx.length ≤ 1000)
    (hQ : ∀ h', IsComb h' c p 1 (.ref s.heap.objs.size) nx → h'.get? s.heap.objs.size = some { cls := .type "tuple", data := .seq (nx.map fun i => its.toArray.getD i .none).toArray } → h'.objs.size = s.heap.objs.size + 1 → (∀ b o, b ≠ c → s.heap.get? b = some o → h'.get? b = some o) → Q (.ref s.heap.objs.size) { s with heap := h' }) :
    wpAny (model prog w) A (Builtin.«itertools.combinations.__next__» ⟨[.ref c], []⟩) (fun fin s' => ∃ v, fin = .done (.ret v) ∧ Q v s') E s := by
  show wpAny _ _ (field (.ref c) 0 >>= _) _ _ _
  refine wpAny_bind (wpAny_field hc rfl (x := .ref p) rfl ?_)
  refine wpAny_bind (wpAny_numbers hc ?_)
  show wpAny _ _ (Builtin.Itertools.itIntField (.ref c) 1 >>= _) _ _ _
  unfold Builtin.Itertools.itIntField
  refine wpAny_bind (wpAny_bind (wpAny_field hc rfl (x := rawInt 1) rfl (wpAny_pure ?_)))
  show wpAny _ _ (Builtin.Itertools.itPoolItems (.ref p) >>= _) _ _ _
  unfold Builtin.Itertools.itPoolItems
  refine wpAny_bind (wpAny_bind (wpAny_seqItems hp rfl (wpAny_pure ?_)))
  have e1 : Cb.step its.toArray.size idx = some nx := by rw [List.size_toArray]; exact hn
  show wpAny _ _ (match Cb.step its.toArray.size idx with | some next => (do Builtin.Itertools.itSetNumbersFrom (.ref c) 3 next; _) | none => _) _ _ _
  rw [e1]
  show wpAny _ _ (updateFields c (fun fs => fs.extract 0 3 ++ (nx.map fun (n : Nat) => rawInt n).toArray) >>= _) _ _ _
  have ez : (Value.ref p :: rawInt 1 :: last :: idx.map fun (i : Nat) => rawInt i).toArray.extract 0 3 ++ (nx.map fun (n : Nat) => rawInt n).toArray = (Value.ref p :: rawInt 1 :: last :: nx.map fun (i : Nat) => rawInt i).toArray := by simp
  refine wpAny_bind (wpAny_updateFields hc rfl ?_ (by
    rw [ez, List.size_toArray]
    simp only [List.length_cons, List.length_map]
    have : (1000 : Nat) ≤ sizeLine := by decide
    omega))
  have hs := Heap.SameBut.update s.heap c (Obj.mapFields fun fs => fs.extract 0 3 ++ (nx.map fun (n : Nat) => rawInt n).toArray)
  have hc1 := Heap.get?_update_self (Obj.mapFields fun fs => fs.extract 0 3 ++ (nx.map fun (n : Nat) => rawInt n).toArray) hc rfl
  have hc2 : IsComb (s.heap.update c (Obj.mapFields fun fs => fs.extract 0 3 ++ (nx.map fun (n : Nat) => rawInt n).toArray)) c p 1 last nx := by
    refine hc1.trans ?_
    show some ({ cls := .type "itertools.combinations", dict := none, data := Data.fields ((Value.ref p :: rawInt 1 :: last :: idx.map fun (i : Nat) => rawInt i).toArray.extract 0 3 ++ (nx.map fun (n : Nat) => rawInt n).toArray), slots := #[] } : Obj) = _
    rw [ez]
  have := comb_next_hand (prog := prog) (w := w) (A := A) (E := E) (s := { s with heap := s.heap.update c (Obj.mapFields fun fs => fs.extract 0 3 ++ (nx.map fun (n : Nat) => rawInt n).toArray) }) (Q := Q) hc2 (hs.extBut _ _ hcp hp) hl (fun h' a1 a2 a3 a4 => ?_)
  · exact this
  have sz : (s.heap.update c (Obj.mapFields fun fs => fs.extract 0 3 ++ (nx.map fun (n : Nat) => rawInt n).toArray)).objs.size = s.heap.objs.size := hs.1
  simp only [sz] at a1 a2 a3 ⊢
  exact hQ h' a1 a2 a3 fun b o nb e => a4 b o nb (hs.extBut _ _ nb e)
/-- nothing more: the status that says so stays or is set -/
theorem comb_next_end {c p : Addr} {its : List Value} {last : Value} {idx : List Nat} {st : Int} {Q : Fin → Shared → Prop} (hh : A.handled = none) (hc : IsComb s.heap c p st last idx) (hp : IsPool s.heap p its) (hn : st = 2 ∨ (st = 1 ∧ Cb.step its.length idx = none))
    (hE : ∀ h' e, (∀ b o, b ≠ c → s.heap.get? b = some o → h'.get? b = some o) → (∃ o, h'.get? e = some o ∧ o.cls = .type "StopIteration") → E (.ref e) { s with heap := h' }) :
    wpAny (model prog w) A (Builtin.«itertools.combinations.__next__» ⟨[.ref c], []⟩) Q E s := by
  show wpAny _ _ (field (.ref c) 0 >>= _) _ _ _
  refine wpAny_bind (wpAny_field hc rfl (x := .ref p) rfl ?_)
  refine wpAny_bind (wpAny_numbers hc ?_)
  show wpAny _ _ (Builtin.Itertools.itIntField (.ref c) 1 >>= _) _ _ _
  unfold Builtin.Itertools.itIntField
  refine wpAny_bind (wpAny_bind (wpAny_field hc rfl (x := rawInt st) rfl (wpAny_pure ?_)))
  rcases hn with rfl | ⟨rfl, hn⟩
  · show wpAny _ _ (rule _ >>= _) _ _ _
    refine wpAny_bind (wpAny_rule ?_)
    exact wpAny_itStop hh fun h' e k x => hE h' e (fun b o _ z => k b o z) x
  · show wpAny _ _ (Builtin.Itertools.itPoolItems (.ref p) >>= _) _ _ _
    unfold Builtin.Itertools.itPoolItems
    refine wpAny_bind (wpAny_bind (wpAny_seqItems hp rfl (wpAny_pure ?_)))
    have e1 : Cb.step its.toArray.size idx = none := by rw [List.size_toArray]; exact hn
    show wpAny _ _ (match Cb.step its.toArray.size idx with | some next => _ | none => (do setField (.ref c) 1 (rawInt 2); Builtin.Itertools.itStop)) _ _ _
    rw [e1]
    refine wpAny_bind (wpAny_setField_rec hc (by simp) fun h1 hc1 hs => ?_)
    exact wpAny_itStop hh fun h' e k x => hE h' e (fun b o nb z => k b o (hs.extBut _ _ nb z)) x
end
end PySem
namespace PySem
theorem dict_comb : typeHasDict (.type "itertools.combinations") = false := by decide +kernel
theorem bound_comb (a b : Value) : Builtin.Itertools.itBindNamed "combinations" ["iterable", "r"] 2 2 [a, b] [] = (pure [some a, some b] : Sem (List (Option Value))) := by
  unfold Builtin.Itertools.itBindNamed
  rfl
/-- the pool and the walker, laid -/
def combHeap (h : Heap) (its : List Value) (k : Nat) : Heap := (h.push { cls := .type "tuple", data := .seq its.toArray }).push { cls := .type "itertools.combinations", dict := none, data := .fields (Value.ref h.objs.size :: rawInt (if k > its.length then 2 else 0) :: .none :: (List.range k).map fun (i : Nat) => rawInt i).toArray, slots := #[] }
theorem combHeap_keep {h : Heap} {its : List Value} {k : Nat} {b : Addr} {o : Obj} (e : h.get? b = some o) : (combHeap h its k).get? b = some o := Heap.get?_push_of_some _ (Heap.get?_push_of_some _ e)
theorem combHeap_pool {h : Heap} {its : List Value} {k : Nat} : IsPool (combHeap h its k) h.objs.size its := Heap.get?_push_of_some _ (Heap.get?_push_size _ rfl)
theorem combHeap_comb {h : Heap} {its : List Value} {k : Nat} : IsComb (combHeap h its k) (h.objs.size + 1) h.objs.size (if k > its.length then 2 else 0) .none (List.range k) := by
  have e0 : (h.push { cls := .type "tuple", data := .seq its.toArray }).objs.size = h.objs.size + 1 := Heap.size_push ..
  show Heap.get? _ (h.objs.size + 1) = _
  rw [← e0]
  exact Heap.get?_push_size _ rfl
section
variable {prog : Program} {w : World} {A : Around} {E : Value → Shared → Prop} {s : Shared}
theorem code_comb_new {Q₁ : Value → Shared → Prop} {src : Value} {k : Nat} {t : Tok} {P : List Value → Prop} (hk : k ≤ 1000)
    (hcol : ∀ (E : Value → Shared → Prop) (Q : List Value → Shared → Prop), (∀ (h' : Heap) (tk : Nat) (its : List Value), (∀ b o, s.heap.get? b = some o → h'.get? b = some o) → P its → Q its { s with heap := h', toks := tk }) → wpAny (model prog w) A.in1 (collect src) Q E s)
    (hs : ∀ its, P its → its.length ≤ 1000)
    (h : ∀ (h' : Heap) (tk : Nat) (its : List Value), (∀ b o, s.heap.get? b = some o → h'.get? b = some o) → P its → Q₁ (.ref (h'.objs.size + 1)) { s with heap := combHeap h' its k, toks := tk }) :
    codeAny (model prog w) A (.call (.builtin "itertools.combinations.__new__") ⟨[.type "itertools.combinations", src, .int k t], []⟩) (wants Q₁ E) s := by
  refine codeAny_of_tree ?_
  show wpAny _ A.in1 (do checkBuiltinCall "itertools.combinations.__new__" ⟨[.type "itertools.combinations", src, .int k t], []⟩; again (.builtin "itertools.combinations.__new__" ⟨[.type "itertools.combinations", src, .int k t], []⟩)) _ _ s
  refine wpAny_bind (wpAny_of_eq (F.newCall_comb_2 _ _) (wpAny_pure ⟨plainId_quiet F.plain_comb_new _, codeAny_builtin F.entry_comb_new ?_⟩))
  rw [Around.under_plainId F.plain_comb_new _]
  have hsub := F.called_comb.sub
  show wpAny _ _ ((do
      let (cls, rest) ← Builtin.Itertools.itClassAndRest "combinations" ⟨[.type "itertools.combinations", src, .int k t], []⟩
      let [some iterable, some rV] ← Builtin.Itertools.itBindNamed "combinations" ["iterable", "r"] 2 2 rest [] | unsupported "internal:itertools.combinations.__new__"
      let r ← Builtin.Itertools.itSsizeArg rV
      let items ← collect iterable
      if r < 0 then do rule "itertools.combinations.negative-r"; raiseError "ValueError" "r must be non-negative"
      if Builtin.Itertools.itTooMany r then unsupported _
      return (cls, ← newTuple items, items.length, r.toNat)) >>= _) _ _ s
  refine wpAny_bind (wpAny_bind ?_)
  unfold Builtin.Itertools.itClassAndRest
  show wpAny _ _ (PySem.isType (.type "itertools.combinations") >>= _) _ _ _
  refine wpAny_bind (wpAny_pure ?_)
  show wpAny _ _ (isSubtype (.type "itertools.combinations") (.type ("itertools." ++ "combinations")) >>= _) _ _ _
  refine wpAny_bind (wpAny_of_eq (a := true) hsub (wpAny_pure ?_))
  refine wpAny_bind (wpAny_of_eq (bound_comb _ _) ?_)
  show wpAny _ _ (Builtin.Itertools.itSsizeArg (.int k t) >>= _) _ _ _
  have fits : ¬ ((decide ((k : Int) < -(2 ^ 63 : Int)) || decide ((k : Int) ≥ 2 ^ 63)) = true) := by
    rw [decide_eq_false (show ¬ (k : Int) < -(2 ^ 63 : Int) by omega), decide_eq_false (show ¬ (k : Int) ≥ 2 ^ 63 by omega)]
    simp
  refine wpAny_bind ?_
  unfold Builtin.Itertools.itSsizeArg
  show wpAny _ _ (asIndex (.int k t) >>= _) _ _ _
  refine wpAny_bind ?_
  unfold asIndex
  refine wpAny_bind (wpAny_pure (wpAny_pure ?_))
  show wpAny _ _ (if ((decide ((k : Int) < -(2 ^ 63 : Int)) || decide ((k : Int) ≥ 2 ^ 63)) = true) then _ else _) _ _ _
  rw [if_neg fits]
  refine wpAny_pure ?_
  refine wpAny_bind (hcol _ _ fun h' tk its keep hP => ?_)
  have l1000 := hs its hP
  have big : (2000 : Nat) ≤ sizeLine := by decide
  have few : ¬ Builtin.Itertools.itTooMany (k : Int) = true := by
    show ¬ decide ((k : Int) > 2 ^ 20) = true
    rw [decide_eq_false (show ¬ (k : Int) > 2 ^ 20 by omega)]
    exact Bool.false_ne_true
  show wpAny _ _ (if (k : Int) < 0 then _ else _) _ _ _
  rw [if_neg (show ¬ (k : Int) < 0 by omega)]
  show wpAny _ _ (if Builtin.Itertools.itTooMany (k : Int) = true then _ else _) _ _ _
  rw [if_neg few]
  refine wpAny_bind (wpAny_newTuple ?_ (by omega))
  refine wpAny_pure ?_
  show wpAny _ _ (Builtin.Itertools.itNewRecord (.type "itertools.combinations") ([.ref h'.objs.size, rawInt (if (k : Int).toNat > its.length then 2 else 0), .none] ++ (List.range (k : Int).toNat).map fun (i : Nat) => rawInt i) >>= _) _ _ _
  rw [Int.toNat_natCast]
  refine wpAny_bind ?_
  unfold Builtin.Itertools.itNewRecord
  rw [dict_comb]
  show wpAny _ _ (newObj (.type "itertools.combinations") (.fields ([.ref h'.objs.size, rawInt (if k > its.length then 2 else 0), .none] ++ (List.range k).map fun (i : Nat) => rawInt i).toArray)) _ _ _
  refine wpAny_newObj_type (wpAny_pure ?_) (by
    have : ((([Value.ref h'.objs.size, rawInt (if k > its.length then 2 else 0), Value.none] ++ (List.range k).map fun (i : Nat) => rawInt i).toArray).size) ≤ sizeLine + 2 := by
      simp only [List.size_toArray, List.length_append, List.length_map, List.length_range, List.length_cons, List.length_nil]
      omega
    exact this)
  have e0 : (h'.push { cls := .type "tuple", data := .seq its.toArray }).objs.size = h'.objs.size + 1 := Heap.size_push ..
  show Q₁ (.ref (h'.push _).objs.size) _
  rw [e0]
  exact h h' tk its keep hP
end
end PySem
namespace PySem
section
variable {prog : Program} {w : World} {A : Around} {E : Value → Shared → Prop} {s : Shared}
theorem call_comb {Q : Value → Shared → Prop} {src : Value} {k : Nat} {t : Tok} {P : List Value → Prop} (hk : k ≤ 1000)
    (hcol : ∀ (E : Value → Shared → Prop) (Q : List Value → Shared → Prop), (∀ (h' : Heap) (tk : Nat) (its : List Value), (∀ b o, s.heap.get? b = some o → h'.get? b = some o) → P its → Q its { s with heap := h', toks := tk }) → wpAny (model prog w) A.in1.in1 (collect src) Q E s)
    (hs : ∀ its, P its → its.length ≤ 1000)
    (h : ∀ (h' : Heap) (tk : Nat) (its : List Value), (∀ b o, s.heap.get? b = some o → h'.get? b = some o) → P its → Q (.ref (h'.objs.size + 1)) { s with heap := combHeap h' its k, toks := tk }) :
    wpAny (model prog w) A (call (.type "itertools.combinations") [src, .int k t]) Q E s := by
  refine callType_codes (Q₁ := fun obj s₁ => s₁.TypeIs obj "itertools.combinations" ∧ Q obj s₁) F.called_comb (F.typeCall_comb_2 _ _) F.entry_object_init
    (code_comb_new (A := A.in1) hk hcol hs fun h' tk its keep hP => ⟨⟨_, combHeap_comb, rfl⟩, h h' tk its keep hP⟩) fun obj s₁ h₁ => ?_
  exact ⟨h₁.1, F.args_object_init_3 obj _ _, object_init_meets F.called_comb.init.lookup F.called_comb.made (by decide) prog w A.in1 _ s₁ ⟨h₁.1, rfl, h₁.2⟩⟩
theorem pyNext_comb_first {c p : Addr} {its : List Value} {last : Value} {idx : List Nat} {Q : Option Value → Shared → Prop} (hc : IsComb s.heap c p 0 last idx) (hp : IsPool s.heap p its) (hcp : p ≠ c) (hl : idx.length ≤ 1000)
    (hQ : ∀ h', IsComb h' c p 1 (.ref s.heap.objs.size) idx → h'.get? s.heap.objs.size = some { cls := .type "tuple", data := .seq (idx.map fun i => its.toArray.getD i .none).toArray } → h'.objs.size = s.heap.objs.size + 1 → (∀ b o, b ≠ c → s.heap.get? b = some o → h'.get? b = some o) → Q (some (.ref s.heap.objs.size)) { s with heap := h' }) :
    wpAny (model prog w) A (pyNext (.ref c)) Q E s := by
  have hT : s.TypeIs (.ref c) "itertools.combinations" := ⟨_, hc, rfl⟩
  unfold pyNext
  exact wpAny_bind (wpAny_attempt (wpAny_callSpecial?_slot (name := Str.ofString "__next__") hT F.slot_comb_next
    (wpAny_call_entry F.slot_comb_next hT F.entry_comb_next (comb_next_first hc hp hcp hl fun h' a1 a2 a3 a4 => wpAny_pure (hQ h' a1 a2 a3 a4)) (F.args_comb_next_1 _))))
theorem pyNext_comb_more {c p : Addr} {its : List Value} {last : Value} {idx nx : List Nat} {Q : Option Value → Shared → Prop} (hc : IsComb s.heap c p 1 last idx) (hp : IsPool s.heap p its) (hcp : p ≠ c) (hn : Cb.step its.length idx = some nx) (hl : nx.length ≤ 1000)
    (hQ : ∀ h', IsComb h' c p 1 (.ref s.heap.objs.size) nx → h'.get? s.heap.objs.size = some { cls := .type "tuple", data := .seq (nx.map fun i => its.toArray.getD i .none).toArray } → h'.objs.size = s.heap.objs.size + 1 → (∀ b o, b ≠ c → s.heap.get? b = some o → h'.get? b = some o) → Q (some (.ref s.heap.objs.size)) { s with heap := h' }) :
    wpAny (model prog w) A (pyNext (.ref c)) Q E s := by
  have hT : s.TypeIs (.ref c) "itertools.combinations" := ⟨_, hc, rfl⟩
  unfold pyNext
  exact wpAny_bind (wpAny_attempt (wpAny_callSpecial?_slot (name := Str.ofString "__next__") hT F.slot_comb_next
    (wpAny_call_entry F.slot_comb_next hT F.entry_comb_next (comb_next_more hc hp hcp hn hl fun h' a1 a2 a3 a4 => wpAny_pure (hQ h' a1 a2 a3 a4)) (F.args_comb_next_1 _))))
theorem pyNext_comb_end {c p : Addr} {its : List Value} {last : Value} {idx : List Nat} {st : Int} {Q : Option Value → Shared → Prop} (hh : A.handled = none) (hc : IsComb s.heap c p st last idx) (hp : IsPool s.heap p its) (hn : st = 2 ∨ (st = 1 ∧ Cb.step its.length idx = none))
    (hQ : ∀ h', (∀ b o, b ≠ c → s.heap.get? b = some o → h'.get? b = some o) → Q none { s with heap := h' }) : wpAny (model prog w) A (pyNext (.ref c)) Q E s := by
  have hT : s.TypeIs (.ref c) "itertools.combinations" := ⟨_, hc, rfl⟩
  unfold pyNext
  refine wpAny_bind (wpAny_attempt (wpAny_callSpecial?_slot (name := Str.ofString "__next__") hT F.slot_comb_next
    (wpAny_call_entry F.slot_comb_next hT F.entry_comb_next (comb_next_end hh hc hp hn fun h' e hk he => ?_) (F.args_comb_next_1 _))))
  obtain ⟨o, ho, hce⟩ := he
  refine wpAny_bind (wpAny_isInstance (T := "StopIteration") (b := true) ⟨o, ho, hce⟩ isSubtype_stop ?_)
  exact wpAny_pure (hQ _ hk)
theorem pyIter_comb {c p : Addr} {st : Int} {last : Value} {idx : List Nat} {Q : Value → Shared → Prop} (hc : IsComb s.heap c p st last idx) (h : Q (.ref c) s) : wpAny (model prog w) A (pyIter (.ref c)) Q E s := by
  have hT : s.TypeIs (.ref c) "itertools.combinations" := ⟨_, hc, rfl⟩
  refine wpAny_pyIter_slot hT F.slot_comb_iter (wpAny_call_entry F.slot_comb_iter hT F.entry_comb_iter ?_ (F.args_comb_iter_1 _))
  show wpAny _ _ (ret (.ref c)) _ _ s
  exact wpAny_pure ⟨_, rfl, "itertools.combinations", _, hT, F.slot_comb_next.lookup, h⟩
end
end PySem
namespace CbL
open PySem PySem.Spec PyProof.Rows L2
def pickV (xs : List V) (l : List Nat) : List V := l.map fun i => xs[i]?.getD .non
theorem vals_pick {xs : List V} {its : List Value} (r : Vals xs its) : ∀ {l : List Nat}, (∀ i ∈ l, i < xs.length) → Vals (pickV xs l) (l.map fun i => its.toArray.getD i .none)
  | [], _ => .nil
  | i :: l, h => by
    refine .cons ?_ (vals_pick r fun j hj => h j (List.mem_cons_of_mem _ hj))
    have hi := h i (List.mem_cons_self ..)
    have hx : xs[i]? = some xs[i] := List.getElem?_eq_getElem hi
    obtain ⟨u, hu, ru⟩ := r.get hx
    have e : its.toArray.getD i .none = u := by
      rw [Array.getD_eq_getD_getElem?]
      simp [hu]
    show RelV (xs[i]?.getD .non) (its.toArray.getD i .none)
    rw [hx, e]
    exact ru
/-- the picks of r of them, in order, each a new tuple -/
def ItCb (xs : List V) (r : Nat) : It :=
  ⟨fun i _ => i < (Cb.all xs.length r).length, fun i H v H' => ∃ T l, v = .ref T ∧ H T = none ∧ (Cb.all xs.length r)[i]? = some l ∧ H' = upd H T (.tup (pickV xs l)), fun i _ => (Cb.all xs.length r).length ≤ i⟩
def CbAt (xs : List V) (its : List Value) (r : Nat) (c p : Addr) (i : Nat) (h : Heap) : Prop := IsPool h p its ∧ ∃ st last idx, IsComb h c p st last idx ∧ ((i = 0 ∧ (if r > xs.length then (2 : Int) else 0) = st ∧ idx = List.range r) ∨ (∃ j, i = j + 1 ∧ st = 1 ∧ (Cb.all xs.length r)[j]? = some idx))
theorem turn_comb {P : Program} {w : World} {K : PySem.W.Frag} {tg : Expr} {xs : List V} {its : List Value} {r : Nat} {c p : Addr} (rv : Vals xs its) (hcp : p ≠ c) (hr : r ≤ 1000) : Turn P w K tg (ItCb xs r) [c, p] c (CbAt xs its r c p) where
  mem := by simp
  obj := fun i h st b hb => by
    obtain ⟨hp, s0, la, idx, hc, _⟩ := st
    have e' : b = c ∨ b = p := by simpa using hb
    rcases e' with q | q
    · rw [q]; exact ⟨_, hc, fun v q => nomatch q⟩
    · rw [q]; exact ⟨_, hp, fun v q => nomatch q⟩
  keep := fun i h h' st k => by
    obtain ⟨hp, s0, la, idx, hc, q⟩ := st
    exact ⟨k p (by simp) _ hp, s0, la, idx, k c (by simp) _ hc, q⟩
  item := by
    intro X hP hw hK hcalm i pins s σ H E I hf st hg
    subst hP hw hK
    obtain ⟨hp, s0, la, idx, hc, q⟩ := st
    have hlen := rv.length
    have big : (1000 : Nat) ≤ sizeLine := by decide
    have key : ∀ (l : List Nat), (Cb.all xs.length r)[i]? = some l → ∀ h', IsComb h' c p 1 (.ref s.heap.objs.size) l → h'.get? s.heap.objs.size = some { cls := .type "tuple", data := .seq (l.map fun i => its.toArray.getD i .none).toArray } → h'.objs.size = s.heap.objs.size + 1 → (∀ b o, b ≠ c → s.heap.get? b = some o → h'.get? b = some o) →
        ∃ u, some (Value.ref s.heap.objs.size) = some u ∧ wpAny (model X.prog X.w) X.A (letOwnedTupleGo tg (.ref c) u) (fun _ s2 => ∃ x H', Inv X pins σ H' s2 ∧ RelV x u ∧ (ItCb xs r).yld i H x H' ∧ CbAt xs its r c p (i + 1) s2.heap ∧ ∀ b ∈ [c, p], H' b = none) E { s with heap := h' } := by
      intro l hl h' a1 a2 a3 a4
      refine ⟨_, rfl, go_of (n := "itertools.combinations") a1 rfl rfl (by decide) ?_⟩
      have ml := Cb.mem_all.mp (List.mem_of_getElem? hl)
      have new : ObjOk X.prog X.w (upd H s.heap.objs.size (.tup (pickV xs l))) h' s.heap.objs.size (.tup (pickV xs l)) := by
        refine ⟨by unfold pickV; rw [List.length_map, ml.1]; omega, _, vals_pick rv ml.2.2, ⟨_, a2, rfl, _, rfl⟩⟩
      have I1 : Inv X pins σ (upd H s.heap.objs.size (.tup (pickV xs l))) { s with heap := h' } :=
        I.turnedNew (t' := s.toks) (ch := [c, p]) (fun b o hb q => a4 b o (fun z => hb (by simp [z])) q) hf (Nat.le_refl _) new
      refine ⟨.ref s.heap.objs.size, _, I1, rfl, ⟨_, l, rfl, I.hok.fresh (Nat.le_refl _), hl, rfl⟩, ⟨a4 p _ hcp hp, 1, _, l, a1, .inr ⟨i, rfl, rfl, hl⟩⟩, fun b hb => ?_⟩
      have hlt : b < s.heap.objs.size := by
        have e' : b = c ∨ b = p := by simpa using hb
        rcases e' with q | q
        · rw [q]; exact Heap.lt_size hc
        · rw [q]; exact Heap.lt_size hp
      rw [upd_ne (Nat.ne_of_lt hlt)]
      exact (hf b hb).1
    have hgo : i < (Cb.all xs.length r).length := hg
    rcases q with ⟨rfl, e2, rfl⟩ | ⟨j, rfl, rfl, hj⟩
    · have hrn : r ≤ xs.length := Nat.le_of_not_lt fun z => by rw [Cb.all_none z] at hgo; cases hgo
      rw [if_neg (Nat.not_lt.mpr hrn)] at e2
      subst e2
      exact pyNext_comb_first hc hp hcp (by rw [List.length_range]; exact hr) fun h' a1 a2 a3 a4 => key _ (Cb.all_head hrn) h' a1 a2 a3 a4
    · obtain ⟨nx, hnx⟩ : ∃ nx, (Cb.all xs.length r)[j + 1]? = some nx := ⟨_, List.getElem?_eq_getElem hgo⟩
      have hn := Cb.all_next hj
      rw [hnx, hlen] at hn
      refine pyNext_comb_more hc hp hcp hn ?_ fun h' a1 a2 a3 a4 => key _ hnx h' a1 a2 a3 a4
      rw [Cb.all_len hnx]
      exact hr
  done := by
    intro X hP hw hK hcalm i pins s σ H E I hf st hg
    subst hP hw hK
    obtain ⟨hp, s0, la, idx, hc, q⟩ := st
    have hlen := rv.length
    have hst : (Cb.all xs.length r).length ≤ i := hg
    have hn : s0 = 2 ∨ (s0 = 1 ∧ Cb.step its.length idx = none) := by
      rcases q with ⟨rfl, e2, _⟩ | ⟨j, rfl, rfl, hj⟩
      · by_cases z : r > xs.length
        · rw [if_pos z] at e2
          exact .inl e2.symm
        · have := (List.getElem?_eq_some_iff.mp (Cb.all_head (Nat.le_of_not_lt z))).1
          omega
      · refine .inr ⟨rfl, ?_⟩
        rw [← hlen, Cb.all_next hj]
        exact List.getElem?_eq_none hst
    exact pyNext_comb_end (I.ok.hd hcalm) hc hp hn fun h' hk => ⟨rfl, I.turnedL (t' := s.toks) (ch := [c, p]) (fun b o hb q => hk b o (fun z => hb (by simp [z])) q) hf⟩
  self := fun A i s Q E st h => by
    obtain ⟨hp, s0, la, idx, hc, _⟩ := st
    exact pyIter_comb hc h
section
variable {X : Cx} {tg : Expr}
theorem walk_comb {pins : List (Addr × Obj)} {σ : L2.St} {H : Hp} {s : Shared} {R : It → Hp → Prop} {E : Value → Shared → Prop} {xs : List V} {its : List Value} {k : Nat} {tk : Nat} {h' : Heap} (I : Inv X pins σ H s) (hk : k ≤ 1000) (keep : ∀ b o, s.heap.get? b = some o → h'.get? b = some o) (rv : Vals xs its) (q : R (ItCb xs k) H) :
    wpAny (model X.prog X.w) X.A (pyIter (.ref (h'.objs.size + 1))) (PIE X pins σ tg R) E { s with heap := combHeap h' its k, toks := tk } := by
  have I1 : Inv X pins σ H { s with heap := h', toks := tk } := I.kept keep
  have J : Inv X pins σ H { s with heap := combHeap h' its k, toks := tk } := I1.kept fun b o e => combHeap_keep e
  have own : ∀ b ∈ [h'.objs.size + 1, h'.objs.size], FpOk X pins H b := fun b hb => by
    have hle : h'.objs.size ≤ b := by
      have e' : b = h'.objs.size + 1 ∨ b = h'.objs.size := by simpa using hb
      omega
    exact I1.fpOk hle (I1.hok.fresh hle)
  refine pyIter_comb combHeap_comb ⟨_, [h'.objs.size + 1, h'.objs.size], _, _, H, rfl, J, turn_comb rv (Nat.ne_of_lt (Nat.lt_succ_self _)) hk, ⟨combHeap_pool, _, _, _, combHeap_comb, .inl ⟨rfl, ?_, rfl⟩⟩, own, q⟩
  rw [rv.length]
theorem rg0 (n : Nat) : rgV 0 (n : Int) = (List.range n).map fun (i : Nat) => V.int (i : Int) := by
  unfold rgV
  rw [Int.sub_zero, Int.toNat_natCast]
  refine List.map_congr_left fun i _ => ?_
  rw [Int.zero_add]
/-- combinations(range(n), k) -/
def iCbR (te tk : TE) : TI := fun σ H R => te σ H fun x H1 => ∃ n : Nat, x = .int n ∧ n ≤ 1000 ∧ tk σ H1 fun y H2 => ∃ k : Nat, y = .int k ∧ k ≤ 1000 ∧ R (ItCb ((List.range n).map fun (i : Nat) => V.int (i : Int)) k) H2
theorem pi_combR {a b : Expr} {te tk : TE} {p p1 p2 pos : Pos} (hc : X.calm = true) (hg : Gl X "combinations") (hm : X.mg "combinations" = some (.type "itertools.combinations")) (hg2 : Gl X "range") (hm2 : X.mg "range" = none) (ha : PE X a te) (hb : PE X b tk)
    (na : starEach [.Call (.Name "range" p1) [a] [] p2, b] X.env = (false, eval (.Call (.Name "range" p1) [a] [] p2) X.env) :: starEach [b] X.env := by rfl) (nb : starEach [b] X.env = (false, eval b X.env) :: starEach [] X.env := by rfl) (nc : starEach [a] X.env = (false, eval a X.env) :: starEach [] X.env := by rfl)
    (hp : (backTo pos (starEach [b] X.env)).any (·.1) = false := by rfl) : PI X tg (.Call (.Name "combinations" p) [.Call (.Name "range" p1) [a] [] p2, b] [] pos) (iCbR te tk) := by
  refine ⟨fun pins s σ H R I h => ?_⟩
  refine Call_ (ld_glob I hg hm (PyProof.Rows.callWith_type1 (args_cons ?_ na) na hp))
  refine Call_ (ld_blt I hg2 hm2 boot_range (PyProof.Rows.callWith_type1 (one_arg ha I h (fun v s2 x H2 I2 r q => ?_) nc) nc))
  obtain ⟨n, rfl, hn, q⟩ := q
  obtain ⟨t, rfl⟩ := r
  refine call_range_1 ?_
  have I3 := ClX.pin_new (t' := s2.toks + 1 + 1) I2 (fun _ _ z => Heap.get?_push_of_some { cls := .type "range", data := .fields #[.int 0 s2.toks, .int n t, .int 1 (s2.toks + 1)] } z) (Nat.le_refl _) (Heap.get?_push_size s2.heap rfl) (fun v z => nomatch z)
  refine args_cons (thn (hb.run _ _ σ H2 _ I3 q) fun u s4 ⟨y, H4, I4, r4, q4⟩ => args_nil ?_) nb
  obtain ⟨k, rfl, hk, q4⟩ := q4
  obtain ⟨t4, rfl⟩ := r4
  have hr : IsRange s4.heap s2.heap.objs.size 0 n 1 s2.toks t (s2.toks + 1) := ClX.pin_at I4
  have hcalm : X.A.handled = none := (ClX.unpin I4).ok.hd hc
  refine call_comb (P := fun its => Vals ((List.range n).map fun (i : Nat) => V.int (i : Int)) its) hk (fun E Q hQ => ?_) (fun its r => by have := r.length; rw [List.length_map, List.length_range] at this; omega) fun h' tk its keep r => walk_comb (ClX.unpin I4) hk keep r q4
  refine collect_range (A := X.A.in1.in1) (n := n) hcalm hr (small_one (by omega) (by omega) (by omega) (by omega)) (by have := rangeSize_nat 0 (n : Int); rw [Int.sub_zero, Int.toNat_natCast] at this; exact this) (by omega) fun h' tk acc keep hacc => hQ h' tk acc.toList keep ?_
  have hacc2 : ItemsOf (fun i v => ∃ t, v = Value.int (0 + (i : Int) * 1) t) acc ((n : Int) - 0).toNat := by
    rw [Int.sub_zero, Int.toNat_natCast]
    exact hacc
  have := vals_rg hacc2
  rw [rg0] at this
  exact this
/-- combinations(xs, k) -/
def iCbL (K : PySem.W.Frag) (ta : TA) : TI := fun σ H R => ta σ H fun vs H1 => ∃ (a : Addr) (xs : List V) (k : Nat), vs = [.ref a, .int k] ∧ SqL K H1 a xs ∧ xs.length ≤ 1000 ∧ k ≤ 1000 ∧ R (ItCb xs k) H1
theorem pi_combL {a b : Expr} {ta : TA} {p pos : Pos} (hc : X.calm = true) (hg : Gl X "combinations") (hm : X.mg "combinations" = some (.type "itertools.combinations")) (ha : PA X [a, b] ta)
    (na : starEach [a, b] X.env = (false, eval a X.env) :: starEach [b] X.env := by rfl) (hp : (backTo pos (starEach [b] X.env)).any (·.1) = false := by rfl) : PI X tg (.Call (.Name "combinations" p) [a, b] [] pos) (iCbL X.K ta) := by
  refine ⟨fun pins s σ H R I h => ?_⟩
  refine Call_ (ld_glob I hg hm (PyProof.Rows.callWith_type1 (thn (ha.run pos pins s σ H _ I h) fun us s1 ⟨vs, H1, I1, r1, q1⟩ => ?_) na hp))
  obtain ⟨l, xs, k, e, hl, hx, hk, q⟩ := q1
  subst e
  cases r1 with
  | cons ru rr =>
    cases rr with
    | cons rk rr =>
      cases rr
      cases ru
      obtain ⟨t, rfl⟩ := rk
      obtain ⟨its, rv, pl, hz⟩ := I1.list hl
      have hlen := rv.length
      refine call_comb (P := fun js => js = its) hk (fun E Q hQ => ?_) (fun js e => by rw [e]; omega) fun h' tk js keep e => walk_comb I1 hk keep (by rw [e]; exact rv) q
      refine PyProof.Rows.collect_list pl.isList (hQ _ s1.toks its (fun b o e => ?_) rfl) (by omega)
      have lt := Heap.lt_size e
      exact (Heap.get?_update_other _ _ (Nat.ne_of_gt lt)).trans (Heap.get?_push_of_some _ e)
end
/-! ### the readings -/
theorem for_comb {xs : List V} {r : Nat} {g : TG} {tb : TS} {D : Ends} {σ : L2.St} {H : Hp} (Pv : Nat → L2.St → Hp → Prop) (h0 : Pv 0 σ H)
    (hs : ∀ (i : Nat) (l : List Nat) (T : Addr) (σ : L2.St) (H : Hp), (Cb.all xs.length r)[i]? = some l → Pv i σ H → H T = none → g (.ref T) σ (upd H T (.tup (pickV xs l))) fun σ2 H2 => tb { D with nx := Pv (i + 1), ct := Pv (i + 1), bk := D.nx } σ2 H2) (hd : ∀ σ H, Pv (Cb.all xs.length r).length σ H → D.nx σ H) :
    ∃ W : Nat → Nat → L2.St → Hp → Prop, (∃ m, W 0 m σ H) ∧ ∀ i m σ H, W i m σ H →
      ((ItCb xs r).stop i H ∧ D.nx σ H) ∨ ((ItCb xs r).go i H ∧ ∃ N : L2.St → Hp → Prop, (∀ σ' H', N σ' H' → ∃ m', m' < m ∧ W (i + 1) m' σ' H') ∧ ∀ v H', (ItCb xs r).yld i H v H' → g v σ H' fun σ2 H2 => tb { D with nx := N, ct := N, bk := D.nx } σ2 H2) := by
  refine ⟨fun i m σ H => m = (Cb.all xs.length r).length - i ∧ i ≤ (Cb.all xs.length r).length ∧ Pv i σ H, ⟨_, rfl, Nat.zero_le _, h0⟩, ?_⟩
  rintro i m σ H ⟨rfl, hi, p⟩
  by_cases hlt : i < (Cb.all xs.length r).length
  · refine .inr ⟨hlt, Pv (i + 1), fun σ' H' p' => ⟨(Cb.all xs.length r).length - (i + 1), by omega, rfl, hlt, p'⟩, fun v H' y => ?_⟩
    obtain ⟨T, l, rfl, hT, hl, rfl⟩ := y
    exact hs i l T σ H hl p hT
  · have e : i = (Cb.all xs.length r).length := by omega
    subst e
    exact .inl ⟨Nat.le_refl _, hd σ H p⟩
end CbL
/-! all lists of choices, in their order; halves -/
namespace Ls
open PySem PySem.Spec PyProof.Rows
open L2
def grow (told : List (List Int)) (some : List Int) : List (List Int) := told.flatMap fun a => some.map fun o => a ++ [o]
def allL (cs : List (List Int)) : List (List Int) := cs.foldl grow [[]]
theorem allL_snoc (cs : List (List Int)) (c : List Int) : allL (cs ++ [c]) = grow (allL cs) c := by
  unfold allL
  rw [List.foldl_append]
  rfl
theorem grow_len (told : List (List Int)) (some : List Int) : (grow told some).length = told.length * some.length := by
  unfold grow
  induction told with
  | nil => simp
  | cons a told ih => rw [List.flatMap_cons, List.length_append, ih, List.length_map, List.length_cons, Nat.add_mul, Nat.one_mul, Nat.add_comm]
theorem allL_len {b : Nat} {cs : List (List Int)} (h : ∀ c ∈ cs, c.length ≤ b) : (allL cs).length ≤ b ^ cs.length := by
  have key : ∀ (n : Nat) (cs : List (List Int)), cs.length = n → (∀ c ∈ cs, c.length ≤ b) → (allL cs).length ≤ b ^ n := by
    intro n
    induction n with
    | zero =>
      intro cs hl _
      rw [List.length_eq_zero_iff.mp hl]
      exact Nat.le_refl _
    | succ n ih =>
      intro cs hl h
      have ne : cs ≠ [] := fun z => by rw [z] at hl; cases hl
      have e := (List.dropLast_concat_getLast ne).symm
      rw [e] at hl h ⊢
      rw [List.length_append] at hl
      rw [allL_snoc, grow_len, Nat.pow_succ]
      exact Nat.mul_le_mul (ih _ (by simp at hl ⊢; omega) fun c hc => h c (List.mem_append_left _ hc)) (h _ (List.mem_append_right _ (List.mem_singleton_self _)))
  exact key _ cs rfl h
theorem allL_each : ∀ (n : Nat) (cs : List (List Int)), cs.length = n → ∀ z ∈ allL cs, Paired (fun (y : Int) (c : List Int) => y ∈ c) z cs := by
  intro n
  induction n with
  | zero =>
    intro cs hl z hz
    rw [List.length_eq_zero_iff.mp hl] at hz ⊢
    rw [show allL [] = [[]] from rfl] at hz
    rw [List.mem_singleton.mp hz]
    exact .nil
  | succ n ih =>
    intro cs hl z hz
    have ne : cs ≠ [] := fun z => by rw [z] at hl; cases hl
    have e := (List.dropLast_concat_getLast ne).symm
    rw [e] at hl hz ⊢
    rw [List.length_append] at hl
    rw [allL_snoc] at hz
    unfold grow at hz
    obtain ⟨a, ha, hz⟩ := List.mem_flatMap.mp hz
    obtain ⟨o, ho, rfl⟩ := List.mem_map.mp hz
    exact Paired.snoc (ih _ (by simp at hl ⊢; omega) a ha) ho
def rg (lo hi : Int) : List Int := (List.range (hi - lo).toNat).map fun i : Nat => lo + (i : Int)
theorem rg_mem {lo hi z : Int} (h : z ∈ rg lo hi) : lo ≤ z ∧ z < hi := by
  unfold rg at h
  obtain ⟨i, hi, rfl⟩ := List.mem_map.mp h
  have := List.mem_range.mp hi
  omega
theorem rg_len (lo hi : Int) : (rg lo hi).length = (hi - lo).toNat := by
  unfold rg
  rw [List.length_map, List.length_range]
def hv (x : Int) : List Int := rg (x / 2) (x - x / 2 + 1)
theorem hv_len (x : Int) : (hv x).length ≤ 2 := by
  unfold hv
  rw [rg_len]
  omega
theorem hv_mem {x z : Int} (h : z ∈ hv x) : x / 2 ≤ z ∧ z ≤ x - x / 2 := by
  have := rg_mem h
  omega
theorem hv_law (x : Int) : hv x = rg (x / 2) (x / 2 + x % 2 + 1) := by
  unfold hv
  congr 1
  omega
def dot (r s : List Int) : Int := (List.zipWith (· * ·) r s).sum
def totals (rows : List (List Int)) (zs : List Int) : List Int := rows.map fun r => dot r zs
def small1 (t : Int) : Bool := decide (t = -1 ∨ t = 0 ∨ t = 1)
def smallB (ts : List Int) : Bool := ts.all small1
def otherOf (xs zs : List Int) : List Int := List.zipWith (fun x z => x - z) xs zs
def gapsOf (xs zs : List Int) : List Int := List.zipWith (fun z y => z - y) zs (otherOf xs zs)
def halfOk (rows : List (List Int)) (xs zs : List Int) : Bool := smallB (totals rows (gapsOf xs zs))
def halfOf (rows : List (List Int)) (xs : List Int) : Option (List Int) := (allL (xs.map hv)).find? (halfOk rows xs)
def absI (y : Int) : Int := if y < 0 then -y else y
theorem small_max {ts : List Int} {m : Int} (h : ts ≠ []) (hm : m ∈ ts.map absI) (hle : ∀ y ∈ ts.map absI, y ≤ m) : decide (m ≤ 1) = smallB ts := by
  unfold smallB
  rw [Bool.eq_iff_iff, decide_eq_true_eq, List.all_eq_true]
  refine ⟨fun h1 t ht => ?_, fun h1 => ?_⟩
  · have := hle (absI t) (List.mem_map.mpr ⟨t, ht, rfl⟩)
    unfold absI at this
    unfold small1
    rw [decide_eq_true_eq]
    split at this <;> omega
  · obtain ⟨t, ht, rfl⟩ := List.mem_map.mp hm
    have := h1 t ht
    unfold small1 at this
    rw [decide_eq_true_eq] at this
    unfold absI
    split <;> omega
theorem find_at {α : Type} {p : α → Bool} : ∀ {l : List α} {i : Nat} {z : α}, (∀ y ∈ l.take i, p y = false) → l[i]? = some z → p z = true → l.find? p = some z
  | y :: l, 0, z, _, h, hp => by
    cases h
    rw [List.find?_cons, hp]
  | y :: l, i + 1, z, h0, h, hp => by
    rw [List.find?_cons, h0 y (by rw [List.take_succ_cons]; exact .head _)]
    exact find_at (i := i) (fun q hq => h0 q (by rw [List.take_succ_cons]; exact .tail _ hq)) h hp
theorem find_no {α : Type} {p : α → Bool} {l : List α} (h : ∀ y ∈ l, p y = false) : l.find? p = none := by
  rw [List.find?_eq_none]
  intro y hy z
  rw [h y hy] at z
  cases z
theorem take_more {α : Type} {p : α → Bool} {l : List α} {i : Nat} {z : α} (h : ∀ y ∈ l.take i, p y = false) (hz : l[i]? = some z) (hp : p z = false) : ∀ y ∈ l.take (i + 1), p y = false := fun y hy => by
  rw [List.take_add_one, hz] at hy
  rcases List.mem_append.mp hy with q | q
  · exact h y q
  · have : y = z := by simpa using q
    rw [this]
    exact hp
end Ls
/-! picks of places: by codes, sorted; signs of picks -/
namespace Sg
open PySem PySem.W PyProof.Rows
/-- the places whose bit stands in the code -/
def sub (m c : Nat) : List Nat := (List.range m).filter fun k => (c >>> k) % 2 == 1
theorem bit_low {m c k : Nat} (h : k < m) : (c % 2 ^ m) >>> k % 2 = c >>> k % 2 := by
  have h1 := Nat.testBit_mod_two_pow c m k
  rw [Nat.testBit_eq_decide_div_mod_eq, Nat.testBit_eq_decide_div_mod_eq] at h1
  rw [Nat.shiftRight_eq_div_pow, Nat.shiftRight_eq_div_pow]
  simp only [h, decide_true, Bool.true_and] at h1
  have h2 := decide_eq_decide.mp h1
  omega
theorem sub_succ (m c : Nat) : sub (m + 1) c = sub m (c % 2 ^ m) ++ (if (c >>> m) % 2 = 1 then [m] else []) := by
  unfold sub
  rw [List.range_succ, List.filter_append]
  congr 1
  · refine List.filter_congr fun k hk => ?_
    rw [bit_low (List.mem_range.mp hk)]
  · by_cases h : (c >>> m) % 2 = 1
    · rw [if_pos h, List.filter_cons_of_pos (by simpa using h)]
      rfl
    · rw [if_neg h, List.filter_cons_of_neg (by simpa using h)]
      rfl
theorem sub_lt {m c k : Nat} (h : k ∈ sub m c) : k < m := List.mem_range.mp (List.mem_filter.mp h).1
theorem sub_up (m c : Nat) : (sub m c).Pairwise (· < ·) := List.Pairwise.filter _ List.pairwise_lt_range
theorem top_bit {m c : Nat} (h : c < 2 ^ (m + 1)) : c >>> m = 0 ∧ c < 2 ^ m ∨ c >>> m = 1 ∧ c = 2 ^ m + c % 2 ^ m := by
  have hp : 0 < 2 ^ m := Nat.two_pow_pos m
  have h2 : 2 ^ (m + 1) = 2 * 2 ^ m := by rw [Nat.pow_succ, Nat.mul_comm]
  have hd := Nat.div_add_mod c (2 ^ m)
  have hm := Nat.mod_lt c hp
  rw [Nat.shiftRight_eq_div_pow]
  by_cases q : c < 2 ^ m
  · exact .inl ⟨Nat.div_eq_of_lt q, q⟩
  · have e : c / 2 ^ m = 1 := by
      have a1 : c / 2 ^ m < 2 := Nat.div_lt_of_lt_mul (by omega)
      have a2 : 0 < c / 2 ^ m := Nat.div_pos (by omega) hp
      omega
    refine .inr ⟨e, ?_⟩
    rw [e, Nat.mul_one] at hd
    exact hd.symm
theorem sub_inj : ∀ {m c d : Nat}, c < 2 ^ m → d < 2 ^ m → sub m c = sub m d → c = d
  | 0, c, d, hc, hd, _ => by
    rw [Nat.pow_zero] at hc hd
    omega
  | m + 1, c, d, hc, hd, e => by
    have hp : 0 < 2 ^ m := Nat.two_pow_pos m
    rw [sub_succ, sub_succ] at e
    have out : ∀ x, m ∉ sub m x := fun x h => Nat.lt_irrefl _ (sub_lt h)
    rcases top_bit hc with ⟨a1, a2⟩ | ⟨a1, a2⟩ <;> rcases top_bit hd with ⟨b1, b2⟩ | ⟨b1, b2⟩ <;> rw [a1, b1] at e
    · rw [if_neg (by decide), List.append_nil, List.append_nil, Nat.mod_eq_of_lt a2, Nat.mod_eq_of_lt b2] at e
      exact sub_inj a2 b2 e
    · rw [if_neg (by decide), if_pos (by decide), List.append_nil] at e
      exact absurd (show m ∈ sub m (c % 2 ^ m) by rw [e]; exact List.mem_append_right _ (List.mem_singleton.mpr rfl)) (out _)
    · rw [if_pos (by decide), if_neg (by decide), List.append_nil] at e
      exact absurd (show m ∈ sub m (d % 2 ^ m) by rw [← e]; exact List.mem_append_right _ (List.mem_singleton.mpr rfl)) (out _)
    · rw [if_pos (by decide)] at e
      have := sub_inj (Nat.mod_lt c hp) (Nat.mod_lt d hp) (List.append_cancel_right e)
      omega
theorem sub_all : ∀ {m : Nat} {l : List Nat}, l.Pairwise (· < ·) → (∀ x ∈ l, x < m) → ∃ c, c < 2 ^ m ∧ sub m c = l
  | 0, l, _, h => ⟨0, by decide, by
    cases l with
    | nil => rfl
    | cons x l => exact absurd (h x (List.mem_cons_self ..)) (Nat.not_lt_zero _)⟩
  | m + 1, l, hp, h => by
    have h2 : 2 ^ (m + 1) = 2 * 2 ^ m := by rw [Nat.pow_succ, Nat.mul_comm]
    have hp0 : 0 < 2 ^ m := Nat.two_pow_pos m
    by_cases q : m ∈ l
    · obtain ⟨a, b, rfl⟩ := List.append_of_mem q
      have hb : b = [] := by
        cases b with
        | nil => rfl
        | cons y b =>
          have h1 := (List.pairwise_cons.mp (List.pairwise_append.mp hp).2.1).1 y (List.mem_cons_self ..)
          have h2 := h y (by simp)
          omega
      subst hb
      obtain ⟨c, hc, e⟩ := sub_all (m := m) (l := a) (List.pairwise_append.mp hp).1 (fun x hx => (List.pairwise_append.mp hp).2.2 x hx m (List.mem_singleton.mpr rfl))
      refine ⟨2 ^ m + c, by omega, ?_⟩
      rw [sub_succ, Nat.shiftRight_eq_div_pow, Nat.add_mod_left, Nat.mod_eq_of_lt hc, Nat.add_div_left _ hp0, Nat.div_eq_of_lt hc, if_pos (by decide), e]
    · obtain ⟨c, hc, e⟩ := sub_all (m := m) (l := l) hp (fun x hx => by
        have := h x hx
        have : x ≠ m := fun z => q (by rw [← z]; exact hx)
        omega)
      refine ⟨c, by omega, ?_⟩
      rw [sub_succ, Nat.shiftRight_eq_div_pow, Nat.mod_eq_of_lt hc, Nat.div_eq_of_lt hc, if_neg (by decide), e, List.append_nil]
theorem sub_nil {m c : Nat} (hc : c < 2 ^ m) (h : sub m c = []) : c = 0 := by
  refine sub_inj hc (Nat.two_pow_pos m) (h.trans (Eq.symm ?_))
  unfold sub
  refine List.filter_eq_nil_iff.mpr fun k _ => ?_
  rw [Nat.zero_shiftRight]
  decide
/-- all picks of m places, by their codes -/
def coded (m : Nat) : List (List Nat) := (List.range' 1 (2 ^ m - 1)).map (sub m)
theorem nodup_map {α β : Type} {f : α → β} : ∀ {l : List α}, l.Nodup → (∀ a ∈ l, ∀ b ∈ l, f a = f b → a = b) → (l.map f).Nodup
  | [], _, _ => List.nodup_nil
  | a :: l, h, hf => by
    have h := List.nodup_cons.mp h
    rw [List.map_cons]
    refine List.nodup_cons.mpr ⟨fun hm => ?_, nodup_map h.2 fun b hb c hc => hf b (List.mem_cons_of_mem _ hb) c (List.mem_cons_of_mem _ hc)⟩
    obtain ⟨b, hb, e⟩ := List.mem_map.mp hm
    have := hf b (List.mem_cons_of_mem _ hb) a (List.mem_cons_self ..) e
    rw [this] at hb
    exact h.1 hb
theorem coded_nodup (m : Nat) : (coded m).Nodup := by
  refine nodup_map List.nodup_range' fun a ha b hb e => ?_
  have ha := List.mem_range'_1.mp ha
  have hb := List.mem_range'_1.mp hb
  have := Nat.two_pow_pos m
  exact sub_inj (m := m) (by omega) (by omega) e
theorem mem_coded {m : Nat} {l : List Nat} : l ∈ coded m ↔ l ≠ [] ∧ l.Pairwise (· < ·) ∧ ∀ x ∈ l, x < m := by
  have hp := Nat.two_pow_pos m
  constructor
  · intro h
    obtain ⟨c, hc, rfl⟩ := List.mem_map.mp h
    have hc := List.mem_range'_1.mp hc
    refine ⟨fun z => ?_, sub_up m c, fun x hx => sub_lt hx⟩
    have := sub_nil (m := m) (by omega) z
    omega
  · rintro ⟨h0, h1, h2⟩
    obtain ⟨c, hc, e⟩ := sub_all h1 h2
    refine List.mem_map.mpr ⟨c, List.mem_range'_1.mpr ⟨?_, by omega⟩, e⟩
    refine Nat.pos_of_ne_zero fun z => h0 ?_
    rw [← e, z]
    unfold sub
    refine List.filter_eq_nil_iff.mpr fun k _ => ?_
    rw [Nat.zero_shiftRight]
    decide
/-- what a pick is sorted by -/
def dat (l : List Nat) : PyData := .tuple [.int (l.length : Nat), .list (l.map fun (i : Nat) => PyData.int (i : Int))]
def toks (l : List Nat) : List (Int ⊕ List Nat) := keyToks (dat l)
def ltP (a b : List Nat) : Bool := PyProof.Rows.lexLt itemOrd (toks a) (toks b)
theorem toks_is (l : List Nat) : toks l = .inl 1 :: .inl (l.length : Int) :: .inl 1 :: (keyToksAll (l.map fun (i : Nat) => PyData.int (i : Int)) ++ [.inl 0]) := by
  unfold toks dat
  rw [keyToks, keyToksAll, keyToksAll, keyToksAll, keyToks, keyToks]
  rfl
theorem ltP_len {a b : List Nat} (h : a.length < b.length) : ltP a b = true := by
  unfold ltP
  rw [toks_is, toks_is, lex_self, lex_diff (O := itemOrd) (fun z => by
    have := Sum.inl.inj z
    omega)]
  exact decide_eq_true (by omega)
theorem ltP_cons {x y : Nat} {a b : List Nat} (hl : a.length = b.length) : (x < y → ltP (x :: a) (y :: b) = true) ∧ (ltP a b = true → ltP (x :: a) (x :: b) = true) := by
  unfold ltP
  refine ⟨fun h => ?_, fun h => ?_⟩
  · rw [toks_is, toks_is, lex_self, List.length_cons, List.length_cons, hl, lex_self, lex_self, List.map_cons, List.map_cons, toks_all_cons, toks_all_cons, List.cons_append, List.cons_append, lex_self, keyToks, keyToks]
    rw [List.cons_append, List.cons_append, List.cons_append, List.cons_append, lex_diff (O := itemOrd) (fun z => by
      have := Sum.inl.inj z
      omega)]
    exact decide_eq_true (by omega)
  · rw [toks_is, toks_is, lex_self, hl, lex_self, lex_self] at h
    rw [toks_is, toks_is, lex_self, List.length_cons, List.length_cons, hl, lex_self, lex_self, List.map_cons, List.map_cons, toks_all_cons, toks_all_cons, List.cons_append, List.cons_append, lex_self, keyToks, List.cons_append, List.cons_append, List.nil_append, List.cons_append, List.cons_append, lex_self]
    exact h
theorem C_up (n : Nat) : ∀ r d lo, lo + d = n → (Cb.C n r lo).Pairwise (fun a b => ltP a b = true)
  | 0, _, _, _ => List.pairwise_singleton _ _
  | r + 1, 0, lo, h => by
    rw [Cb.C_end n r lo (by omega)]
    exact List.Pairwise.nil
  | r + 1, d + 1, lo, h => by
    rw [Cb.C_step n r lo (by omega)]
    refine List.pairwise_append.mpr ⟨List.pairwise_map.mpr ?_, C_up n (r + 1) d (lo + 1) (by omega), fun a ha b hb => ?_⟩
    · refine List.Pairwise.imp_of_mem (fun {a b} ha hb h => (ltP_cons (x := lo) (y := lo) ?_).2 h) (C_up n r d (lo + 1) (by omega))
      rw [(Cb.mem_C.mp ha).1, (Cb.mem_C.mp hb).1]
    · obtain ⟨a, ha1, rfl⟩ := List.mem_map.mp ha
      obtain ⟨b1, b2, b3⟩ := Cb.mem_C.mp hb
      cases b with
      | nil => simp at b1
      | cons y b =>
        refine (ltP_cons ?_).1 (b3 y (List.mem_cons_self ..)).1
        have := (Cb.mem_C.mp ha1).1
        rw [List.length_cons] at b1
        omega
/-- all picks of m places: those of fewer ahead, of as many the least ahead -/
def picks (m : Nat) : List (List Nat) := (List.range m).flatMap fun s => Cb.all m (s + 1)
theorem mem_picks {m : Nat} {l : List Nat} : l ∈ picks m ↔ l ≠ [] ∧ l.Pairwise (· < ·) ∧ ∀ x ∈ l, x < m := by
  unfold picks
  rw [List.mem_flatMap]
  constructor
  · rintro ⟨s, _, h⟩
    obtain ⟨h1, h2⟩ := Cb.mem_all.mp h
    exact ⟨fun z => by rw [z] at h1; simp at h1, h2⟩
  · rintro ⟨h0, h1, h2⟩
    have hl : l.length ≤ m := by
      have hn : l.Nodup := List.Pairwise.imp (fun h => Nat.ne_of_lt h) h1
      have h3 : l.length ≤ (List.range m).length := List.Nodup.length_le_of_subset hn fun x hx => List.mem_range.mpr (h2 x hx)
      rwa [List.length_range] at h3
    have hp : 0 < l.length := List.length_pos_iff.mpr h0
    exact ⟨l.length - 1, List.mem_range.mpr (by omega), Cb.mem_all.mpr ⟨by omega, h1, h2⟩⟩
theorem picks_up (m : Nat) : (picks m).Pairwise (fun a b => ltP a b = true) := by
  have hk : ∀ k, ((List.range k).flatMap fun s => Cb.all m (s + 1)).Pairwise (fun a b => ltP a b = true) := by
    intro k
    induction k with
    | zero => exact List.Pairwise.nil
    | succ k ih =>
      rw [List.range_succ, List.flatMap_append, List.flatMap_cons, List.flatMap_nil, List.append_nil]
      refine List.pairwise_append.mpr ⟨ih, C_up m (k + 1) m 0 (by omega), fun a ha b hb => ltP_len ?_⟩
      obtain ⟨s, hs, ha⟩ := List.mem_flatMap.mp ha
      have := List.mem_range.mp hs
      have h1 := (Cb.mem_all.mp ha).1
      have h2 := (Cb.mem_all.mp hb).1
      omega
  exact hk m
theorem ltP_irrefl (a : List Nat) : ltP a a = false := lex_irrefl _
theorem picks_nodup (m : Nat) : (picks m).Nodup := List.Pairwise.imp (fun {a b} h z => by
  rw [z, ltP_irrefl] at h
  cases h) (picks_up m)
theorem coded_perm (m : Nat) : List.Perm (coded m) (picks m) := (List.perm_ext_iff_of_nodup (coded_nodup m) (picks_nodup m)).mpr fun l => by rw [mem_coded, mem_picks]
def leP (a b : List Nat) : Bool := dataLe false dat a b
theorem leP_is (a b : List Nat) : leP a b = !ltP b a := rfl
theorem sorted_coded (m : Nat) : (coded m).mergeSort leP = picks m := by
  have tot : TotalLe leP := sortLe_total (listOrd itemOrd) false fun b => keyToks (dat b)
  refine List.Perm.eq_of_pairwise (le := fun a b => leP a b = true) (fun a b ha hb h1 h2 => ?_) (sort_pairwise tot _) ?_ ((List.mergeSort_perm _ _).trans (coded_perm m))
  · have ha : a ∈ picks m := (coded_perm m).mem_iff.mp ((List.mergeSort_perm _ _).mem_iff.mp ha)
    rw [leP_is] at h1 h2
    have h1 : ltP b a = false := by simpa using h1
    have h2 : ltP a b = false := by simpa using h2
    obtain ⟨i, hi, ea⟩ := List.mem_iff_getElem.mp ha
    obtain ⟨j, hj, eb⟩ := List.mem_iff_getElem.mp hb
    have pw := List.pairwise_iff_getElem.mp (picks_up m)
    rcases Nat.lt_trichotomy i j with c | c | c
    · have := pw i j hi hj c
      rw [ea, eb, h2] at this
      cases this
    · subst c
      rw [← ea, ← eb]
    · have := pw j i hj hi c
      rw [ea, eb, h1] at this
      cases this
  · refine List.Pairwise.imp (fun {a b} h => ?_) (picks_up m)
    rw [leP_is]
    cases c : ltP b a with
    | false => rfl
    | true =>
      have := lex_trans (O := itemOrd) _ _ _ h c
      rw [lex_irrefl] at this
      cases this
end Sg
namespace Sg
/-- places, as whole numbers -/
def zs (ns : List Nat) : List Int := ns.map fun (i : Nat) => (i : Int)
theorem fm_congr {α β : Type} {f g : α → List β} : ∀ {l : List α}, (∀ x ∈ l, f x = g x) → l.flatMap f = l.flatMap g
  | [], _ => rfl
  | x :: l, h => by rw [List.flatMap_cons, List.flatMap_cons, h x (List.mem_cons_self ..), fm_congr fun y hy => h y (List.mem_cons_of_mem _ hy)]
/-- all signs of so many, 1 ahead of -1 -/
def ways : Nat → List (List Int)
  | 0 => [[]]
  | n + 1 => (ways n).flatMap fun s => [s ++ [1], s ++ [-1]]
/-- the signs of a code -/
def bits (n c : Nat) : List Int := (List.range n).map fun k => 1 - 2 * (((c >>> (n - 1 - k)) % 2 : Nat) : Int)
theorem bits_succ (n c : Nat) : bits (n + 1) c = bits n (c / 2) ++ [1 - 2 * ((c % 2 : Nat) : Int)] := by
  unfold bits
  rw [List.range_succ, List.map_append]
  congr 1
  · refine List.map_congr_left fun k hk => ?_
    have hk := List.mem_range.mp hk
    have e : n + 1 - 1 - k = (n - 1 - k) + 1 := by omega
    rw [e, Nat.shiftRight_eq_div_pow, Nat.shiftRight_eq_div_pow, Nat.pow_succ, Nat.mul_comm, Nat.div_div_eq_div_mul]
  · have e : n + 1 - 1 - n = 0 := by omega
    rw [List.map_cons, List.map_nil, e, Nat.shiftRight_zero]
theorem range_two : ∀ m : Nat, List.range (2 * m) = (List.range m).flatMap fun k => [2 * k, 2 * k + 1]
  | 0 => rfl
  | m + 1 => by
    rw [List.range_succ, List.flatMap_append, ← range_two m, show 2 * (m + 1) = 2 * m + 1 + 1 by omega, List.range_succ, List.range_succ]
    simp
theorem bits_all : ∀ n : Nat, (List.range (2 ^ n)).map (bits n) = ways n
  | 0 => rfl
  | n + 1 => by
    rw [Nat.pow_succ, Nat.mul_comm, range_two, List.map_flatMap, ways, ← bits_all n, List.flatMap_map]
    refine congrArg (fun f => List.flatMap f (List.range (2 ^ n))) (funext fun k => ?_)
    show [bits (n + 1) (2 * k), bits (n + 1) (2 * k + 1)] = _
    rw [bits_succ, bits_succ, show 2 * k / 2 = k by omega, show 2 * k % 2 = 0 by omega, show (2 * k + 1) / 2 = k by omega, show (2 * k + 1) % 2 = 1 by omega]
    rfl
theorem mem_ways : ∀ {n : Nat} {s : List Int}, s ∈ ways n ↔ s.length = n ∧ ∀ x ∈ s, x = 1 ∨ x = -1
  | 0, s => by
    unfold ways
    rw [List.mem_singleton]
    constructor
    · rintro rfl
      exact ⟨rfl, fun x hx => nomatch hx⟩
    · rintro ⟨h, _⟩
      exact List.length_eq_zero_iff.mp h
  | n + 1, s => by
    rw [ways, List.mem_flatMap]
    constructor
    · rintro ⟨t, ht, hs⟩
      obtain ⟨h1, h2⟩ := mem_ways.mp ht
      have : s = t ++ [1] ∨ s = t ++ [-1] := by simpa using hs
      rcases this with rfl | rfl
      · exact ⟨by simp [h1], fun x hx => (List.mem_append.mp hx).elim (h2 x) fun z => .inl (List.mem_singleton.mp z)⟩
      · exact ⟨by simp [h1], fun x hx => (List.mem_append.mp hx).elim (h2 x) fun z => .inr (List.mem_singleton.mp z)⟩
    · rintro ⟨h1, h2⟩
      obtain ⟨t, x, rfl⟩ : ∃ t x, s = t ++ [x] := ⟨s.dropLast, s.getLast (fun z => by rw [z] at h1; simp at h1), (List.dropLast_concat_getLast _).symm⟩
      refine ⟨t, mem_ways.mpr ⟨by simpa using h1, fun y hy => h2 y (List.mem_append_left _ hy)⟩, ?_⟩
      rcases h2 x (List.mem_append_right _ (List.mem_singleton.mpr rfl)) with rfl | rfl <;> simp
theorem ways_head : ∀ n : Nat, ways (n + 1) = (ways n).map (1 :: ·) ++ (ways n).map (-1 :: ·)
  | 0 => rfl
  | n + 1 => by
    have e : ∀ m, ways (m + 1) = (ways m).flatMap fun s => [s ++ [1], s ++ [-1]] := fun _ => rfl
    refine Eq.trans (b := ((ways n).flatMap fun s => [1 :: (s ++ [1]), 1 :: (s ++ [-1])]) ++ (ways n).flatMap fun s => [-1 :: (s ++ [1]), -1 :: (s ++ [-1])]) ?_ ?_
    · rw [e (n + 1), ways_head n, List.flatMap_append, List.flatMap_map, List.flatMap_map]
      rfl
    · rw [e n, List.map_flatMap, List.map_flatMap]
      rfl
theorem ways_len (n : Nat) : (ways n).length = 2 ^ n := by rw [← bits_all, List.length_map, List.length_range]
/-- sums with signs, onto z -/
def add (z : List Int) (s : Int) (r : List Int) : List Int := List.zipWith (fun t y => t + s * y) z r
def tot : List Int → List Int → List (List Int) → List Int
  | z, s :: ss, r :: rs => tot (add z s r) ss rs
  | z, _, _ => z
theorem tot_snoc : ∀ (z ss : List Int) (rs : List (List Int)) (s : Int) (r : List Int), ss.length = rs.length → tot z (ss ++ [s]) (rs ++ [r]) = add (tot z ss rs) s r
  | z, [], [], s, r, _ => rfl
  | z, a :: ss, b :: rs, s, r, h => tot_snoc (add z a b) ss rs s r (by simpa using h)
  | _, [], _ :: _, _, _, h => by simp at h
  | _, _ :: _, [], _, _, h => by simp at h
def small (t : List Int) : Bool := t.all fun y => decide (-1 ≤ y) && decide (y ≤ 1)
/-- the first right signs -/
def first (w : Nat) (rows : List (List Int)) : Option (List Int) := (ways rows.length).find? fun s => small (tot (List.replicate w 0) s rows)
theorem add_len {z r : List Int} {s : Int} (h : z.length = r.length) : (add z s r).length = z.length := by
  unfold add
  rw [List.length_zipWith]
  omega
theorem tot_len : ∀ {w : Nat} {z ss : List Int} {rs : List (List Int)}, z.length = w → (∀ r ∈ rs, r.length = w) → (tot z ss rs).length = w
  | w, z, [], _, h, _ => h
  | w, z, _ :: _, [], h, _ => h
  | w, z, s :: ss, r :: rs, h, hr => tot_len (z := add z s r) (by rw [add_len (by rw [h, hr r (List.mem_cons_self ..)])]; exact h) fun q hq => hr q (List.mem_cons_of_mem _ hq)
/-- the first right signs begin with 1 -/
def firstP (r0 : List Int) (rs : List (List Int)) : Option (List Int) := ((ways rs.length).find? fun s => small (tot r0 s rs)).map (1 :: ·)
theorem add_zero {w : Nat} {r : List Int} (h : r.length = w) : add (List.replicate w 0) 1 r = r := by
  unfold add
  apply List.ext_getElem
  · rw [List.length_zipWith, List.length_replicate]
    omega
  · intro i h1 h2
    rw [List.getElem_zipWith, List.getElem_replicate]
    omega
theorem neg_add {z r : List Int} {s : Int} : add (z.map (- ·)) (-s) r = (add z s r).map (- ·) := by
  unfold add
  rw [List.zipWith_map_left, List.map_zipWith]
  refine congrArg (fun f => List.zipWith f z r) (funext fun a => funext fun b => ?_)
  rw [Int.neg_mul, Int.neg_add]
theorem neg_tot : ∀ (z ss : List Int) (rs : List (List Int)), tot (z.map (- ·)) (ss.map (- ·)) rs = (tot z ss rs).map (- ·)
  | z, s :: ss, r :: rs => by
    show tot (add (z.map (- ·)) (-s) r) (ss.map (- ·)) rs = (tot (add z s r) ss rs).map (- ·)
    rw [neg_add]
    exact neg_tot _ ss rs
  | z, [], [] => rfl
  | z, [], _ :: _ => rfl
  | z, _ :: _, [] => rfl
theorem small_neg (t : List Int) : small (t.map (- ·)) = small t := by
  unfold small
  rw [List.all_map]
  refine congrArg (fun f => List.all t f) (funext fun y => ?_)
  show (decide (-1 ≤ -y) && decide (-y ≤ 1)) = (decide (-1 ≤ y) && decide (y ≤ 1))
  rw [Bool.and_comm]
  congr 1
  · exact decide_eq_decide.mpr (by omega)
  · exact decide_eq_decide.mpr (by omega)
theorem neg_zeros (w : Nat) : (List.replicate w (0 : Int)).map (- ·) = List.replicate w 0 := by rw [List.map_replicate]; rfl
theorem neg_neg (s : List Int) : (s.map (- ·)).map (- ·) = s := by
  rw [List.map_map]
  refine (List.map_congr_left fun x _ => ?_).trans (List.map_id s)
  exact Int.neg_neg x
theorem first_is {w : Nat} {r0 : List Int} {rs : List (List Int)} (h : r0.length = w) : first w (r0 :: rs) = firstP r0 rs := by
  unfold first firstP
  rw [List.length_cons, ways_head, List.find?_append, List.find?_map, List.find?_map]
  have e1 : (fun s => small (tot (List.replicate w 0) s (r0 :: rs))) ∘ (1 :: ·) = fun s => small (tot r0 s rs) := by
    funext s
    show small (tot (add (List.replicate w 0) 1 r0) s rs) = _
    rw [add_zero h]
  rw [e1]
  cases hf : (ways rs.length).find? fun s => small (tot r0 s rs) with
  | some s => rfl
  | none =>
    have e2 : (ways rs.length).find? ((fun s => small (tot (List.replicate w 0) s (r0 :: rs))) ∘ (-1 :: ·)) = none := by
      refine List.find?_eq_none.mpr fun s hs => ?_
      show ¬ small (tot (List.replicate w 0) (-1 :: s) (r0 :: rs)) = true
      intro z
      have e3 : (-1 : Int) :: s = (1 :: s.map (- ·)).map (- ·) := by
        rw [List.map_cons, neg_neg]
      rw [e3, ← neg_zeros, neg_tot, small_neg, show tot (List.replicate w 0) (1 :: s.map (- ·)) (r0 :: rs) = tot (add (List.replicate w 0) 1 r0) (s.map (- ·)) rs from rfl, add_zero h] at z
      have hm : s.map (- ·) ∈ ways rs.length := mem_ways.mpr ⟨by rw [List.length_map]; exact (mem_ways.mp hs).1, fun x hx => by
        obtain ⟨y, hy, rfl⟩ := List.mem_map.mp hx
        rcases (mem_ways.mp hs).2 y hy with rfl | rfl
        · exact .inr rfl
        · exact .inl rfl⟩
      exact List.find?_eq_none.mp hf _ hm z
    rw [e2]
    rfl
end Sg
/-! dicts whose keys are tuples of tuples of whole numbers, their values whole numbers -/
namespace DN
open PySem PySem.Spec PyProof.Rows L2 Evl
abbrev Tb := List (NestedKey × Addr × Int)
section
variable {K : PySem.W.Frag} {H H' : Hp}
mutual
/-- the value is the key, by what is tracked -/
inductive Is (K : PySem.W.Frag) (H : Hp) : NestedKey → V → Prop
  | num (i : Int) : Is K H (.num i) (.int i)
  | tup {b : Addr} {vs : List V} {ks : List NestedKey} : SqT K H b vs → All K H ks vs → Is K H (.tup ks) (.ref b)
inductive All (K : PySem.W.Frag) (H : Hp) : List NestedKey → List V → Prop
  | nil : All K H [] []
  | cons {k : NestedKey} {v : V} {ks : List NestedKey} {vs : List V} : Is K H k v → All K H ks vs → All K H (k :: ks) (v :: vs)
end
mutual
theorem Is.ex (e : Ex H H') : ∀ {k : NestedKey} {v : V}, Is K H k v → Is K H' k v
  | _, _, .num i => .num i
  | _, _, .tup a b => .tup (ex_t e a) (All.ex e b)
theorem All.ex (e : Ex H H') : ∀ {ks : List NestedKey} {vs : List V}, All K H ks vs → All K H' ks vs
  | _, _, .nil => .nil
  | _, _, .cons a b => .cons (Is.ex e a) (All.ex e b)
end
theorem all_ints : ∀ ns : List Int, All K H (ns.map .num) (ns.map V.int)
  | [] => .nil
  | n :: ns => .cons (.num n) (all_ints ns)
end
section
variable {X : Cx} {pins : List (Addr × Obj)} {σ : L2.St} {H : Hp} {s : Shared}
mutual
theorem is_at (I : Inv X pins σ H s) : ∀ {k : NestedKey} {v : V} {u : Value}, Is X.K H k v → RelV v u → NestedIs s.heap k u
  | _, _, _, .num i, ⟨t, e⟩ => by rw [e]; exact .int i t
  | _, _, _, .tup a b, r => by
    cases r
    obtain ⟨its, rv, ⟨o, ho, hcl, n, hd⟩, _⟩ := I.tuple a
    exact .tup ho hcl hd (all_at I b (by simpa using rv))
theorem all_at (I : Inv X pins σ H s) : ∀ {ks : List NestedKey} {vs : List V} {us : List Value}, All X.K H ks vs → Vals vs us → NestedAll s.heap ks us
  | _, _, _, .nil, .nil => .nil
  | _, _, _, .cons a b, .cons r rr => .cons (is_at I a r) (all_at I b rr)
end
/-- the raw rows of the table -/
def Raw (xs : List (NestedKey × Addr × Value)) (L : Tb) : Prop := Paired (fun (x : NestedKey × Addr × Value) (e : NestedKey × Addr × Int) => x.1 = e.1 ∧ x.2.1 = e.2.1 ∧ ∃ t, x.2.2 = Value.int e.2.2 t) xs L
def T0 (P : Program) (w : World) (h : Heap) (a : Addr) (L : Tb) : Prop := (a == sysModules) = false ∧ ∃ xs, Raw xs L ∧ ∃ o es ep, h.get? a = some o ∧ o.ExactDict ∧ o.data = .dict es ep ∧ es.toList = xs.map (entryOfKey (nestedKind P w)) ∧ (xs.map (·.1)).Nodup
def O (P : Program) (w : World) (a : Addr) (L : Tb) : HO := .ext fun h => T0 P w h a L
theorem T0.stay {P : Program} {w : World} {h h' : Heap} {a : Addr} {L : Tb} (r : T0 P w h a L) (k : ∀ o, h.get? a = some o → h'.get? a = some o) : T0 P w h' a L := by
  obtain ⟨hd, xs, rr, o, es, ep, ho, q⟩ := r
  exact ⟨hd, xs, rr, o, es, ep, k o ho, q⟩
theorem o_new {P : Program} {w : World} {G : Hp} {h : Heap} {a : Addr} {L : Tb} (r : T0 P w h a L) : ObjOk P w G h a (O P w a L) := by
  obtain ⟨hd, xs, rr, o, es, ep, ho, q⟩ := r
  exact ⟨⟨hd, xs, rr, o, es, ep, ho, q⟩, ⟨o, ho⟩, fun h1 h2 p k => p.stay k⟩
theorem o_get (I : Inv X pins σ H s) {a : Addr} {L : Tb} (ha : H a = some (O X.prog X.w a L)) : T0 X.prog X.w s.heap a L := (I.hok a _ ha).1
/-- all keys of the table stand -/
def Keys (K : PySem.W.Frag) (H : Hp) (L : Tb) : Prop := ∀ e ∈ L, Is K H e.1 (.ref e.2.1) ∧ e.1.depth ≤ 8
theorem Keys.ex {K : PySem.W.Frag} {H H' : Hp} {L : Tb} (k : Keys K H L) (e : Ex H H') : Keys K H' L := fun x hx => ⟨(k x hx).1.ex e, (k x hx).2⟩
theorem raw_mem {xs : List (NestedKey × Addr × Value)} {L : Tb} (r : Raw xs L) : ∀ x ∈ xs, ∃ e ∈ L, x.1 = e.1 ∧ x.2.1 = e.2.1 := by
  unfold Raw at r
  induction r with
  | nil => exact fun x hx => nomatch hx
  | cons h t ih =>
    intro x hx
    rcases List.mem_cons.mp hx with rfl | hx
    · exact ⟨_, List.mem_cons_self .., h.1, h.2.1⟩
    · obtain ⟨e, he, q⟩ := ih x hx
      exact ⟨e, List.mem_cons_of_mem _ he, q⟩
theorem full (I : Inv X pins σ H s) {a : Addr} {L : Tb} (r : T0 X.prog X.w s.heap a L) (k : Keys X.K H L) : ∃ xs, Raw xs L ∧ s.heap.DictOfH (nestedKind X.prog X.w) a xs := by
  obtain ⟨hd, xs, rr, o, es, ep, ho, q1, q2, q3, q4⟩ := r
  refine ⟨xs, rr, o, es, ep, ho, q1, q2, q3, fun x hx => ?_, q4⟩
  obtain ⟨e, he, e1, e2⟩ := raw_mem rr x hx
  obtain ⟨k1, k2⟩ := k e he
  rw [e1, e2]
  exact ⟨is_at I k1 rfl, k2⟩
def find (L : Tb) (k : NestedKey) : Option Int := (L.find? fun e => decide (e.1 = k)).map (·.2.2)
theorem find_some {k : NestedKey} {i : Int} : ∀ {xs : List (NestedKey × Addr × Value)} {L : Tb}, Raw xs L → find L k = some i → ∃ b t, atKey xs k = some (b, Value.int i t)
  | _, _, .nil, h => nomatch h
  | x :: xs, e :: L, .cons ⟨h1, h2, t, h3⟩ r, h => by
    unfold find at h
    unfold atKey
    rw [List.find?_cons] at h ⊢
    rw [h1]
    cases c : decide (e.1 = k) with
    | true =>
      rw [c] at h
      have h : e.2.2 = i := Option.some.inj h
      refine ⟨x.2.1, t, ?_⟩
      show some x.2 = _
      rw [← h, ← h3]
    | false =>
      rw [c] at h
      exact find_some r h
theorem find_none {k : NestedKey} : ∀ {xs : List (NestedKey × Addr × Value)} {L : Tb}, Raw xs L → find L k = none → atKey xs k = none
  | _, _, .nil, _ => rfl
  | x :: xs, e :: L, .cons ⟨h1, h2, t, h3⟩ r, h => by
    unfold find at h
    unfold atKey
    rw [List.find?_cons] at h ⊢
    rw [h1]
    cases c : decide (e.1 = k) with
    | true =>
      rw [c] at h
      cases h
    | false =>
      rw [c] at h
      exact find_none r h
end
/-! ### the readings -/
/-- {} -/
def tNew (P : Program) (w : World) : TE := fun _ H Q => ∀ p, H p = none → Q (.ref p) (upd H p (O P w p []))
/-- d[k] -/
def tGet (K : PySem.W.Frag) (P : Program) (w : World) (td ty : TE) : TE := fun σ H Q => td σ H fun x H1 => ty σ H1 fun y H2 => ∃ (a b : Addr) (L : Tb) (k : NestedKey) (i : Int), x = .ref a ∧ y = .ref b ∧ H2 a = some (O P w a L) ∧ Keys K H2 L ∧ Is K H2 k (.ref b) ∧ k.depth ≤ 8 ∧ find L k = some i ∧ Q (.int i) H2
/-- d[k] = v, k new -/
def sPut (K : PySem.W.Frag) (P : Program) (w : World) (td ty tv : TE) : TS := fun D σ H => tv σ H fun v H1 => td σ H1 fun x H2 => ty σ H2 fun y H3 => ∃ (a b : Addr) (L : Tb) (k : NestedKey) (i : Int), v = .int i ∧ x = .ref a ∧ y = .ref b ∧ H3 a = some (O P w a L) ∧ Keys K H3 L ∧ Is K H3 k (.ref b) ∧ k.depth ≤ 8 ∧ find L k = none ∧ L.length < 100000 ∧ D.nx σ (upd H3 a (O P w a (L ++ [(k, b, i)])))
/-- {k: v} -/
def tOne (K : PySem.W.Frag) (P : Program) (w : World) (ty tv : TE) : TE := fun σ H Q => ∀ p, H p = none → ty σ (upd H p (O P w p [])) fun y H1 => tv σ H1 fun v H2 => ∃ (b : Addr) (k : NestedKey) (i : Int), y = .ref b ∧ v = .int i ∧ H2 p = some (O P w p []) ∧ Is K H2 k (.ref b) ∧ k.depth ≤ 8 ∧ Q (.ref p) (upd H2 p (O P w p [(k, b, i)]))
section
variable {X : Cx} {o i value : Expr} {td ty tv : TE} {pos pos' : Pos}
theorem t0_empty {P : Program} {w : World} {h : Heap} (hb : sysModules < h.objs.size) : T0 P w (h.push { cls := .type "dict", data := .dict #[] }) h.objs.size [] :=
  ⟨beq_eq_false_iff_ne.mpr (Ne.symm (Nat.ne_of_lt hb)), [], .nil, _, #[], _, Heap.get?_push_size _ rfl, ⟨rfl, rfl, rfl⟩, rfl, rfl, List.nodup_nil⟩
theorem pe_new : PE X (.Dict [] [] pos) (tNew X.prog X.w) := ⟨fun pins s σ H Q I h =>
  wpAny_Dict_empty ⟨.ref s.heap.objs.size, _, I.laid (a := s.heap.objs.size) (o := O X.prog X.w s.heap.objs.size []) (t' := s.toks) (fun _ _ q => Heap.get?_push_of_some _ q) (Nat.le_refl _) (o_new (t0_empty I.big)), rfl, h _ (I.hok.fresh (Nat.le_refl _))⟩⟩
theorem pe_get {k : Nat} (hr : Room k X.A) (ho : PE X o td) (hi : PE X i ty) (hs : NoSl i) : PE X (.Subscript o i pos) (tGet X.K X.prog X.w td ty) := by
  refine ⟨fun pins s σ H Q I h => ?_⟩
  have hu := hr.units
  refine subD_of PySem.F.slot_dict_getitem.lookup hs (thn (ho.run pins s σ H _ I h) fun u s1 ⟨x, H1, I1, rx, q1⟩ => thn (hi.run pins s1 σ H1 _ I1 q1) fun iv s2 ⟨y, H2, I2, ry, q2⟩ => ?_)
  obtain ⟨a, b, L, k, i, rfl, rfl, hL, hK, hk, hd, hf, q⟩ := q2
  cases rx
  cases ry
  obtain ⟨xs, rr, dd⟩ := full I2 (o_get I2 hL) hK
  obtain ⟨c, t, hp⟩ := find_some rr hf
  refine ⟨dd.typeIs, wpAny_getItem_heap (knd := nestedKind X.prog X.w) (show X.A.in1.units + 8 < cLine by simp only [Around.in1_units]; omega) ⟨is_at I2 hk rfl, hd⟩ dd hp ⟨.int i, H2, I2.tok _, ⟨t, rfl⟩, q⟩⟩
theorem raw_more {xs : List (NestedKey × Addr × Value)} {L : Tb} (r : Raw xs L) (k : NestedKey) (b : Addr) (i : Int) (t : Tok) : Raw (xs ++ [(k, b, Value.int i t)]) (L ++ [(k, b, i)]) := Paired.snoc r ⟨rfl, rfl, t, rfl⟩
theorem ps_put {k : Nat} (hr : Room k X.A) (ho : PE X o td) (hi : PE X i ty) (hv : PE X value tv) (hs : swapsWith value (some (.Subscript o i pos')) pos.line X.env = pure false) :
    PS X (.Assign [.Subscript o i pos'] value pos) (sPut X.K X.prog X.w td ty tv) := by
  refine ⟨fun pins s σ H D I h => ?_⟩
  have hu := hr.units
  refine wpAny_Assign_Subscript (thn (hv.run pins s σ H _ I h) fun r s1 ⟨v, H1, I1, rv, q1⟩ => thn (ho.run pins s1 σ H1 _ I1 q1) fun u s2 ⟨x, H2, I2, rx, q2⟩ => thn (hi.run pins s2 σ H2 _ I2 q2) fun iv s3 ⟨y, H3, I3, ry, q3⟩ => ?_) hs
  obtain ⟨a, b, L, k, i, rfl, rfl, rfl, hL, hK, hk, hd, hf, hl, q⟩ := q3
  cases rx
  cases ry
  obtain ⟨t, rfl⟩ := rv
  obtain ⟨xs, rr, dd⟩ := full I3 (o_get I3 hL) hK
  have nf := find_none rr hf
  have xl : xs.length = L.length := Paired.length rr
  have nm := (o_get I3 hL).1
  refine wpAny_setItem_heap (knd := nestedKind X.prog X.w) (show X.A.in1.units + 8 < cLine by simp only [Around.in1_units]; omega) ⟨is_at I3 hk rfl, hd⟩ dd (fun h' dd' sb => ?_) (by rw [sizeLine_eq]; omega)
  rw [storedH_new nf] at dd'
  obtain ⟨o', es, ep, g1, g2, g3, g4, g5, g6⟩ := dd'
  refine ⟨σ, _, d_write I3 (by rw [hL]; exact True.intro) sb ⟨o', g1⟩ (o_new ⟨nm, _, raw_more rr k b i t, o', es, ep, g1, g2, g3, g4, g6⟩), q⟩
def pOne (F : V → V → Hp → Prop) : List (V × V) → Hp → Prop
  | [(y, v)], H => F y v H
  | _, _ => False
theorem pOne_has {F : V → V → Hp → Prop} : ∀ {ps : List (V × V)} {H : Hp}, pOne F ps H → ∃ y v, ps = [(y, v)] ∧ F y v H
  | [], _, h => h.elim
  | [(y, v)], _, h => ⟨y, v, rfl, h⟩
  | _ :: _ :: _, _, h => h.elim
theorem pe_one {kx vx : Expr} {k : Nat} (hr : Room k X.A) (hi : PE X kx ty) (hv : PE X vx tv) : PE X (.Dict [some kx] [vx] pos) (tOne X.K X.prog X.w ty tv) := by
  refine ⟨fun pins s σ H Q I q => ?_⟩
  have hu := hr.units
  have hn := I.hok.fresh (Nat.le_refl s.heap.objs.size)
  have I1 := I.laid (a := s.heap.objs.size) (o := O X.prog X.w s.heap.objs.size []) (h' := s.heap.push { cls := .type "dict", data := .dict #[] }) (t' := s.toks) (fun _ _ q => Heap.get?_push_of_some _ q) (Nat.le_refl _) (o_new (t0_empty I.big))
  have hp := (pps_cons (pos := pos) hi hv pps_nil).run pins _ σ _ (pOne fun y v H2 => ∃ (b : Addr) (k : NestedKey) (i : Int), y = .ref b ∧ v = .int i ∧ H2 s.heap.objs.size = some (O X.prog X.w s.heap.objs.size []) ∧ Is X.K H2 k (.ref b) ∧ k.depth ≤ 8 ∧ Q (.ref s.heap.objs.size) (upd H2 s.heap.objs.size (O X.prog X.w s.heap.objs.size [(k, b, i)]))) I1 (q _ hn)
  have e0 : (pairTrees [some kx] [vx] X.env pos).length = 1 := pairTrees_length _ _ _ _ rfl rfl
  have n0 : pairTrees [some kx] [vx] X.env pos ≠ [] := fun z => by rw [z] at e0; cases e0
  have shp : (evalEachOpt [some kx] X.env).zip ((evalEach [vx] X.env).map fun v => do let x ← v; standAt pos; pure x) = (pairTrees [some kx] [vx] X.env pos).map fun p => (some p.1, p.2) := by rfl
  rw [arm_eval_Dict, shp, dictDisplay_pairs _ n0 (by rw [e0]; decide)]
  refine wpAny_bind (wpAny_standAt (wpAny_bind (wpAny_subDictH (knd := nestedKind X.prog X.w) (show X.A.units + 8 < cLine by omega) (by rw [e0]; decide) (thn hp fun ws s2 ⟨ps, H2, I2, rel, q1⟩ => ?_))))
  obtain ⟨y, v, rfl, b, k, i, rfl, rfl, hL, hk, hd, q2⟩ := pOne_has q1
  obtain ⟨w0, rfl, r1, r2⟩ : ∃ w0 : Value × Value, ws = [w0] ∧ RelV (.ref b) w0.1 ∧ RelV (.int i) w0.2 := by
    cases rel with
    | cons r rr =>
      cases rr
      exact ⟨_, rfl, r⟩
  obtain ⟨w1, w2⟩ := w0
  cases (show w1 = Value.ref b from r1)
  obtain ⟨t, e2⟩ := (show ∃ t, w2 = Value.int i t from r2)
  subst e2
  have T := o_get I2 hL
  obtain ⟨xs, rr, dd⟩ := full I2 T (fun e he => nomatch he)
  cases rr
  refine ⟨[(k, b, Value.int i t)], ⟨rfl, rfl, ⟨is_at I2 hk rfl, hd⟩, trivial⟩, dd, fun h' tk dd' sb => wpAny_pure ?_⟩
  have e3 : storedAllH ([] : List (NestedKey × Addr × Value)) [(k, b, Value.int i t)] = [(k, b, Value.int i t)] := rfl
  rw [e3] at dd'
  obtain ⟨o', es, ep, g1, g2, g3, g4, g5, g6⟩ := dd'
  exact ⟨.ref _, _, d_write I2 (by rw [hL]; exact True.intro) sb ⟨o', g1⟩ (o_new ⟨T.1, _, .cons ⟨rfl, rfl, t, rfl⟩ .nil, o', es, ep, g1, g2, g3, g4, g6⟩), rfl, q2⟩
end
end DN
/-! for i, x in enumerate(a tuple) -/
namespace EnT
open PySem PySem.Spec PyProof.Rows L2
set_option maxHeartbeats 1000000 in
theorem made {v : Value} {ob : Obj} {Fx : Heap → Prop} (B : Begins v ob Fx) : Meets (Builtin.«enumerate.__new__» ⟨[.type "enumerate", v], []⟩) (fun _ Post s => Fx s.heap ∧
    Post (.ok (.ret (.ref (s.heap.push ob).objs.size))) { s with heap := (s.heap.push ob).push { cls := .type "enumerate", data := .fields #[.none, .bool false, .ref s.heap.objs.size, rawInt 0, .none, .none] } }) :=
  .of_wp fun prog w A Post s told => by
    obtain ⟨hp, gn, dd, tk, osx⟩ := s
    obtain ⟨begun, told⟩ := told
    have hsub := sub_enumerate
    have step : ∀ {A' : Around} {E : Value → Shared → Prop} {Q : Value → Shared → Prop}, Q (.ref hp.objs.size) ⟨hp.push ob, gn, dd, tk, osx⟩ → wpAny (model prog w) A' (pyIter v) Q E ⟨hp, gn, dd, tk, osx⟩ :=
      fun q => B.iter prog w _ _ ⟨hp, gn, dd, tk, osx⟩ _ begun q
    wp_walk using step
    refine wpAny_stack_any fun st => wpAny_pure ?_
    split
    · rename_i cl _ _ _ _ _
      cases (cl == Value.type "enumerate")
      · wp_walk using step
        exact ⟨_, rfl, told⟩
      · wp_walk using step
        exact ⟨_, rfl, told⟩
    · wp_walk using step
      exact ⟨_, rfl, told⟩
theorem call1 {prog : Program} {w : World} {A : Around} {E : Value → Shared → Prop} {s : Shared} {v : Value} {ob : Obj} {Fx : Heap → Prop} {Q : Value → Shared → Prop} (B : Begins v ob Fx) (begun : Fx s.heap)
    (k : ∀ g, IsEnum g (s.heap.objs.size + 1) s.heap.objs.size 0 .none → g.get? s.heap.objs.size = some ob → (∀ c u, s.heap.get? c = some u → g.get? c = some u) → Q (.ref (s.heap.objs.size + 1)) { s with heap := g }) : wpAny (model prog w) A (call (.type "enumerate") [v]) Q E s := by
  refine callType_new F.called_enumerate (by decide) (F.typeCall_enumerate_1 _) (F.newCall_enumerate_1 _) (fun obj => F.args_object_init_2 obj _) F.entry_enumerate_new (made B) ⟨begun, ?_⟩
  have sz : (s.heap.push ob).objs.size = s.heap.objs.size + 1 := Heap.size_push ..
  show _ ∧ _
  rw [sz]
  have here : IsEnum ((s.heap.push ob).push { cls := .type "enumerate", data := .fields #[.none, .bool false, .ref s.heap.objs.size, rawInt 0, .none, .none] }) (s.heap.objs.size + 1) s.heap.objs.size 0 .none := by
    have z := Heap.get?_push_size (s.heap.push ob) (o := { cls := .type "enumerate", data := .fields #[.none, .bool false, .ref s.heap.objs.size, rawInt 0, .none, .none] }) rfl
    rw [sz] at z
    exact z
  exact ⟨⟨_, here, rfl⟩, k _ here (Heap.get?_push_of_some _ (Heap.get?_push_size _ B.free)) fun c u x => Heap.get?_push_of_some _ (Heap.get?_push_of_some _ x)⟩
/-- the tuple at a, each item in a new pair with its place -/
def Over (K : PySem.W.Frag) (a : Addr) : It :=
  ⟨fun n G => ∃ (xs : List V) (x : V), SqT K G a xs ∧ xs[n]? = some x, fun n G v G' => ∃ T x, v = .ref T ∧ G T = none ∧ G' = upd G T (.tup [.int (n : Nat), x]) ∧ ∀ xs, SqT K G a xs → xs[n]? = some x, fun n G => ∃ xs : List V, SqT K G a xs ∧ xs.length = n⟩
theorem turn {P : Program} {w : World} {K : PySem.W.Frag} {elts : List Expr} {kk : Nat} {tpos : Pos} (a e it : Addr) : Turn P w K (.Tuple elts kk tpos) (Over K a) [e, it] e (fun n h => (∃ old, IsEnum h e it ((n : Nat) : Int) old) ∧ h.IsTupleIter it a n ∧ e ≠ it) where
  mem := by simp
  obj := fun n h st b hb => by
    obtain ⟨⟨old, en⟩, ⟨o, ho, hc, hd⟩, _⟩ := st
    have two : b = e ∨ b = it := by simpa using hb
    rcases two with z | z
    · rw [z]
      exact ⟨_, en, fun v q => nomatch q⟩
    · rw [z]
      exact ⟨o, ho, fun v q => by rw [hd] at q; cases q⟩
  keep := fun n h h' st keeps => by
    obtain ⟨⟨old, en⟩, iter, apart⟩ := st
    exact ⟨⟨old, keeps e (by simp) _ en⟩, iter.at fun o q => keeps it (by simp) o q, apart⟩
  item := by
    intro X hP hw hK calm n pins s σ G E I fp st more
    subst hP hw hK
    obtain ⟨⟨old, en⟩, iter, apart⟩ := st
    obtain ⟨xs, x, sq, at_⟩ := more
    obtain ⟨its, rv, tup, _⟩ := I.tuple sq
    obtain ⟨u, hu, ru⟩ := rv.get at_
    have el : e < s.heap.objs.size := Heap.lt_size en
    have il : it < s.heap.objs.size := by
      obtain ⟨_, q, _⟩ := iter
      exact Heap.lt_size q
    have eIsT : s.heap.IsTuple a its.toArray := tup
    have ne1 : e ≠ a := fun z => by
      obtain ⟨o, ho, hc, _⟩ := eIsT
      rw [← z, show s.heap.get? e = _ from en] at ho
      cases ho
      exact absurd (Value.type.inj hc) (by decide)
    have ne2 : a ≠ it := fun z => by
      obtain ⟨o, ho, hc, _⟩ := eIsT
      obtain ⟨o2, ho2, hc2, _⟩ := iter
      rw [z, ho2] at ho
      cases ho
      rw [hc2] at hc
      exact absurd (Value.type.inj hc) (by decide)
    have D := Draws.tuple (prog := X.prog) (w := X.w) (A := X.A.in1) (by simp [I.ok.hd calm]) it a ne2 its.toArray
    refine wpAny_pyNext_enum_itemD D en ⟨iter, eIsT⟩ (by have := (List.getElem?_eq_some_iff.mp hu).1; simpa using this) apart (by simp [apart, ne1]) fun y h' tk gy out nxt hT hsz hk => ?_
    have ey : y = u := by
      have gy : its.toArray[n]? = some y := gy
      rw [List.getElem?_toArray, hu] at gy
      exact (Option.some.inj gy).symm
    subst ey
    refine ⟨_, rfl, wpAny_letOwnedTupleGo_enum (s := { s with heap := h', toks := tk + 1 }) out fun h2 back sb => ?_⟩
    have hT2 : h2.get? s.heap.objs.size = some { cls := .type "tuple", data := .seq #[.int n tk, y] } := (sb.2 _ (Nat.ne_of_gt el)).trans hT
    have new : ObjOk X.prog X.w (upd G s.heap.objs.size (.tup [.int (n : Nat), x])) h2 s.heap.objs.size (.tup [.int (n : Nat), x]) :=
      ⟨by show 2 ≤ sizeLine; decide, [.int n tk, y], .cons ⟨_, rfl⟩ (.cons ru .nil), ⟨_, hT2, rfl, _, rfl⟩⟩
    have I1 : Inv X pins σ (upd G s.heap.objs.size (.tup [.int (n : Nat), x])) { s with heap := h2, toks := tk + 1 } :=
      I.turnedNew (ch := [e, it]) (fun b ob hb q => (sb.2 b (fun z => hb (by simp [z]))).trans (hk b ob (fun z => hb (by simp [z])) (fun z => hb (by simp [z])) q)) fp (Nat.le_refl _) new
    refine ⟨.ref s.heap.objs.size, _, I1, rfl, ⟨_, x, rfl, I.hok.fresh (Nat.le_refl _), rfl, fun ys hy => by rw [I.tuple_inj hy sq]; exact at_⟩, ⟨⟨y, ?_⟩, nxt.1.at fun o q => (sb.2 it (Ne.symm apart)).trans q, apart⟩, fun b hb => ?_⟩
    · have e1 : ((n + 1 : Nat) : Int) = (n : Int) + 1 := by omega
      rw [e1]
      exact back
    · have below : b < s.heap.objs.size := by
        have two : b = e ∨ b = it := by simpa using hb
        rcases two with z | z
        · rw [z]; exact el
        · rw [z]; exact il
      rw [upd_ne (Nat.ne_of_lt below)]
      exact (fp b hb).1
  done := by
    intro X hP hw hK calm n pins s σ G E I fp st over
    subst hP hw hK
    obtain ⟨⟨old, en⟩, iter, apart⟩ := st
    obtain ⟨xs, sq, le⟩ := over
    obtain ⟨its, rv, tup, _⟩ := I.tuple sq
    obtain ⟨f0, f1, f2, f3, f4, f5⟩ := fp it (by simp)
    have hl := rv.length
    have ne2 : a ≠ it := fun z => by
      obtain ⟨o, ho, hc, _⟩ := tup
      obtain ⟨o2, ho2, hc2, _⟩ := iter
      rw [z, ho2] at ho
      cases ho
      rw [hc2] at hc
      exact absurd (Value.type.inj hc) (by decide)
    have D := Draws.tuple (prog := X.prog) (w := X.w) (A := X.A.in1) (by simp [I.ok.hd calm]) it a ne2 its.toArray
    have en2 : its.toArray.size = n := by simpa using hl.symm.trans le
    rw [← en2] at iter
    exact wpAny_pyNext_enum_endD D en ⟨iter, tup⟩ fun h' eb => ⟨rfl, I.turned (t' := s.toks) (fun b o hb q => eb b o hb q) f0 f1 f3 f4 f5⟩
  self := fun A n s Q E st h => let ⟨⟨_, en⟩, _⟩ := st; wpAny_pyIter_enum en h
def iE (K : PySem.W.Frag) (ta : TA) : TI := fun σ H R => ta σ H fun vs H1 => ∃ a xs, vs = [.ref a] ∧ SqT K H1 a xs ∧ R (Over K a) H1
theorem pi_e {X : Cx} {e : Expr} {ta : TA} {p pos tpos : Pos} {elts : List Expr} {kk : Nat} (hg : Gl X "enumerate") (hm : X.mg "enumerate" = none) (ha : PA X [e] ta) (hs : starEach [e] X.env = [(false, eval e X.env)] := by rfl) :
    PI X (.Tuple elts kk tpos) (.Call (.Name "enumerate" p) [e] [] pos) (iE X.K ta) := by
  refine ⟨fun pins s σ H R I h => ?_⟩
  refine Call_ (ld_blt I hg hm boot_enumerate (PyProof.Rows.callWith_type1 (thn (ha.run pos pins s σ H _ I h) fun us s1 ⟨vs, H1, I1, r1, q1⟩ => ?_) hs rfl))
  obtain ⟨a, xs, rfl, sq, q⟩ := q1
  cases r1 with
  | cons r rr =>
    cases rr
    cases r
    obtain ⟨its, rv, tup, _⟩ := I1.tuple sq
    refine call1 (begins_tuple a its.toArray) tup fun g en isit keep => wpAny_pyIter_enum en ?_
    have I2 : Inv X pins σ H1 { s1 with heap := g } := I1.kept (t' := s1.toks) keep
    refine ⟨s1.heap.objs.size + 1, [s1.heap.objs.size + 1, s1.heap.objs.size], _, _, H1, rfl, I2, turn a (s1.heap.objs.size + 1) s1.heap.objs.size, ⟨⟨.none, en⟩, ⟨_, isit, rfl, rfl⟩, Nat.succ_ne_self _⟩, fun b hb => ?_, q⟩
    have two : b = s1.heap.objs.size + 1 ∨ b = s1.heap.objs.size := by simpa using hb
    have le : s1.heap.objs.size ≤ b := by
      rcases two with z | z
      · rw [z]; exact Nat.le_add_right _ _
      · rw [z]; exact Nat.le_refl _
    exact I1.fpOk le (I1.hok.fresh le)
theorem for_enumT {K : PySem.W.Frag} {a : Addr} {xs : List V} {g : TG} {tb : TS} {D : Ends} {σ : L2.St} {H : Hp} (Pv : Nat → L2.St → Hp → Prop) (h0 : Pv 0 σ H) (hq : ∀ i σ H, Pv i σ H → SqT K H a xs)
    (hs : ∀ (i : Nat) (x : V) (T : Addr) (σ : L2.St) (H : Hp), xs[i]? = some x → Pv i σ H → H T = none → g (.ref T) σ (upd H T (.tup [.int (i : Nat), x])) fun σ2 H2 => tb { D with nx := Pv (i + 1), ct := Pv (i + 1), bk := D.nx } σ2 H2) (hd : ∀ σ H, Pv xs.length σ H → D.nx σ H) :
    ∃ W : Nat → Nat → L2.St → Hp → Prop, (∃ m, W 0 m σ H) ∧ ∀ i m σ H, W i m σ H →
      ((Over K a).stop i H ∧ D.nx σ H) ∨ ((Over K a).go i H ∧ ∃ N : L2.St → Hp → Prop, (∀ σ' H', N σ' H' → ∃ m', m' < m ∧ W (i + 1) m' σ' H') ∧ ∀ v H', (Over K a).yld i H v H' → g v σ H' fun σ2 H2 => tb { D with nx := N, ct := N, bk := D.nx } σ2 H2) := by
  refine ⟨fun i m σ H => m = xs.length - i ∧ i ≤ xs.length ∧ Pv i σ H, ⟨xs.length, by simp, Nat.zero_le _, h0⟩, ?_⟩
  rintro i m σ H ⟨rfl, hi, p⟩
  have q := hq i σ H p
  by_cases hlt : i < xs.length
  · refine .inr ⟨⟨xs, xs[i], q, by simp [hlt]⟩, Pv (i + 1), fun σ' H' p' => ⟨xs.length - (i + 1), by omega, rfl, hlt, p'⟩, fun v H' y => ?_⟩
    obtain ⟨T, x, rfl, hT, rfl, hx⟩ := y
    exact hs i x T σ H (hx xs q) p hT
  · have e : i = xs.length := by omega
    subst e
    exact .inl ⟨⟨xs, q, rfl⟩, hd σ H p⟩
end EnT
/-! squares of a table by their rows and columns -/
namespace Cb
theorem C_nodup (n : Nat) : ∀ r d lo, lo + d = n → (C n r lo).Nodup
  | 0, _, _, _ => by simp [C]
  | r + 1, 0, lo, h => by rw [C_end n r lo (by omega)]; exact List.nodup_nil
  | r + 1, d + 1, lo, h => by
    rw [C_step n r lo (by omega)]
    refine List.nodup_append.mpr ⟨?_, C_nodup n (r + 1) d (lo + 1) (by omega), fun a ha b hb e => ?_⟩
    · have := C_nodup n r d (lo + 1) (by omega)
      exact List.Pairwise.map _ (fun a b h e => h (List.cons.inj e).2) this
    · obtain ⟨c, hc, rfl⟩ := List.mem_map.mp ha
      have := (mem_C.mp hb).2.2 lo (by rw [← e]; exact List.mem_cons_self ..)
      omega
theorem all_nodup (n r : Nat) : (all n r).Nodup := C_nodup n r n 0 (by omega)
theorem C_shift (n : Nat) : ∀ r d lo, lo + d = n → C n r lo = (C d r 0).map fun l : List Nat => l.map fun y : Nat => lo + y
  | 0, _, _, _ => by simp [C]
  | r + 1, d, lo, h => by
    have e : ∀ n m, C n (r + 1) m = (List.range' m (n - m)).flatMap fun i => (C n r (i + 1)).map (i :: ·) := fun _ _ => rfl
    rw [e, e, show n - lo = d by omega, Nat.sub_zero, List.range'_eq_map_range, List.range'_eq_map_range, List.flatMap_map, List.flatMap_map, List.map_flatMap]
    have fm : ∀ {f g : Nat → List (List Nat)} {l : List Nat}, (∀ x ∈ l, f x = g x) → l.flatMap f = l.flatMap g := fun {f g l} h => by
      induction l with
      | nil => rfl
      | cons a l ih => rw [List.flatMap_cons, List.flatMap_cons, h a (List.mem_cons_self ..), ih fun x hx => h x (List.mem_cons_of_mem _ hx)]
    refine fm fun x hx => ?_
    have hx := List.mem_range.mp hx
    show (C n r (lo + x + 1)).map (fun l : List Nat => (lo + x) :: l) = ((C d r (0 + x + 1)).map (fun l : List Nat => (0 + x) :: l)).map fun l : List Nat => l.map fun y : Nat => lo + y
    rw [C_shift n r (d - (x + 1)) (lo + x + 1) (by omega), C_shift d r (d - (x + 1)) (0 + x + 1) (by omega), List.map_map, List.map_map, List.map_map]
    refine List.map_congr_left fun l _ => ?_
    show (lo + x) :: l.map (fun y : Nat => lo + x + 1 + y) = (lo + (0 + x)) :: (l.map fun y : Nat => 0 + x + 1 + y).map fun y : Nat => lo + y
    rw [List.map_map, Nat.zero_add]
    congr 1
    refine List.map_congr_left fun y _ => ?_
    show lo + x + 1 + y = lo + (x + 1 + y)
    omega
theorem all_step (n r : Nat) : all n (r + 1) = (List.range n).flatMap fun f => (all (n - f - 1) r).map fun l : List Nat => f :: l.map fun y : Nat => f + 1 + y := by
  have e : C n (r + 1) 0 = (List.range' 0 (n - 0)).flatMap fun i => (C n r (i + 1)).map (i :: ·) := rfl
  unfold all
  rw [e, Nat.sub_zero, ← List.range_eq_range']
  have fm : ∀ {f g : Nat → List (List Nat)} {l : List Nat}, (∀ x ∈ l, f x = g x) → l.flatMap f = l.flatMap g := fun {f g l} h => by
    induction l with
    | nil => rfl
    | cons a l ih => rw [List.flatMap_cons, List.flatMap_cons, h a (List.mem_cons_self ..), ih fun x hx => h x (List.mem_cons_of_mem _ hx)]
  refine fm fun x hx => ?_
  have hx := List.mem_range.mp hx
  rw [C_shift n r (n - x - 1) (x + 1) (by omega), List.map_map]
  rfl
theorem all_count (n : Nat) : ∀ r d lo, lo + d = n → (C n r lo).length ≤ 2 ^ d
  | 0, d, _, _ => Nat.one_le_two_pow
  | r + 1, 0, lo, h => by rw [C_end n r lo (by omega)]; exact Nat.zero_le _
  | r + 1, d + 1, lo, h => by
    rw [C_step n r lo (by omega), List.length_append, List.length_map, Nat.pow_succ]
    have h1 := all_count n r d (lo + 1) (by omega)
    have h2 := all_count n (r + 1) d (lo + 1) (by omega)
    omega
end Cb
namespace Bs
open Dt
def sub (R : List (List Int)) (rows cols : List Nat) : List (List Int) := rows.map fun i => cols.map fun j => at_ R i j
def val (R : List (List Int)) (rows cols : List Nat) : Int := detI rows.length (sub R rows cols)
theorem sub_sq (R : List (List Int)) {rows cols : List Nat} (h : cols.length = rows.length) : Sq rows.length (sub R rows cols) := by
  unfold sub
  refine ⟨by rw [List.length_map], fun r hr => ?_⟩
  obtain ⟨i, _, rfl⟩ := List.mem_map.mp hr
  rw [List.length_map, h]
theorem val_eq (R : List (List Int)) {rows cols : List Nat} (h : cols.length = rows.length) : ((val R rows cols : Int) : Rat) = det rows.length (mx (sub R rows cols)) := detI_eq (sub_sq R h)
theorem sub_at (R : List (List Int)) {rows cols : List Nat} {i j a b : Nat} (hi : rows[i]? = some a) (hj : cols[j]? = some b) : at_ (sub R rows cols) i j = at_ R a b := by
  unfold sub
  show ((rows.map fun i => cols.map fun j => at_ R i j)[i]?.getD [])[j]?.getD 0 = _
  rw [List.getElem?_map, hi]
  show (cols.map fun j => at_ R a j)[j]?.getD 0 = _
  rw [List.getElem?_map, hj]
  rfl
/-- all but the j-th -/
def out (l : List Nat) (j : Nat) : List Nat := l.take j ++ l.drop (j + 1)
theorem out_len {l : List Nat} {j : Nat} (h : j < l.length) : (out l j).length = l.length - 1 := by
  unfold out
  rw [List.length_append, List.length_take, List.length_drop]
  omega
theorem val_nil (R : List (List Int)) : val R [] [] = 1 := by
  have h := val_eq R (rows := []) (cols := []) rfl
  have e : det 0 (mx (sub R [] [])) = ((1 : Int) : Rat) := rfl
  show val R [] [] = 1
  exact Rat.intCast_inj.mp (h.trans e)
/-- along the last row -/
theorem val_last (R : List (List Int)) {ahead cols : List Nat} {r : Nat} (h : cols.length = ahead.length + 1) : ((val R (ahead ++ [r]) cols : Int) : Rat) = sm (ahead.length + 1) fun j => (sg ahead.length * sg j) * ((at_ R r (cols[j]?.getD 0) : Int) : Rat) * ((val R ahead (out cols j) : Int) : Rat) := by
  have hl : (ahead ++ [r]).length = ahead.length + 1 := by simp
  rw [val_eq R (by rw [hl, h]), hl]
  have ht := det_top (n := ahead.length + 1) (r := ahead.length) (M := mx (sub R (ahead ++ [r]) cols)) (by omega)
  have e1 : det (ahead.length + 1) (mx (sub R (ahead ++ [r]) cols)) = sg ahead.length * det (ahead.length + 1) (top ahead.length (mx (sub R (ahead ++ [r]) cols))) := by
    rw [ht, ← Rat.mul_assoc, sg_sq, Rat.one_mul]
  rw [e1, show det (ahead.length + 1) (top ahead.length (mx (sub R (ahead ++ [r]) cols))) = sm (ahead.length + 1) fun j => sg j * (top ahead.length (mx (sub R (ahead ++ [r]) cols))) 0 j * det ahead.length (minor (top ahead.length (mx (sub R (ahead ++ [r]) cols))) j) from rfl, ← sm_mul]
  refine sm_congr fun j hj => ?_
  have hc : cols[j]? = some (cols[j]?.getD 0) := by
    rw [List.getElem?_eq_getElem (by omega)]
    rfl
  have f1 : (top ahead.length (mx (sub R (ahead ++ [r]) cols))) 0 j = ((at_ R r (cols[j]?.getD 0) : Int) : Rat) := by
    show ((at_ (sub R (ahead ++ [r]) cols) ahead.length j : Int) : Rat) = _
    rw [sub_at R (i := ahead.length) (a := r) (by simp) hc]
  have f2 : det ahead.length (minor (top ahead.length (mx (sub R (ahead ++ [r]) cols))) j) = ((val R ahead (out cols j) : Int) : Rat) := by
    rw [val_eq R (by rw [out_len (by omega)]; omega)]
    refine det_congr fun a b ha hb => ?_
    show ((at_ (sub R (ahead ++ [r]) cols) (if a + 1 = 0 then ahead.length else skip ahead.length (a + 1 - 1)) (skip j b) : Int) : Rat) = ((at_ (sub R ahead (out cols j)) a b : Int) : Rat)
    rw [if_neg (by omega), Nat.add_sub_cancel, skip_lt ha]
    have ea : (ahead ++ [r])[a]? = some (ahead[a]) := by
      rw [List.getElem?_append_left ha]
      exact List.getElem?_eq_getElem ha
    have eb : (out cols j)[b]? = cols[skip j b]? := out_get cols j b (by omega)
    have sb : skip j b < cols.length := by
      unfold skip
      split <;> omega
    have ec : cols[skip j b]? = some cols[skip j b] := List.getElem?_eq_getElem sb
    rw [sub_at R ea ec, sub_at R (List.getElem?_eq_getElem ha) (eb.trans ec)]
  rw [f1, f2]
  grind
def isBad (x : Int) : Bool := !(decide (x = -1) || decide (x = 0) || decide (x = 1))
/-- all squares of one size -/
def sq (m w s : Nat) : List (List Nat × List Nat) := (Cb.all m s).flatMap fun rs => (Cb.all w s).map fun cs => (rs, cs)
def sqs (m w n : Nat) : List (List Nat × List Nat) := (List.range n).flatMap fun s => sq m w (s + 1)
theorem sqs_succ (m w n : Nat) : sqs m w (n + 1) = sqs m w n ++ sq m w (n + 1) := by
  unfold sqs
  rw [List.range_succ, List.flatMap_append, List.flatMap_cons, List.flatMap_nil, List.append_nil]
/-- the bad square of the fewest rows, of the least rows, of the least columns -/
def bad (R : List (List Int)) (m w : Nat) : Option (List Nat × List Nat) := (sqs m w (min m w)).find? fun x => isBad (val R x.1 x.2)
theorem find_split {α : Type} {p : α → Bool} {A B : List α} {x : α} (h : ∀ y ∈ A, p y = false) (hx : p x = true) : (A ++ x :: B).find? p = some x := by
  rw [List.find?_append, List.find?_eq_none.mpr (fun y hy => by rw [h y hy]; exact Bool.false_ne_true), List.find?_cons, hx]
  rfl
/-- those ahead of the j-th columns of the i-th rows -/
def upto (m w s i j : Nat) : List (List Nat × List Nat) := ((Cb.all m s).take i).flatMap (fun rs => (Cb.all w s).map fun cs => (rs, cs)) ++ ((Cb.all w s).take j).map fun cs => ((Cb.all m s)[i]?.getD [], cs)
theorem upto_zero (m w s : Nat) : upto m w s 0 0 = [] := by simp [upto]
theorem upto_full {m w s i : Nat} (hi : i < (Cb.all m s).length) : upto m w s i (Cb.all w s).length = upto m w s (i + 1) 0 := by
  unfold upto
  rw [List.take_length, List.take_zero, List.map_nil, List.append_nil, List.take_add_one, List.getElem?_eq_getElem hi, List.flatMap_append]
  simp
theorem upto_all (m w s : Nat) : upto m w s (Cb.all m s).length 0 = sq m w s := by
  unfold upto sq
  rw [List.take_length]
  simp
theorem upto_succ {m w s i j : Nat} {rs cs : List Nat} (hr : (Cb.all m s)[i]? = some rs) (hc : (Cb.all w s)[j]? = some cs) : upto m w s i (j + 1) = upto m w s i j ++ [(rs, cs)] := by
  unfold upto
  rw [List.take_add_one, hc, List.map_append, hr, List.append_assoc]
  rfl
theorem upto_new {m w s i j : Nat} {rs cs : List Nat} (hr : (Cb.all m s)[i]? = some rs) (hc : (Cb.all w s)[j]? = some cs) : (rs, cs) ∉ upto m w s i j := by
  have take_no : ∀ {l : List (List Nat)} {k : Nat} {x : List Nat}, l.Nodup → l[k]? = some x → x ∉ l.take k := fun {l k x} nd h z => by
    obtain ⟨a, ha, e⟩ := List.mem_iff_getElem.mp z
    rw [List.length_take] at ha
    have h1 := (List.getElem?_eq_some_iff.mp h)
    rw [List.getElem_take] at e
    have := (List.getElem?_inj (i := a) (j := k) (by omega) nd).mp (by rw [h, ← e]; exact List.getElem?_eq_getElem (by omega))
    omega
  intro z
  unfold upto at z
  rcases List.mem_append.mp z with h | h
  · obtain ⟨r2, hr2, h⟩ := List.mem_flatMap.mp h
    obtain ⟨c2, _, e⟩ := List.mem_map.mp h
    have e1 := (Prod.mk.inj e).1
    rw [e1] at hr2
    exact take_no (Cb.all_nodup m s) hr hr2
  · obtain ⟨c2, hc2, e⟩ := List.mem_map.mp h
    have e2 := (Prod.mk.inj e).2
    rw [e2] at hc2
    exact take_no (Cb.all_nodup w s) hc hc2
theorem sq_split {m w s i j : Nat} {rs cs : List Nat} (hr : (Cb.all m s)[i]? = some rs) (hc : (Cb.all w s)[j]? = some cs) : ∃ B, sq m w s = upto m w s i j ++ (rs, cs) :: B := by
  have hi := (List.getElem?_eq_some_iff.mp hr).1
  have hj := (List.getElem?_eq_some_iff.mp hc).1
  have e1 : Cb.all m s = (Cb.all m s).take i ++ rs :: (Cb.all m s).drop (i + 1) := by
    have h1 := (List.getElem?_eq_some_iff.mp hr).2
    conv => lhs; rw [← List.take_append_drop i (Cb.all m s)]
    rw [List.drop_eq_getElem_cons hi, h1]
  have e2 : Cb.all w s = (Cb.all w s).take j ++ cs :: (Cb.all w s).drop (j + 1) := by
    have h1 := (List.getElem?_eq_some_iff.mp hc).2
    conv => lhs; rw [← List.take_append_drop j (Cb.all w s)]
    rw [List.drop_eq_getElem_cons hj, h1]
  refine ⟨((Cb.all w s).drop (j + 1)).map (fun c => (rs, c)) ++ ((Cb.all m s).drop (i + 1)).flatMap (fun r => (Cb.all w s).map fun c => (r, c)), ?_⟩
  have e3 : sq m w s = ((Cb.all m s).take i ++ rs :: (Cb.all m s).drop (i + 1)).flatMap fun r => (Cb.all w s).map fun c => (r, c) := by
    unfold sq
    rw [← e1]
  have e4 : (Cb.all w s).map (fun c => (rs, c)) = ((Cb.all w s).take j).map (fun c => (rs, c)) ++ (rs, cs) :: ((Cb.all w s).drop (j + 1)).map (fun c => (rs, c)) := by
    conv => lhs; rw [e2]
    rw [List.map_append, List.map_cons]
  rw [e3, List.flatMap_append, List.flatMap_cons, e4]
  unfold upto
  rw [hr]
  simp [List.append_assoc]
theorem sqs_split {m w n s : Nat} (h : s < n) : ∃ B, sqs m w n = sqs m w s ++ (sq m w (s + 1) ++ B) := by
  induction n with
  | zero => omega
  | succ n ih =>
    by_cases e : s = n
    · subst e
      exact ⟨[], by rw [sqs_succ, List.append_nil]⟩
    · obtain ⟨B, hB⟩ := ih (by omega)
      exact ⟨B ++ sq m w (n + 1), by rw [sqs_succ, hB]; simp [List.append_assoc]⟩
theorem mem_sq {m w s : Nat} {rs cs : List Nat} : (rs, cs) ∈ sq m w s ↔ rs ∈ Cb.all m s ∧ cs ∈ Cb.all w s := by
  unfold sq
  rw [List.mem_flatMap]
  constructor
  · rintro ⟨r, hr, h⟩
    obtain ⟨c, hc, e⟩ := List.mem_map.mp h
    obtain ⟨rfl, rfl⟩ := Prod.mk.inj e
    exact ⟨hr, hc⟩
  · rintro ⟨hr, hc⟩
    exact ⟨rs, hr, List.mem_map.mpr ⟨cs, hc, rfl⟩⟩
theorem out_mem {w s : Nat} {cs : List Nat} {j : Nat} (h : cs ∈ Cb.all w (s + 1)) (hj : j < s + 1) : out cs j ∈ Cb.all w s := by
  obtain ⟨h1, h2, h3⟩ := Cb.mem_all.mp h
  have sl : (out cs j).Sublist cs := by
    unfold out
    have : (cs.take j ++ cs.drop (j + 1)).Sublist (cs.take j ++ cs.drop j) := (List.Sublist.refl _).append (by
      have z := List.drop_sublist 1 (cs.drop j)
      rwa [List.drop_drop] at z)
    rwa [List.take_append_drop] at this
  exact Cb.mem_all.mpr ⟨by rw [out_len (by rw [h1]; exact hj), h1, Nat.add_sub_cancel], h2.sublist sl, fun x hx => h3 x (sl.subset hx)⟩
theorem init_mem {m s : Nat} {rs : List Nat} (h : rs ∈ Cb.all m (s + 1)) : ∃ ahead r, rs = ahead ++ [r] ∧ ahead ∈ Cb.all m s ∧ r < m := by
  obtain ⟨h1, h2, h3⟩ := Cb.mem_all.mp h
  have hn : rs ≠ [] := fun z => by rw [z] at h1; simp at h1
  refine ⟨rs.dropLast, rs.getLast hn, (List.dropLast_concat_getLast hn).symm, Cb.mem_all.mpr ⟨by rw [List.length_dropLast, h1, Nat.add_sub_cancel], h2.sublist (List.dropLast_sublist _), fun x hx => h3 x ((List.dropLast_sublist _).subset hx)⟩, h3 _ (List.getLast_mem hn)⟩
end Bs
/-! squares told by lists of rows and of columns: the order matters by the sign alone -/
namespace Tu
open Dt
/-- none but -1, 0 and 1 -/
def S1 (x : Rat) : Prop := x = -1 ∨ x = 0 ∨ x = 1
theorem S1.neg {x : Rat} (h : S1 x) : S1 (-x) := by
  rcases h with h | h | h
  · exact .inr (.inr (by rw [h]; rfl))
  · exact .inr (.inl (by rw [h]; rfl))
  · exact .inl (by rw [h])
theorem S1.mul {x y : Rat} (h : S1 x) (g : S1 y) : S1 (x * y) := by
  rcases h with h | h | h
  · rw [h, show (-1 : Rat) * y = -y by grind]
    exact g.neg
  · exact .inr (.inl (by rw [h]; grind))
  · rw [h, Rat.one_mul]
    exact g
theorem s1_sg (j : Nat) : S1 (sg j) := by
  unfold sg
  split
  · exact .inr (.inr rfl)
  · exact .inl rfl
theorem s1_pm {x y : Rat} (h : x = y ∨ x = -y) (g : S1 y) : S1 x := by
  rcases h with h | h
  · rw [h]
    exact g
  · rw [h]
    exact g.neg
/-- the square of these rows and columns -/
def mat (A : Nat → Nat → Int) (rs cs : List Nat) : Mx := fun i j => ((A (rs[i]?.getD 0) (cs[j]?.getD 0) : Int) : Rat)
def D (A : Nat → Nat → Int) (rs cs : List Nat) : Rat := det rs.length (mat A rs cs)
theorem get_swap (p : List Nat) (x y : Nat) (l : List Nat) (i : Nat) : (p ++ y :: x :: l)[i]? = (p ++ x :: y :: l)[if i = p.length then p.length + 1 else if i = p.length + 1 then p.length else i]? := by
  by_cases a : i < p.length
  · rw [if_neg (by omega), if_neg (by omega), List.getElem?_append_left a, List.getElem?_append_left a]
  · by_cases b : i = p.length
    · subst b
      rw [if_pos rfl, List.getElem?_append_right (Nat.le_refl _), List.getElem?_append_right (by omega), Nat.sub_self, show p.length + 1 - p.length = 1 by omega]
      rfl
    · by_cases c : i = p.length + 1
      · subst c
        rw [if_neg b, if_pos rfl, List.getElem?_append_right (by omega), List.getElem?_append_right (Nat.le_refl _), Nat.sub_self, show p.length + 1 - p.length = 1 by omega]
        rfl
      · rw [if_neg b, if_neg c, List.getElem?_append_right (by omega), List.getElem?_append_right (by omega)]
        obtain ⟨k, hk⟩ : ∃ k, i - p.length = k + 2 := ⟨i - p.length - 2, by omega⟩
        rw [hk]
        rfl
theorem D_swap {A : Nat → Nat → Int} {cs : List Nat} (p : List Nat) (x y : Nat) (l : List Nat) : D A (p ++ y :: x :: l) cs = -D A (p ++ x :: y :: l) cs := by
  unfold D
  have h := det_sw (n := (p ++ x :: y :: l).length) (r := p.length) (M := mat A (p ++ x :: y :: l) cs) (by rw [List.length_append]; show _ < p.length + (l.length + 1 + 1); omega)
  rw [← h, show (p ++ y :: x :: l).length = (p ++ x :: y :: l).length by rw [List.length_append, List.length_append]; rfl]
  refine det_congr fun i j _ _ => ?_
  show ((A ((p ++ y :: x :: l)[i]?.getD 0) _ : Int) : Rat) = ((A ((p ++ x :: y :: l)[_]?.getD 0) _ : Int) : Rat)
  rw [get_swap]
theorem D_permP {A : Nat → Nat → Int} {cs l1 l2 : List Nat} (h : l1.Perm l2) : ∀ p : List Nat, D A (p ++ l1) cs = D A (p ++ l2) cs ∨ D A (p ++ l1) cs = -D A (p ++ l2) cs := by
  induction h with
  | nil => exact fun p => .inl rfl
  | cons x _ ih =>
    intro p
    have := ih (p ++ [x])
    rw [List.append_assoc, List.append_assoc] at this
    exact this
  | swap x y l => exact fun p => .inr (D_swap p x y l)
  | trans _ _ ih1 ih2 =>
    intro p
    rcases ih1 p with h1 | h1 <;> rcases ih2 p with h2 | h2 <;> rw [h1, h2]
    · exact .inl rfl
    · exact .inr rfl
    · exact .inr rfl
    · exact .inl (by grind)
theorem D_perm {A : Nat → Nat → Int} {cs l1 l2 : List Nat} (h : l1.Perm l2) : D A l1 cs = D A l2 cs ∨ D A l1 cs = -D A l2 cs := D_permP h []
theorem D_T {A : Nat → Nat → Int} {rs cs : List Nat} (h : cs.length = rs.length) : D (fun i j => A j i) cs rs = D A rs cs := by
  unfold D
  rw [h, ← det_T (M := mat A rs cs)]
  rfl
theorem D_permc {A : Nat → Nat → Int} {rs l1 l2 : List Nat} (hl : l1.length = rs.length) (h : l1.Perm l2) : D A rs l1 = D A rs l2 ∨ D A rs l1 = -D A rs l2 := by
  have := D_perm (A := fun i j => A j i) (cs := rs) h
  rw [D_T hl, D_T (h.length_eq.symm.trans hl)] at this
  exact this
theorem det_put {n r p : Nat} {M : Mx} (hr : r < n) (hp : p < n) (ne : p ≠ r) : det n (fun i j => if i = r then M p j else M i j) = 0 := by
  rcases Nat.lt_or_gt_of_ne ne with l | l
  · refine det_eq (r := p) (d := r - p - 1) (by omega) fun j _ => ?_
    show (if p = r then _ else M p j) = (if p + (r - p - 1) + 1 = r then M p j else _)
    rw [if_neg ne, if_pos (by omega)]
  · refine det_eq (r := r) (d := p - r - 1) (by omega) fun j _ => ?_
    show (if r = r then M p j else _) = (if r + (p - r - 1) + 1 = r then _ else M (r + (p - r - 1) + 1) j)
    rw [if_pos rfl, if_neg (by omega), show r + (p - r - 1) + 1 = p by omega]
theorem det_comb {n r : Nat} {z : Nat → Rat} {M : Mx} (hr : r < n) : ∀ t, t ≤ n → det n (fun i j => if i = r then sm t (fun k => z k * M k j) else M i j) = if r < t then z r * det n M else 0
  | 0, _ => by
    rw [if_neg (by omega)]
    have h := det_scale (n := n) (r := r) (c := 0) (M := M) (N := fun i j => if i = r then sm 0 (fun k => z k * M k j) else M i j) hr (fun j _ => by
      show (if r = r then (0 : Rat) else M r j) = 0 * M r j
      rw [if_pos rfl]
      grind) (fun i j hi _ _ => if_neg hi)
    rw [h]
    grind
  | t + 1, ht => by
    have L := det_lin (c := z t) (r := r) (n := n) (M := fun i j => if i = r then sm (t + 1) (fun k => z k * M k j) else M i j) (A := fun i j => if i = r then sm t (fun k => z k * M k j) else M i j) (B := fun i j => if i = r then M t j else M i j) hr
      (fun j _ => by
        show (if r = r then sm t _ + z t * M t j else M r j) = (if r = r then sm t _ else M r j) + z t * (if r = r then M t j else M r j)
        rw [if_pos rfl, if_pos rfl, if_pos rfl])
      (fun i j hi _ _ => by
        show (if i = r then _ else M i j) = (if i = r then _ else M i j) ∧ (if i = r then _ else M i j) = (if i = r then M t j else M i j)
        rw [if_neg hi, if_neg hi, if_neg hi]
        exact ⟨rfl, rfl⟩)
    rw [L, det_comb hr t (by omega)]
    by_cases c : t = r
    · have e : det n (fun i j => if i = r then M t j else M i j) = det n M := det_congr fun i j _ _ => by
        show (if i = r then M t j else M i j) = M i j
        by_cases c2 : i = r
        · rw [if_pos c2, c2, c]
        · rw [if_neg c2]
      rw [e, if_neg (by omega), if_pos (by omega), c]
      grind
    · rw [det_put hr (by omega) c]
      by_cases c2 : r < t
      · rw [if_pos c2, if_pos (by omega)]
        grind
      · rw [if_neg c2, if_neg (by omega)]
        grind
/-- a sum of rows that is nothing takes nothing of any, where the determinant is not 0 -/
theorem comb_zero {n r : Nat} {z : Nat → Rat} {M : Mx} (hr : r < n) (h : ∀ j, j < n → sm n (fun k => z k * M k j) = 0) : z r * det n M = 0 := by
  have e := det_comb (z := z) (M := M) hr n (Nat.le_refl _)
  rw [if_pos hr] at e
  rw [← e]
  have g := det_scale (n := n) (r := r) (c := 0) (M := M) (N := fun i j => if i = r then sm n (fun k => z k * M k j) else M i j) hr (fun j hj => by
    show (if r = r then sm n _ else M r j) = 0 * M r j
    rw [if_pos rfl, h j hj]
    grind) (fun i j hi _ _ => if_neg hi)
  rw [g]
  grind
theorem sm_one {f : Nat → Rat} {i : Nat} : ∀ {n : Nat}, i < n → (∀ j, j < n → j ≠ i → f j = 0) → sm n f = f i
  | 0, h, _ => by omega
  | n + 1, h, g => by
    show sm n f + f n = f i
    by_cases c : i = n
    · have : sm n f = 0 := by
        rw [← sm_zero n]
        exact sm_congr fun j hj => g j (by omega) (by omega)
      rw [this, c]
      grind
    · rw [sm_one (by omega) fun j hj => g j (by omega), g n (by omega) (fun z => c z.symm)]
      grind
end Tu
/-! squares of any lists; with single ones added -/
namespace Tu
open Dt
theorem D_dup {A : Nat → Nat → Int} {rs cs : List Nat} (h : ¬ rs.Nodup) : D A rs cs = 0 := by
  have : ∃ i j, i < j ∧ ∃ hj : j < rs.length, ∃ hi : i < rs.length, rs[i] = rs[j] := by
    refine Classical.byContradiction fun z => h ?_
    refine List.pairwise_iff_getElem.mpr fun i j hi hj hij e => z ⟨i, j, hij, hj, hi, e⟩
  obtain ⟨i, j, hij, hj, hi, e⟩ := this
  unfold D
  refine det_eq (r := i) (d := j - i - 1) (by omega) fun k _ => ?_
  show ((A (rs[i]?.getD 0) _ : Int) : Rat) = ((A (rs[i + (j - i - 1) + 1]?.getD 0) _ : Int) : Rat)
  rw [show i + (j - i - 1) + 1 = j by omega, List.getElem?_eq_getElem hi, List.getElem?_eq_getElem hj, e]
theorem le_sum {l : List Nat} : ∀ {x : Nat}, x ∈ l → x ≤ l.sum := by
  induction l with
  | nil => exact fun h => nomatch h
  | cons a l ih =>
    intro x h
    rw [List.sum_cons]
    rcases List.mem_cons.mp h with h | h
    · omega
    · have := ih h
      omega
theorem sorted_of {l : List Nat} (h : l.Nodup) : ∃ l' : List Nat, l.Perm l' ∧ l'.Pairwise (· < ·) := by
  refine ⟨(List.range (l.sum + 1)).filter fun x => decide (x ∈ l), ?_, List.Pairwise.filter _ List.pairwise_lt_range⟩
  refine (List.perm_ext_iff_of_nodup h (List.Pairwise.filter _ List.nodup_range)).mpr fun a => ?_
  rw [List.mem_filter, List.mem_range, decide_eq_true_eq]
  exact ⟨fun g => ⟨by have := le_sum g; omega, g⟩, fun g => g.2⟩
/-- all squares of rising rows and columns are small -/
def TU (A : Nat → Nat → Int) (P Q : Nat → Prop) : Prop := ∀ rs cs : List Nat, cs.length = rs.length → rs.Pairwise (· < ·) → cs.Pairwise (· < ·) → (∀ x ∈ rs, P x) → (∀ x ∈ cs, Q x) → S1 (D A rs cs)
def TUA (A : Nat → Nat → Int) (P Q : Nat → Prop) : Prop := ∀ rs cs : List Nat, cs.length = rs.length → (∀ x ∈ rs, P x) → (∀ x ∈ cs, Q x) → S1 (D A rs cs)
theorem TU.any {A : Nat → Nat → Int} {P Q : Nat → Prop} (h : TU A P Q) : TUA A P Q := fun rs cs hl hr hc => by
  by_cases n1 : rs.Nodup
  · by_cases n2 : cs.Nodup
    · obtain ⟨rs', p1, u1⟩ := sorted_of n1
      obtain ⟨cs', p2, u2⟩ := sorted_of n2
      have g := h rs' cs' (by rw [← p1.length_eq, ← p2.length_eq, hl]) u1 u2 (fun x hx => hr x (p1.mem_iff.mpr hx)) (fun x hx => hc x (p2.mem_iff.mpr hx))
      refine s1_pm (D_permc hl p2) (s1_pm (D_perm p1) g)
    · rw [← D_T hl, D_dup n2]
      exact .inr (.inl rfl)
  · rw [D_dup n1]
    exact .inr (.inl rfl)
theorem TUA.tu {A : Nat → Nat → Int} {P Q : Nat → Prop} (h : TUA A P Q) : TU A P Q := fun rs cs hl _ _ hr hc => h rs cs hl hr hc
theorem TU.T {A : Nat → Nat → Int} {P Q : Nat → Prop} (h : TU A P Q) : TU (fun i j => A j i) Q P := fun rs cs hl hr hc h1 h2 => by
  rw [D_T (A := A) (rs := cs) (cs := rs) hl.symm]
  exact h cs rs hl.symm hc hr h2 h1
theorem D_congr {A B : Nat → Nat → Int} {rs cs rs' cs' : List Nat} (h : rs'.length = rs.length) (e : ∀ i j, i < rs.length → j < rs.length → B (rs'[i]?.getD 0) (cs'[j]?.getD 0) = A (rs[i]?.getD 0) (cs[j]?.getD 0)) : D B rs' cs' = D A rs cs := by
  unfold D
  rw [h]
  refine det_congr fun i j hi hj => ?_
  show ((B _ _ : Int) : Rat) = _
  rw [e i j hi hj]
  rfl
theorem D_nil (A : Nat → Nat → Int) (cs : List Nat) : D A [] cs = 1 := rfl
/-- along the first column -/
theorem D_first {A : Nat → Nat → Int} {rs cs : List Nat} {c n : Nat} (hl : rs.length = n + 1) : D A rs (c :: cs) = sm (n + 1) fun i => sg i * ((A (rs[i]?.getD 0) c : Int) : Rat) * D A (Bs.out rs i) cs := by
  unfold D
  rw [hl, det_first]
  refine sm_congr fun i hi => ?_
  have e : (Bs.out rs i).length = n := by rw [Bs.out_len (by omega)]; omega
  rw [e]
  congr 1
  refine det_congr fun a b ha hb => ?_
  show ((A (rs[skip i a]?.getD 0) ((c :: cs)[b + 1]?.getD 0) : Int) : Rat) = ((A ((Bs.out rs i)[a]?.getD 0) (cs[b]?.getD 0) : Int) : Rat)
  unfold Bs.out
  rw [out_get rs i a (by omega)]
  rfl
theorem mem_out {l : List Nat} {i x : Nat} (h : x ∈ Bs.out l i) : x ∈ l := by
  unfold Bs.out at h
  rcases List.mem_append.mp h with h | h
  · exact List.mem_of_mem_take h
  · exact List.mem_of_mem_drop h
theorem out_sub (l : List Nat) (i : Nat) : (Bs.out l i).Sublist l := by
  unfold Bs.out
  have e : l = l.take i ++ l.drop i := (List.take_append_drop i l).symm
  have : (l.take i ++ l.drop (i + 1)).Sublist (l.take i ++ l.drop i) := by
    refine List.Sublist.append (List.Sublist.refl _) ?_
    rw [← List.drop_drop]
    exact List.drop_sublist _ _
  rw [← e] at this
  exact this
/-- the table with single ones behind it: the places 2 k are single ones, 2 k + 1 are columns -/
def ext (A : Nat → Nat → Int) : Nat → Nat → Int := fun r c => if c % 2 = 0 then (if r = c / 2 then 1 else 0) else A r (c / 2)
theorem ext_small {A : Nat → Nat → Int} {P Q : Nat → Prop} (h : TUA A P Q) : ∀ n (rs cs : List Nat), rs.length = n → cs.length = n → rs.Nodup → (∀ x ∈ rs, P x) → (∀ c ∈ cs, c % 2 = 1 → Q (c / 2)) → S1 (D (ext A) rs cs) := by
  intro n
  induction n with
  | zero =>
    intro rs cs h1 _ _ _ _
    rw [List.length_eq_zero_iff.mp h1, D_nil]
    exact .inr (.inr rfl)
  | succ n ih =>
    intro rs cs h1 h2 hn hP hQ
    by_cases ev : ∃ c, c ∈ cs ∧ c % 2 = 0
    · obtain ⟨c, hc, hc2⟩ := ev
      obtain ⟨p, q, rfl⟩ := List.append_of_mem hc
      have hlen : (p ++ q).length = n := by
        rw [List.length_append] at h2 ⊢
        have : (c :: q).length = q.length + 1 := rfl
        omega
      refine s1_pm (D_permc (by rw [h2, h1]) List.perm_middle) ?_
      rw [D_first h1]
      by_cases ex : ∃ i, i < n + 1 ∧ rs[i]?.getD 0 = c / 2
      · obtain ⟨i, hi, e⟩ := ex
        rw [sm_one (i := i) hi fun j hj hne => ?_]
        · have g := ih (Bs.out rs i) (p ++ q) (by rw [Bs.out_len (by omega)]; omega) hlen ((out_sub rs i).nodup hn) (fun x hx => hP x (mem_out hx)) (fun x hx => hQ x (by
            rcases List.mem_append.mp hx with h | h
            · exact List.mem_append_left _ h
            · exact List.mem_append_right _ (List.mem_cons_of_mem _ h)))
          refine S1.mul (S1.mul (s1_sg i) ?_) g
          unfold ext
          rw [if_pos hc2, if_pos e]
          exact .inr (.inr rfl)
        · have ne : ¬ rs[j]?.getD 0 = c / 2 := fun z => by
            rw [← e, List.getElem?_eq_getElem (show j < rs.length by omega), List.getElem?_eq_getElem (show i < rs.length by omega)] at z
            exact hne ((List.getElem_inj hn).mp z)
          unfold ext
          rw [if_pos hc2, if_neg ne]
          show sg j * ((0 : Int) : Rat) * _ = 0
          rw [show ((0 : Int) : Rat) = 0 from rfl]
          grind
      · rw [show (sm (n + 1) fun i => sg i * ((ext A (rs[i]?.getD 0) c : Int) : Rat) * D (ext A) (Bs.out rs i) (p ++ q)) = sm (n + 1) fun _ => 0 from sm_congr fun i hi => ?_, sm_zero]
        · exact .inr (.inl rfl)
        · have ne : ¬ rs[i]?.getD 0 = c / 2 := fun z => ex ⟨i, hi, z⟩
          unfold ext
          rw [if_pos hc2, if_neg ne]
          show sg i * ((0 : Int) : Rat) * _ = 0
          rw [show ((0 : Int) : Rat) = 0 from rfl]
          grind
    · have od : ∀ c ∈ cs, c % 2 = 1 := fun c hc => by
        have : ¬ c % 2 = 0 := fun z => ev ⟨c, hc, z⟩
        omega
      have e : D (ext A) rs cs = D A rs (cs.map (· / 2)) := (D_congr (A := A) (B := ext A) (rs := rs) (cs := cs.map (· / 2)) rfl fun i j hi hj => by
        have hj2 : j < cs.length := by omega
        rw [List.getElem?_map, List.getElem?_eq_getElem hj2]
        show ext A _ cs[j] = A _ (cs[j] / 2)
        unfold ext
        rw [if_neg (by have := od _ (List.getElem_mem hj2); omega)])
      rw [e]
      refine h rs _ (by rw [List.length_map]; omega) hP fun x hx => ?_
      obtain ⟨c, hc, rfl⟩ := List.mem_map.mp hx
      exact hQ c hc (od c hc)
end Tu
/-! rounding within bounds, where all full squares are small -/
namespace Tu
open Dt
/-- rows that hang together, or a square that does not -/
theorem hang (M : Nat → Nat → Rat) (K : Nat → Prop) : ∀ s : Nat, (∃ d : Nat → Rat, (∃ i, i < s ∧ d i ≠ 0) ∧ ∀ k, K k → sm s (fun i => d i * M i k) = 0) ∨ ∃ ks : List Nat, ks.length = s ∧ (∀ k ∈ ks, K k) ∧ det s (fun i j => M i (ks[j]?.getD 0)) ≠ 0
  | 0 => .inr ⟨[], rfl, fun k hk => (nomatch hk), fun z => by
    have z : (1 : Rat) = 0 := z
    exact absurd z (by decide +kernel)⟩
  | s + 1 => by
    rcases hang M K s with ⟨d, ⟨i, hi, hd⟩, h⟩ | ⟨ks, hl, hk, hn⟩
    · refine .inl ⟨fun i => if i < s then d i else 0, ⟨i, by omega, by show (if i < s then d i else 0) ≠ 0; rw [if_pos hi]; exact hd⟩, fun k hk => ?_⟩
      show sm s (fun i => (if i < s then d i else 0) * M i k) + (if s < s then d s else 0) * M s k = 0
      rw [if_neg (Nat.lt_irrefl s), sm_congr (f := fun i => (if i < s then d i else 0) * M i k) (g := fun i => d i * M i k) fun j hj => by
        show (if j < s then d j else 0) * M j k = _
        rw [if_pos hj], h k hk]
      grind
    · by_cases all : ∀ k, K k → det (s + 1) (fun i j => M i ((k :: ks)[j]?.getD 0)) = 0
      · refine .inl ⟨fun i => sg i * det s (fun a b => M (skip i a) (ks[b]?.getD 0)), ⟨s, Nat.lt_succ_self s, fun z => ?_⟩, fun k hk => ?_⟩
        · have e : det s (fun a b => M (skip s a) (ks[b]?.getD 0)) = det s (fun i j => M i (ks[j]?.getD 0)) := det_congr fun a b ha _ => by rw [skip_lt ha]
          have z : sg s * det s (fun a b => M (skip s a) (ks[b]?.getD 0)) = 0 := z
          rw [e] at z
          have q := sg_sq s
          apply hn
          have : sg s * (sg s * det s (fun i j => M i (ks[j]?.getD 0))) = 0 := by rw [z]; grind
          rw [← Rat.mul_assoc, q, Rat.one_mul] at this
          exact this
        · have g := all k hk
          rw [det_first] at g
          rw [← g]
          refine sm_congr fun i _ => ?_
          show sg i * det s _ * M i k = sg i * M i k * det s _
          grind
      · obtain ⟨k, hk'⟩ : ∃ k, ¬ (K k → det (s + 1) (fun i j => M i ((k :: ks)[j]?.getD 0)) = 0) := Classical.byContradiction fun z => all fun k => Classical.byContradiction fun y => z ⟨k, y⟩
        have h1 : K k := Classical.byContradiction fun z => hk' fun y => absurd y z
        refine .inr ⟨k :: ks, by rw [List.length_cons, hl], fun x hx => ?_, fun z => hk' fun _ => z⟩
        rcases List.mem_cons.mp hx with h | h
        · rw [h]
          exact h1
        · exact hk x h
  termination_by s => s
/-- what x makes of column k -/
def fn (s : Nat) (M : Nat → Nat → Int) (x : Nat → Rat) (k : Nat) : Rat := sm s fun i => x i * ((M i k : Int) : Rat)
theorem fn_move (s : Nat) (M : Nat → Nat → Int) (x d : Nat → Rat) (t : Rat) (k : Nat) : fn s M (fun i => x i + t * d i) k = fn s M x k + t * fn s M d k := by
  unfold fn
  rw [← sm_mul, ← sm_add]
  exact sm_congr fun i _ => by grind
def whB (x : Rat) : Bool := decide (x.den = 1)
theorem whB_is {x : Rat} : whB x = true ↔ Wh x := by
  unfold whB
  rw [decide_eq_true_eq]
  constructor
  · intro h
    refine ⟨x.num, ?_⟩
    apply Rat.ext
    · rfl
    · exact h
  · rintro ⟨z, rfl⟩
    rfl
theorem wh_bt {x : Rat} {a b : Int} (h1 : (a : Rat) ≤ x) (h2 : x ≤ (b : Rat)) (h : b ≤ a + 1) (n : ¬ Wh x) : (a : Rat) < x ∧ x < (b : Rat) := by
  constructor
  · refine Rat.not_le.mp fun z => n ⟨a, Rat.le_antisymm z h1⟩
  · refine Rat.not_le.mp fun z => n ⟨b, Rat.le_antisymm h2 z⟩
theorem filter_less {α : Type} {p q : α → Bool} : ∀ {l : List α}, (∀ k ∈ l, p k = true → q k = true) → (∃ k, k ∈ l ∧ q k = true ∧ p k = false) → (l.filter p).length < (l.filter q).length
  | [], _, h => by
    obtain ⟨_, h, _⟩ := h
    exact nomatch h
  | a :: l, h1, h2 => by
    have le : ∀ {l : List α}, (∀ k ∈ l, p k = true → q k = true) → (l.filter p).length ≤ (l.filter q).length := by
      intro l
      induction l with
      | nil => exact fun _ => Nat.le_refl _
      | cons b l ih =>
        intro h
        have hh := ih fun k hk => h k (List.mem_cons_of_mem _ hk)
        have hb := h b (List.mem_cons_self ..)
        rw [List.filter_cons, List.filter_cons]
        by_cases c : p b = true
        · rw [if_pos c, if_pos (hb c)]
          exact Nat.succ_le_succ hh
        · rw [if_neg c]
          split
          · exact Nat.le_succ_of_le hh
          · exact hh
    obtain ⟨k, hk, hq, hp⟩ := h2
    have hl := le fun k hk => h1 k (List.mem_cons_of_mem _ hk)
    rw [List.filter_cons, List.filter_cons]
    rcases List.mem_cons.mp hk with e | e
    · rw [← e, if_neg (by rw [hp]; exact Bool.false_ne_true), if_pos hq]
      exact Nat.lt_succ_of_le hl
    · have ih := filter_less (l := l) (fun k hk => h1 k (List.mem_cons_of_mem _ hk)) ⟨k, e, hq, hp⟩
      by_cases c : p a = true
      · rw [if_pos c, if_pos (h1 a (List.mem_cons_self ..) c)]
        exact Nat.succ_lt_succ ih
      · rw [if_neg c]
        split
        · exact Nat.lt_succ_of_lt ih
        · exact ih
theorem least_of {f : Nat → Rat} : ∀ {l : List Nat}, l ≠ [] → ∃ k, k ∈ l ∧ ∀ j ∈ l, f k ≤ f j
  | [], h => absurd rfl h
  | [a], _ => ⟨a, List.mem_cons_self .., fun j hj => by rw [List.mem_singleton.mp hj]; exact Rat.le_refl⟩
  | a :: b :: l, _ => by
    obtain ⟨k, hk, g⟩ := least_of (f := f) (l := b :: l) (fun z => nomatch z)
    rcases Rat.le_total (a := f a) (b := f k) with c | c
    · refine ⟨a, List.mem_cons_self .., fun j hj => ?_⟩
      rcases List.mem_cons.mp hj with e | e
      · rw [e]
        exact Rat.le_refl
      · exact Rat.le_trans c (g j e)
    · refine ⟨k, List.mem_cons_of_mem _ hk, fun j hj => ?_⟩
      rcases List.mem_cons.mp hj with e | e
      · rw [e]
        exact c
      · exact g j e

section
variable {s N : Nat} {M : Nat → Nat → Int} {lo hi : Nat → Int}
structure Box (s N : Nat) (M : Nat → Nat → Int) (lo hi : Nat → Int) : Prop where
  small : ∀ ks : List Nat, ks.length = s → (∀ k ∈ ks, k < N) → S1 (det s fun i j => ((M i (ks[j]?.getD 0) : Int) : Rat))
  unit : ∀ i, i < s → ∃ k, k < N ∧ ∀ a, a < s → M a k = if a = i then 1 else 0
  near : ∀ k, k < N → hi k ≤ lo k + 1
def In (s N : Nat) (M : Nat → Nat → Int) (lo hi : Nat → Int) (x : Nat → Rat) : Prop := ∀ k, k < N → ((lo k : Int) : Rat) ≤ fn s M x k ∧ fn s M x k ≤ ((hi k : Int) : Rat)
def out1 (s N : Nat) (M : Nat → Nat → Int) (x : Nat → Rat) : List Nat := (List.range N).filter fun k => !whB (fn s M x k)
theorem fn_unit {i k : Nat} {x : Nat → Rat} (hi : i < s) (h : ∀ a, a < s → M a k = if a = i then 1 else 0) : fn s M x k = x i := by
  unfold fn
  rw [sm_one hi fun j hj ne => by
    rw [h j hj, if_neg ne]
    show x j * ((0 : Int) : Rat) = 0
    rw [show ((0 : Int) : Rat) = 0 from rfl]
    grind, h i hi, if_pos rfl]
  show x i * ((1 : Int) : Rat) = x i
  rw [show ((1 : Int) : Rat) = 1 from rfl]
  grind
theorem all_wh (B : Box s N M lo hi) {x : Nat → Rat} {ks : List Nat} (hl : ks.length = s) (hk : ∀ k ∈ ks, k < N ∧ Wh (fn s M x k)) (hn : det s (fun i j => ((M i (ks[j]?.getD 0) : Int) : Rat)) ≠ 0) : ∀ k, Wh (fn s M x k) := by
  have hx : ∀ r, r < s → Wh (x r) := fun r hr => by
    have e := det_comb (n := s) (r := r) (z := x) (M := fun i j => ((M i (ks[j]?.getD 0) : Int) : Rat)) hr s (Nat.le_refl _)
    rw [if_pos hr] at e
    have w : Wh (det s fun i j => if i = r then sm s (fun k => x k * ((M k (ks[j]?.getD 0) : Int) : Rat)) else ((M i (ks[j]?.getD 0) : Int) : Rat)) := wh_det fun i j _ hj => by
      show Wh (if i = r then _ else _)
      split
      · have hj2 : j < ks.length := by omega
        rw [List.getElem?_eq_getElem hj2]
        exact (hk _ (List.getElem_mem hj2)).2
      · exact wh_int _
    rw [e] at w
    rcases B.small ks hl (fun k h => (hk k h).1) with d | d | d
    · rw [d] at w
      have := wh_mul w (wh_int (-1))
      rw [show ((-1 : Int) : Rat) = -1 from rfl] at this
      have e2 : x r * -1 * -1 = x r := by grind
      rw [e2] at this
      exact this
    · exact absurd d hn
    · rw [d] at w
      have e2 : x r * 1 = x r := by grind
      rw [e2] at w
      exact w
  exact fun k => wh_sm fun i hi => wh_mul (hx i hi) (wh_int _)
/-- one move on: one more place is whole -/
theorem box_move (B : Box s N M lo hi) {x : Nat → Rat} (hx : In s N M lo hi x) {k0 : Nat} (hk0 : k0 < N) (h0 : ¬ Wh (fn s M x k0)) : ∃ y, In s N M lo hi y ∧ (out1 s N M y).length < (out1 s N M x).length := by
  rcases hang (fun i k => ((M i k : Int) : Rat)) (fun k => k < N ∧ Wh (fn s M x k)) s with ⟨d, ⟨i0, hi0, hd0⟩, hd⟩ | ⟨ks, hl, hk, hn⟩
  · have hd' : ∀ k, k < N → Wh (fn s M x k) → fn s M d k = 0 := fun k h1 h2 => hd k ⟨h1, h2⟩
    obtain ⟨u, hu, hU⟩ := B.unit i0 hi0
    let tt : Nat → Rat := fun k => if 0 < fn s M d k then (((hi k : Int) : Rat) - fn s M x k) / fn s M d k else (((lo k : Int) : Rat) - fn s M x k) / fn s M d k
    let ev := (List.range N).filter fun k => decide (fn s M d k ≠ 0)
    have hev : ∀ {k}, k ∈ ev ↔ k < N ∧ fn s M d k ≠ 0 := fun {k} => by
      show k ∈ (List.range N).filter _ ↔ _
      rw [List.mem_filter, List.mem_range, decide_eq_true_eq]
    have ne : ev ≠ [] := fun z => by
      have : u ∈ ev := hev.mpr ⟨hu, by rw [fn_unit hi0 hU]; exact hd0⟩
      rw [z] at this
      exact nomatch this
    obtain ⟨k1, hk1, least⟩ := least_of (f := tt) ne
    obtain ⟨k1N, k1d⟩ := hev.mp hk1
    have strict : ∀ k, k < N → fn s M d k ≠ 0 → ((lo k : Int) : Rat) < fn s M x k ∧ fn s M x k < ((hi k : Int) : Rat) := fun k h1 h2 => wh_bt (hx k h1).1 (hx k h1).2 (B.near k h1) fun w => h2 (hd' k h1 w)
    have ttg : ∀ k, fn s M d k ≠ 0 → tt k * fn s M d k = if 0 < fn s M d k then ((hi k : Int) : Rat) - fn s M x k else ((lo k : Int) : Rat) - fn s M x k := fun k h => by
      show (if 0 < fn s M d k then (((hi k : Int) : Rat) - fn s M x k) / fn s M d k else (((lo k : Int) : Rat) - fn s M x k) / fn s M d k) * fn s M d k = _
      split
      · exact Rat.div_mul_cancel h
      · exact Rat.div_mul_cancel h
    have tpos : 0 ≤ tt k1 := by
      have g := strict k1 k1N k1d
      have e := ttg k1 k1d
      by_cases p : 0 < fn s M d k1
      · rw [if_pos p] at e
        refine Rat.not_lt.mp fun z => ?_
        have := Rat.mul_pos (show 0 < -tt k1 by grind) p
        grind
      · rw [if_neg p] at e
        have p2 : 0 < -fn s M d k1 := by grind
        refine Rat.not_lt.mp fun z => ?_
        have := Rat.mul_pos (show 0 < -tt k1 by grind) p2
        grind
    refine ⟨fun i => x i + tt k1 * d i, fun k hk => ?_, ?_⟩
    · rw [fn_move]
      have b := hx k hk
      by_cases z : fn s M d k = 0
      · rw [z]
        grind
      · have e := ttg k z
        have l := least k (hev.mpr ⟨hk, z⟩)
        by_cases p : 0 < fn s M d k
        · rw [if_pos p] at e
          have q1 := Rat.mul_nonneg tpos (Rat.le_of_lt p)
          have q2 := Rat.mul_nonneg (show 0 ≤ tt k - tt k1 by grind) (Rat.le_of_lt p)
          grind
        · rw [if_neg p] at e
          have p2 : 0 ≤ -fn s M d k := by grind
          have q1 := Rat.mul_nonneg tpos p2
          have q2 := Rat.mul_nonneg (show 0 ≤ tt k - tt k1 by grind) p2
          grind
    · refine filter_less (fun k hk h => ?_) ⟨k1, List.mem_range.mpr k1N, ?_, ?_⟩
      · have hk := List.mem_range.mp hk
        by_cases w : whB (fn s M x k) = true
        · have z := hd' k hk (whB_is.mp w)
          rw [fn_move, z, show fn s M x k + tt k1 * 0 = fn s M x k by grind, w] at h
          exact absurd h Bool.false_ne_true
        · rw [Bool.not_eq_true _ |>.mp w]
          rfl
      · by_cases w : whB (fn s M x k1) = true
        · exact absurd (hd' k1 k1N (whB_is.mp w)) k1d
        · rw [Bool.not_eq_true _ |>.mp w]
          rfl
      · have e := ttg k1 k1d
        have w : Wh (fn s M x k1 + tt k1 * fn s M d k1) := by
          rw [e]
          split
          · refine ⟨hi k1, ?_⟩
            grind
          · refine ⟨lo k1, ?_⟩
            grind
        rw [fn_move, whB_is.mpr w]
        rfl
  · exact absurd (all_wh B hl hk hn k0) h0
theorem box_whole (B : Box s N M lo hi) : ∀ (n : Nat) (x : Nat → Rat), (out1 s N M x).length = n → In s N M lo hi x → ∃ y, In s N M lo hi y ∧ ∀ k, k < N → Wh (fn s M y k) := by
  intro n
  induction n using Nat.strongRecOn with
  | _ n ih =>
    intro x hn hx
    by_cases all : ∀ k, k < N → Wh (fn s M x k)
    · exact ⟨x, hx, all⟩
    · obtain ⟨k, hk⟩ : ∃ k, ¬ (k < N → Wh (fn s M x k)) := Classical.byContradiction fun z => all fun k => Classical.byContradiction fun y => z ⟨k, y⟩
      have h1 : k < N := Classical.byContradiction fun z => hk fun y => absurd y z
      obtain ⟨y, hy, l⟩ := box_move B hx h1 fun w => hk fun _ => w
      exact ih _ (by rw [← hn]; exact l) y rfl hy
end
end Tu
/-! signs where all squares are small; and the other way round -/
namespace Tu
open Dt
def csum (A : Nat → Nat → Int) (rs : List Nat) (x : Nat → Int) (j : Nat) : Int := ((List.range rs.length).map fun i => x i * A (rs[i]?.getD 0) j).sum
theorem csum_eq (A : Nat → Nat → Int) (rs : List Nat) (x : Nat → Int) (j : Nat) : ((csum A rs x j : Int) : Rat) = sm rs.length fun i => ((x i : Int) : Rat) * ((A (rs[i]?.getD 0) j : Int) : Rat) := by
  unfold csum
  rw [sum_range]
  exact sm_congr fun i _ => Rat.intCast_mul _ _
/-- signs for these rows at the first columns -/
def Sgn (A : Nat → Nat → Int) (rs : List Nat) (w : Nat) : Prop := ∃ x : Nat → Int, (∀ i, i < rs.length → x i = 1 ∨ x i = -1) ∧ ∀ j, j < w → -1 ≤ csum A rs x j ∧ csum A rs x j ≤ 1
theorem int_le {a b : Int} (h : (a : Rat) ≤ (b : Rat)) : a ≤ b := Rat.intCast_le_intCast.mp h
theorem tu_signs {A : Nat → Nat → Int} {P Q : Nat → Prop} (h : TU A P Q) {rs : List Nat} (nd : rs.Nodup) (hP : ∀ x ∈ rs, P x) {w : Nat} (hQ : ∀ j, j < w → Q j) : Sgn A rs w := by
  let s := rs.length
  let code : Nat → Nat := fun k => if k < s then 2 * (rs[k]?.getD 0) else 2 * (k - s) + 1
  let M : Nat → Nat → Int := fun i k => ext A (rs[i]?.getD 0) (code k)
  let c : Nat → Int := fun j => csum A rs (fun _ => 1) j
  let lo : Nat → Int := fun k => if k < s then 0 else c (k - s) / 2
  let hi : Nat → Int := fun k => if k < s then 1 else (c (k - s) + 1) / 2
  have Mu : ∀ i, i < s → ∀ a, a < s → M a i = if a = i then 1 else 0 := fun i hi a ha => by
    show ext A (rs[a]?.getD 0) (if i < s then 2 * (rs[i]?.getD 0) else 2 * (i - s) + 1) = _
    rw [if_pos hi]
    unfold ext
    rw [if_pos (by omega), show 2 * (rs[i]?.getD 0) / 2 = rs[i]?.getD 0 by omega, List.getElem?_eq_getElem (show a < rs.length from ha), List.getElem?_eq_getElem (show i < rs.length from hi)]
    show (if rs[a] = rs[i] then (1 : Int) else 0) = _
    by_cases e : a = i
    · subst e
      rw [if_pos rfl, if_pos rfl]
    · rw [if_neg e, if_neg fun z => e ((List.getElem_inj nd).mp z)]
  have Mc : ∀ j i, M i (s + j) = A (rs[i]?.getD 0) j := fun j i => by
    show ext A (rs[i]?.getD 0) (if s + j < s then _ else 2 * (s + j - s) + 1) = _
    rw [if_neg (by omega), show s + j - s = j by omega]
    unfold ext
    rw [if_neg (by omega), show (2 * j + 1) / 2 = j by omega]
  have Bx : Box s (s + w) M lo hi := by
    refine ⟨fun ks hl hk => ?_, fun i hi => ⟨i, by omega, Mu i hi⟩, fun k hk => ?_⟩
    · have g := ext_small h.any s rs (ks.map code) rfl (by rw [List.length_map, hl]) nd hP fun x hx o => by
        obtain ⟨k, hk1, rfl⟩ := List.mem_map.mp hx
        have hk2 := hk k hk1
        have o : (if k < s then 2 * (rs[k]?.getD 0) else 2 * (k - s) + 1) % 2 = 1 := o
        show Q ((if k < s then 2 * (rs[k]?.getD 0) else 2 * (k - s) + 1) / 2)
        by_cases c : k < s
        · rw [if_pos c] at o
          omega
        · rw [if_neg c, show (2 * (k - s) + 1) / 2 = k - s by omega]
          exact hQ _ (by omega)
      have e : D (ext A) rs (ks.map code) = det s fun i j => ((M i (ks[j]?.getD 0) : Int) : Rat) := det_congr fun i j hi hj => by
        have hj2 : j < ks.length := by omega
        show ((ext A (rs[i]?.getD 0) ((ks.map code)[j]?.getD 0) : Int) : Rat) = ((ext A (rs[i]?.getD 0) (code (ks[j]?.getD 0)) : Int) : Rat)
        rw [List.getElem?_map, List.getElem?_eq_getElem hj2]
        rfl
      rw [← e]
      exact g
    · show (if k < s then (1 : Int) else (c (k - s) + 1) / 2) ≤ (if k < s then 0 else c (k - s) / 2) + 1
      split <;> omega
  have half : ∀ j, j < w → fn s M (fun _ => 1 / 2) (s + j) = 1 / 2 * ((c j : Int) : Rat) := fun j hj => by
    show sm s (fun i => 1 / 2 * ((M i (s + j) : Int) : Rat)) = 1 / 2 * ((csum A rs (fun _ => 1) j : Int) : Rat)
    rw [csum_eq, sm_mul]
    congr 1
    refine sm_congr fun i _ => ?_
    rw [Mc]
    show _ = ((1 : Int) : Rat) * _
    rw [show ((1 : Int) : Rat) = 1 from rfl, Rat.one_mul]
  have In0 : In s (s + w) M lo hi fun _ => 1 / 2 := fun k hk => by
    by_cases ck : k < s
    · rw [fn_unit ck (Mu k ck)]
      show ((if k < s then (0 : Int) else _ : Int) : Rat) ≤ 1 / 2 ∧ (1 : Rat) / 2 ≤ ((if k < s then (1 : Int) else _ : Int) : Rat)
      rw [if_pos ck, if_pos ck]
      exact ⟨by decide +kernel, by decide +kernel⟩
    · obtain ⟨j, rfl⟩ : ∃ j, k = s + j := ⟨k - s, by omega⟩
      rw [half j (by omega)]
      show ((if s + j < s then (0 : Int) else c (s + j - s) / 2 : Int) : Rat) ≤ _ ∧ _ ≤ ((if s + j < s then (1 : Int) else (c (s + j - s) + 1) / 2 : Int) : Rat)
      rw [if_neg (by omega), if_neg (by omega), show s + j - s = j by omega]
      have h1 : ((2 * (c j / 2) : Int) : Rat) ≤ ((c j : Int) : Rat) := Rat.intCast_le_intCast.mpr (by omega)
      have h2 : ((c j : Int) : Rat) ≤ ((2 * ((c j + 1) / 2) : Int) : Rat) := Rat.intCast_le_intCast.mpr (by omega)
      rw [Rat.intCast_mul] at h1 h2
      rw [show ((2 : Int) : Rat) = 2 from rfl] at h1 h2
      constructor <;> grind
  obtain ⟨y, hy, wy⟩ := box_whole Bx _ _ rfl In0
  have y01 : ∀ i, i < s → y i = 0 ∨ y i = 1 := fun i hi => by
    have b := hy i (by omega)
    obtain ⟨z, hz⟩ := wy i (by omega)
    rw [fn_unit hi (Mu i hi)] at b hz
    have b1 : ((if i < s then (0 : Int) else _ : Int) : Rat) ≤ y i := b.1
    have b2 : y i ≤ ((if i < s then (1 : Int) else _ : Int) : Rat) := b.2
    rw [if_pos hi, hz] at b1 b2
    have c1 := int_le b1
    have c2 := int_le b2
    have : z = 0 ∨ z = 1 := by omega
    rcases this with q | q <;> rw [hz, q]
    · exact .inl rfl
    · exact .inr rfl
  refine ⟨fun i => if y i = 1 then 1 else -1, fun i hi => ?_, fun j hj => ?_⟩
  · by_cases q : y i = 1
    · exact .inl (if_pos q)
    · exact .inr (if_neg q)
  · have b := hy (s + j) (by omega)
    have e : ((csum A rs (fun i => if y i = 1 then 1 else -1) j : Int) : Rat) = 2 * fn s M y (s + j) - ((c j : Int) : Rat) := by
      show _ = 2 * fn s M y (s + j) - ((csum A rs (fun _ => 1) j : Int) : Rat)
      rw [csum_eq, csum_eq]
      unfold fn
      have e1 : (2 * sm s fun i => y i * ((M i (s + j) : Int) : Rat)) - (sm rs.length fun i => ((1 : Int) : Rat) * ((A (rs[i]?.getD 0) j : Int) : Rat)) = sm s (fun i => 2 * (y i * ((M i (s + j) : Int) : Rat))) + sm s (fun i => -1 * (((1 : Int) : Rat) * ((A (rs[i]?.getD 0) j : Int) : Rat))) := by
        rw [sm_mul (f := fun i => y i * ((M i (s + j) : Int) : Rat)) 2 s, sm_mul (f := fun i => ((1 : Int) : Rat) * ((A (rs[i]?.getD 0) j : Int) : Rat)) (-1) s]
        have : rs.length = s := rfl
        rw [this]
        grind
      rw [e1, ← sm_add]
      refine sm_congr fun i hi => ?_
      rw [Mc]
      rcases y01 i hi with q | q
      · have n1 : ¬ y i = 1 := by
          rw [q]
          decide +kernel
        show ((if y i = 1 then (1 : Int) else -1 : Int) : Rat) * _ = _
        rw [if_neg n1, q, show ((-1 : Int) : Rat) = -1 from rfl, show ((1 : Int) : Rat) = 1 from rfl]
        grind
      · show ((if y i = 1 then (1 : Int) else -1 : Int) : Rat) * _ = _
        rw [if_pos q, q, show ((1 : Int) : Rat) = 1 from rfl]
        grind
    have b1 : ((if s + j < s then (0 : Int) else c (s + j - s) / 2 : Int) : Rat) ≤ fn s M y (s + j) := b.1
    have b2 : fn s M y (s + j) ≤ ((if s + j < s then (1 : Int) else (c (s + j - s) + 1) / 2 : Int) : Rat) := b.2
    rw [if_neg (by omega), show s + j - s = j by omega] at b1 b2
    constructor
    · refine int_le ?_
      rw [e]
      have h1 : ((c j - 1 : Int) : Rat) ≤ ((2 * (c j / 2) : Int) : Rat) := Rat.intCast_le_intCast.mpr (by omega)
      rw [Rat.intCast_mul, Rat.intCast_sub] at h1
      rw [show ((2 : Int) : Rat) = 2 from rfl, show ((1 : Int) : Rat) = 1 from rfl] at h1
      rw [show ((-1 : Int) : Rat) = -1 from rfl]
      grind
    · refine int_le ?_
      rw [e]
      have h1 : ((2 * ((c j + 1) / 2) : Int) : Rat) ≤ ((c j + 1 : Int) : Rat) := Rat.intCast_le_intCast.mpr (by omega)
      rw [Rat.intCast_mul, Rat.intCast_add] at h1
      rw [show ((2 : Int) : Rat) = 2 from rfl, show ((1 : Int) : Rat) = 1 from rfl] at h1
      rw [show ((1 : Int) : Rat) = 1 from rfl]
      grind
end Tu
/-! tables whose rows have all signs have small squares alone -/
namespace Tu
open Dt
def vs (A : Nat → Nat → Int) (rs : List Nat) (x : Nat → Int) (j : Nat) : Int := (rs.map fun r => x r * A r j).sum
theorem vs_eq (A : Nat → Nat → Int) (x : Nat → Int) (j : Nat) : ∀ rs : List Nat, ((vs A rs x j : Int) : Rat) = sm rs.length fun i => ((x (rs[i]?.getD 0) : Int) : Rat) * ((A (rs[i]?.getD 0) j : Int) : Rat)
  | [] => rfl
  | r :: rs => by
    have e : vs A (r :: rs) x j = x r * A r j + vs A rs x j := by
      unfold vs
      rw [List.map_cons, List.sum_cons]
    rw [e, Rat.intCast_add, vs_eq A x j rs, Rat.intCast_mul]
    show _ = sm (rs.length + 1) _
    rw [sm_shift]
    rfl
/-- signs for these rows at the first columns -/
def Sg1 (A : Nat → Nat → Int) (rs : List Nat) (w : Nat) : Prop := ∃ x : Nat → Int, (∀ r ∈ rs, x r = 1 ∨ x r = -1) ∧ ∀ j, j < w → -1 ≤ vs A rs x j ∧ vs A rs x j ≤ 1
theorem Sgn.vs {A : Nat → Nat → Int} {rs : List Nat} {w : Nat} (nd : rs.Nodup) (h : Sgn A rs w) : Sg1 A rs w := by
  obtain ⟨x, h1, h2⟩ := h
  refine ⟨fun r => x (rs.idxOf r), fun r hr => h1 _ (List.idxOf_lt_length_of_mem hr), fun j hj => ?_⟩
  have e : Tu.vs A rs (fun r => x (rs.idxOf r)) j = csum A rs x j := by
    refine Rat.intCast_inj.mp ?_
    rw [vs_eq, csum_eq]
    refine sm_congr fun i hi => ?_
    rw [List.getElem?_eq_getElem hi]
    show ((x (rs.idxOf rs[i]) : Int) : Rat) * _ = _
    rw [nd.idxOf_getElem]
  rw [e]
  exact h2 j hj
theorem TU.sg {A : Nat → Nat → Int} {P Q : Nat → Prop} (h : TU A P Q) {rs : List Nat} (nd : rs.Nodup) (hP : ∀ x ∈ rs, P x) {w : Nat} (hQ : ∀ j, j < w → Q j) : Sg1 A rs w := (tu_signs h nd hP hQ).vs nd
theorem vs_filter (A : Nat → Nat → Int) (x : Nat → Int) (j : Nat) (p : Nat → Bool) : ∀ rs : List Nat, vs A rs (fun r => if p r = true then x r else 0) j = vs A (rs.filter p) x j
  | [] => rfl
  | r :: rs => by
    have ih := vs_filter A x j p rs
    unfold vs at ih ⊢
    rw [List.map_cons, List.sum_cons, ih, List.filter_cons]
    show (if p r = true then x r else 0) * A r j + _ = _
    by_cases c : p r = true
    · rw [if_pos c, if_pos c, List.map_cons, List.sum_cons]
    · rw [if_neg c, if_neg c]
      omega
theorem cof {A : Nat → Nat → Int} {rs cs : List Nat} {n : Nat} (hl : rs.length = n + 1) (k : Nat) : sm (n + 1) (fun i => (sg i * D A (Bs.out rs i) cs) * ((A (rs[i]?.getD 0) k : Int) : Rat)) = D A rs (k :: cs) := by
  rw [D_first hl]
  exact sm_congr fun i _ => by grind
theorem cof_in {A : Nat → Nat → Int} {rs cs : List Nat} {n k : Nat} (hl : rs.length = n + 1) (hc : cs.length = n) (hk : k ∈ cs) : D A rs (k :: cs) = 0 := by
  rw [← D_T (by rw [List.length_cons, hl, hc]), D_dup]
  intro z
  exact (List.nodup_cons.mp z).1 hk
theorem s1_int {x : Rat} (h : S1 x) : Wh x := by
  rcases h with h | h | h <;> rw [h]
  · exact ⟨-1, rfl⟩
  · exact ⟨0, rfl⟩
  · exact ⟨1, rfl⟩
theorem s1_of {z : Int} (h1 : -1 ≤ z) (h2 : z ≤ 1) : S1 (z : Rat) := by
  have : z = -1 ∨ z = 0 ∨ z = 1 := by omega
  rcases this with h | h | h <;> rw [h]
  · exact .inl rfl
  · exact .inr (.inl rfl)
  · exact .inr (.inr rfl)
theorem s1_sq {x : Rat} (h : S1 x) (n : x ≠ 0) : x * x = 1 := by
  rcases h with h | h | h
  · rw [h]
    decide +kernel
  · exact absurd h n
  · rw [h]
    decide +kernel
/-- what any signs of a square's rows tell: along the first column -/
theorem par {A : Nat → Nat → Int} {rs : List Nat} {n : Nat} {x : Nat → Int} (hl : rs.length = n + 1) (y : Nat → Rat)
    (hx : ∀ i, i < n + 1 → (y i = 0 ∧ x (rs[i]?.getD 0) = 0) ∨ ((y i = 1 ∨ y i = -1) ∧ (x (rs[i]?.getD 0) = 1 ∨ x (rs[i]?.getD 0) = -1))) (k : Nat) : ∃ z : Int, ((vs A rs x k : Int) : Rat) = sm (n + 1) (fun i => y i * ((A (rs[i]?.getD 0) k : Int) : Rat)) + 2 * ((z : Int) : Rat) := by
  have w : Wh (sm (n + 1) fun i => ((((x (rs[i]?.getD 0) : Int) : Rat) - y i) / 2) * ((A (rs[i]?.getD 0) k : Int) : Rat)) := wh_sm fun i hi => wh_mul (by
    rcases hx i hi with ⟨a, b⟩ | ⟨a, b⟩
    · rw [a, b]
      exact ⟨0, by decide +kernel⟩
    · rcases a with a | a <;> rcases b with b | b <;> rw [a, b]
      · exact ⟨0, by decide +kernel⟩
      · exact ⟨-1, by decide +kernel⟩
      · exact ⟨1, by decide +kernel⟩
      · exact ⟨0, by decide +kernel⟩) (wh_int _)
  obtain ⟨z, hz⟩ := w
  refine ⟨z, ?_⟩
  rw [← hz, vs_eq, hl, ← sm_mul, ← sm_add]
  refine sm_congr fun i _ => ?_
  have : (((x (rs[i]?.getD 0) : Int) : Rat) - y i) / 2 * 2 = ((x (rs[i]?.getD 0) : Int) : Rat) - y i := Rat.div_mul_cancel (by decide +kernel)
  grind
theorem t1 {A : Nat → Nat → Int} {rs cs : List Nat} {c n : Nat} {x : Nat → Int} (hl : rs.length = n + 1) (hc : cs.length = n) (hm : ∀ i, i < n + 1 → S1 (D A (Bs.out rs i) cs))
    (hx : ∀ i, i < n + 1 → (D A (Bs.out rs i) cs = 0 ∧ x (rs[i]?.getD 0) = 0) ∨ (D A (Bs.out rs i) cs ≠ 0 ∧ (x (rs[i]?.getD 0) = 1 ∨ x (rs[i]?.getD 0) = -1)))
    (hu : ∀ k, k ∈ c :: cs → -1 ≤ vs A rs x k ∧ vs A rs x k ≤ 1) : S1 (D A rs (c :: cs)) := by
  by_cases d0 : D A rs (c :: cs) = 0
  · rw [d0]
    exact .inr (.inl rfl)
  let y : Nat → Rat := fun i => sg i * D A (Bs.out rs i) cs
  have hy : ∀ i, i < n + 1 → (y i = 0 ∧ x (rs[i]?.getD 0) = 0) ∨ ((y i = 1 ∨ y i = -1) ∧ (x (rs[i]?.getD 0) = 1 ∨ x (rs[i]?.getD 0) = -1)) := fun i hi => by
    rcases hx i hi with ⟨a, b⟩ | ⟨a, b⟩
    · refine .inl ⟨?_, b⟩
      show sg i * _ = 0
      rw [a]
      grind
    · refine .inr ⟨?_, b⟩
      have s := (s1_sg i).mul (hm i hi)
      rcases s with s | s | s
      · exact .inr s
      · exact absurd (by
          have q := sg_sq i
          have : sg i * (sg i * D A (Bs.out rs i) cs) = 0 := by rw [s]; grind
          rw [← Rat.mul_assoc, q, Rat.one_mul] at this
          exact this) a
      · exact .inl s
  have u0 : ∀ k, k ∈ cs → vs A rs x k = 0 := fun k hk => by
    obtain ⟨z, hz⟩ := par (A := A) hl y hy k
    rw [show (sm (n + 1) fun i => y i * ((A (rs[i]?.getD 0) k : Int) : Rat)) = 0 from (cof hl k).trans (cof_in hl hc hk)] at hz
    have hz2 : ((vs A rs x k : Int) : Rat) = ((2 * z : Int) : Rat) := by
      rw [hz, Rat.intCast_mul]
      rw [show ((2 : Int) : Rat) = 2 from rfl]
      grind
    have := Rat.intCast_inj.mp hz2
    have := hu k (List.mem_cons_of_mem _ hk)
    omega
  have comb : ∀ r, r < n + 1 → (((vs A rs x c : Int) : Rat) * y r - D A rs (c :: cs) * ((x (rs[r]?.getD 0) : Int) : Rat)) * D A rs (c :: cs) = 0 := fun r hr => by
    have e : D A rs (c :: cs) = det (n + 1) (mat A rs (c :: cs)) := by
      unfold D
      rw [hl]
    rw [e]
    rw [← e]
    have g := comb_zero (n := n + 1) (r := r) (z := fun i => ((vs A rs x c : Int) : Rat) * y i - D A rs (c :: cs) * ((x (rs[i]?.getD 0) : Int) : Rat)) (M := mat A rs (c :: cs)) hr fun j hj => ?_
    · rw [← e] at g
      exact g
    · have two : ∀ k, (sm (n + 1) fun i => (((vs A rs x c : Int) : Rat) * y i - D A rs (c :: cs) * ((x (rs[i]?.getD 0) : Int) : Rat)) * ((A (rs[i]?.getD 0) k : Int) : Rat)) = ((vs A rs x c : Int) : Rat) * D A rs (k :: cs) - D A rs (c :: cs) * ((vs A rs x k : Int) : Rat) := fun k => by
        rw [← cof hl k, vs_eq A x k, hl]
        have s1 := sm_mul (f := fun i => y i * ((A (rs[i]?.getD 0) k : Int) : Rat)) ((vs A rs x c : Int) : Rat) (n + 1)
        have s2 := sm_mul (f := fun i => ((x (rs[i]?.getD 0) : Int) : Rat) * ((A (rs[i]?.getD 0) k : Int) : Rat)) (-(D A rs (c :: cs))) (n + 1)
        have s3 := sm_add (f := fun i => ((vs A rs x c : Int) : Rat) * (y i * ((A (rs[i]?.getD 0) k : Int) : Rat))) (g := fun i => -(D A rs (c :: cs)) * (((x (rs[i]?.getD 0) : Int) : Rat) * ((A (rs[i]?.getD 0) k : Int) : Rat))) (n + 1)
        rw [s1, s2] at s3
        have s4 : (sm (n + 1) fun i => (((vs A rs x c : Int) : Rat) * y i - D A rs (c :: cs) * ((x (rs[i]?.getD 0) : Int) : Rat)) * ((A (rs[i]?.getD 0) k : Int) : Rat)) = sm (n + 1) fun i => ((vs A rs x c : Int) : Rat) * (y i * ((A (rs[i]?.getD 0) k : Int) : Rat)) + -(D A rs (c :: cs)) * (((x (rs[i]?.getD 0) : Int) : Rat) * ((A (rs[i]?.getD 0) k : Int) : Rat)) := sm_congr fun i _ => by grind
        rw [s4, s3]
        show _ = ((vs A rs x c : Int) : Rat) * sm (n + 1) (fun i => y i * _) - _
        grind
      have hj2 : j < (c :: cs).length := by rw [List.length_cons, hc]; exact hj
      show (sm (n + 1) fun i => _ * ((A (rs[i]?.getD 0) ((c :: cs)[j]?.getD 0) : Int) : Rat)) = 0
      rw [two]
      cases j with
      | zero =>
        show _ * D A rs (c :: cs) - D A rs (c :: cs) * _ = 0
        grind
      | succ j =>
        have hj3 : j < cs.length := by omega
        show ((vs A rs x c : Int) : Rat) * D A rs ((cs[j]?.getD 0) :: cs) - D A rs (c :: cs) * ((vs A rs x (cs[j]?.getD 0) : Int) : Rat) = 0
        rw [List.getElem?_eq_getElem hj3]
        show _ * D A rs (cs[j] :: cs) - _ * ((vs A rs x cs[j] : Int) : Rat) = 0
        rw [cof_in hl hc (List.getElem_mem hj3), u0 _ (List.getElem_mem hj3), show ((0 : Int) : Rat) = 0 from rfl]
        grind
  -- some y is not 0
  by_cases some : ∃ r, r < n + 1 ∧ y r ≠ 0
  · obtain ⟨r, hr, yr⟩ := some
    have g := comb r hr
    have z : ((vs A rs x c : Int) : Rat) * y r - D A rs (c :: cs) * ((x (rs[r]?.getD 0) : Int) : Rat) = 0 := by
      rcases Rat.mul_eq_zero.mp g with g | g
      · exact g
      · exact absurd g d0
    rcases hy r hr with ⟨a, _⟩ | ⟨a, b⟩
    · exact absurd a yr
    · have su : S1 ((vs A rs x c : Int) : Rat) := by
        have := hu c (List.mem_cons_self ..)
        exact s1_of this.1 this.2
      have sy : S1 (y r) := a.elim (fun h => .inr (.inr h)) .inl
      have sx : S1 ((x (rs[r]?.getD 0) : Int) : Rat) := b.elim (fun h => by rw [h]; exact .inr (.inr rfl)) (fun h => by rw [h]; exact .inl rfl)
      have xx : ((x (rs[r]?.getD 0) : Int) : Rat) * ((x (rs[r]?.getD 0) : Int) : Rat) = 1 := by
        rcases b with b | b <;> rw [b] <;> decide +kernel
      have e : D A rs (c :: cs) = ((vs A rs x c : Int) : Rat) * y r * ((x (rs[r]?.getD 0) : Int) : Rat) := by grind
      rw [e]
      exact (su.mul sy).mul sx
  · exact absurd (by
      rw [← cof hl c, show (sm (n + 1) fun i => sg i * D A (Bs.out rs i) cs * ((A (rs[i]?.getD 0) c : Int) : Rat)) = sm (n + 1) fun _ => 0 from sm_congr fun i hi => ?_, sm_zero]
      have : y i = 0 := Classical.byContradiction fun z => some ⟨i, hi, z⟩
      show y i * _ = 0
      rw [this]
      grind) d0
end Tu
/-! a least bad square: its rows have no signs, its sums are even, its determinant is 2 or -2 -/
namespace Tu
open Dt
theorem out_idx {l : List Nat} (nd : l.Nodup) {i : Nat} (h : i < l.length) : l.idxOf (l[i]?.getD 0) = i := by
  rw [List.getElem?_eq_getElem h]
  show l.idxOf l[i] = i
  exact nd.idxOf_getElem i h
theorem bad_rows {A : Nat → Nat → Int} {rs cs : List Nat} {c n w : Nat} (hl : rs.length = n + 1) (hc : cs.length = n) (nd : rs.Nodup) (hm : ∀ i, i < n + 1 → S1 (D A (Bs.out rs i) cs)) (hw : ∀ k ∈ c :: cs, k < w) (bad : ¬ S1 (D A rs (c :: cs))) :
    ∃ p : Nat → Bool, rs.filter p ≠ [] ∧ ¬ Sg1 A (rs.filter p) w ∧ ∀ i, i < n + 1 → D A (Bs.out rs i) cs = 0 → p (rs[i]?.getD 0) = false := by
  let p : Nat → Bool := fun r => decide (D A (Bs.out rs (rs.idxOf r)) cs ≠ 0)
  have hp : ∀ i, i < n + 1 → p (rs[i]?.getD 0) = decide (D A (Bs.out rs i) cs ≠ 0) := fun i hi => by
    show decide (D A (Bs.out rs (rs.idxOf (rs[i]?.getD 0))) cs ≠ 0) = _
    rw [out_idx nd (by omega)]
  have no : ¬ Sg1 A (rs.filter p) w := fun ⟨x, h1, h2⟩ => bad (by
    refine t1 (x := fun r => if p r = true then x r else 0) hl hc hm (fun i hi => ?_) fun k hk => ?_
    · have e := hp i hi
      have hi2 : i < rs.length := by omega
      by_cases z : D A (Bs.out rs i) cs = 0
      · refine .inl ⟨z, ?_⟩
        show (if p (rs[i]?.getD 0) = true then _ else (0 : Int)) = 0
        rw [e, if_neg]
        rw [decide_eq_true_eq]
        exact fun y => y z
      · refine .inr ⟨z, ?_⟩
        show (if p (rs[i]?.getD 0) = true then x (rs[i]?.getD 0) else (0 : Int)) = 1 ∨ (if p (rs[i]?.getD 0) = true then x (rs[i]?.getD 0) else (0 : Int)) = -1
        have pt : p (rs[i]?.getD 0) = true := by
          rw [e, decide_eq_true_eq]
          exact z
        rw [if_pos pt]
        refine h1 _ (List.mem_filter.mpr ⟨?_, pt⟩)
        rw [List.getElem?_eq_getElem hi2]
        exact List.getElem_mem hi2
    · rw [vs_filter]
      exact h2 k (hw k hk))
  refine ⟨p, fun z => no ?_, no, fun i hi h => ?_⟩
  · rw [z]
    exact ⟨fun _ => 1, fun r hr => (nomatch hr), fun j _ => ⟨by show (-1 : Int) ≤ 0; decide, by show (0 : Int) ≤ 1; decide⟩⟩
  · rw [hp i hi, decide_eq_false]
    exact fun z => z h
theorem up_nodup {l : List Nat} (h : l.Pairwise (· < ·)) : l.Nodup := List.Pairwise.imp (fun h => Nat.ne_of_lt h) h
/-- all rows have signs: all squares are small -/
theorem signs_tu {A : Nat → Nat → Int} {P : Nat → Prop} {w : Nat} (h : ∀ rs : List Nat, rs ≠ [] → rs.Pairwise (· < ·) → (∀ x ∈ rs, P x) → Sg1 A rs w) : TU A P (· < w) := by
  have : ∀ n (rs cs : List Nat), rs.length = n → cs.length = n → rs.Pairwise (· < ·) → cs.Pairwise (· < ·) → (∀ x ∈ rs, P x) → (∀ x ∈ cs, x < w) → S1 (D A rs cs) := by
    intro n
    induction n with
    | zero =>
      intro rs cs h1 _ _ _ _ _
      rw [List.length_eq_zero_iff.mp h1, D_nil]
      exact .inr (.inr rfl)
    | succ n ih =>
      intro rs cs h1 h2 u1 u2 hP hw
      cases cs with
      | nil => cases h2
      | cons c cs =>
        have h2 : cs.length = n := Nat.succ.inj h2
        refine Classical.byContradiction fun bad => ?_
        obtain ⟨p, q1, q2, _⟩ := bad_rows h1 h2 (up_nodup u1) (fun i hi => ih (Bs.out rs i) cs (by rw [Bs.out_len (by omega)]; omega) h2 (u1.sublist (out_sub rs i)) (List.pairwise_cons.mp u2).2 (fun x hx => hP x (mem_out hx)) fun x hx => hw x (List.mem_cons_of_mem _ hx)) hw bad
        exact q2 (h _ q1 (List.Pairwise.filter _ u1) fun x hx => hP x (List.mem_filter.mp hx).1)
  exact fun rs cs hl u1 u2 hP hw => this rs.length rs cs rfl hl u1 u2 hP hw
theorem out_perm (l : List Nat) {j : Nat} (h : j < l.length) : l.Perm ((l[j]?.getD 0) :: Bs.out l j) := by
  unfold Bs.out
  rw [List.getElem?_eq_getElem h]
  have e : l = l.take j ++ l[j] :: l.drop (j + 1) := by
    rw [← List.drop_eq_getElem_cons h, List.take_append_drop]
  have q := List.perm_middle (a := l[j]) (l₁ := l.take j) (l₂ := l.drop (j + 1))
  rw [← e] at q
  exact q
/-- all squares but one row and one column are 1 or -1 -/
def Full (A : Nat → Nat → Int) (rs cs : List Nat) (n : Nat) : Prop := ∀ i j, i < n → j < n → S1 (D A (Bs.out rs i) (Bs.out cs j)) ∧ D A (Bs.out rs i) (Bs.out cs j) ≠ 0
theorem full_of {A : Nat → Nat → Int} {rs cs : List Nat} {n w : Nat} (hl : rs.length = n + 1) (hc : cs.length = n + 1) (nd : rs.Nodup) (hm : ∀ i j, i < n + 1 → j < n + 1 → S1 (D A (Bs.out rs i) (Bs.out cs j))) (hw : ∀ k ∈ cs, k < w) (bad : ¬ S1 (D A rs cs))
    (sub : ∀ p : Nat → Bool, rs.filter p ≠ [] → rs.filter p ≠ rs → Sg1 A (rs.filter p) w) : Full A rs cs (n + 1) := fun i j hi hj => by
  refine ⟨hm i j hi hj, fun z => ?_⟩
  have pm := out_perm cs (j := j) (by omega)
  have bad2 : ¬ S1 (D A rs ((cs[j]?.getD 0) :: Bs.out cs j)) := fun h => bad (s1_pm (D_permc (by omega) pm) h)
  obtain ⟨p, q1, q2, q3⟩ := bad_rows hl (by rw [Bs.out_len (by omega)]; omega) nd (fun i hi => hm i j hi hj) (fun k hk => hw k (pm.mem_iff.mpr hk)) bad2
  have e : rs.filter p = rs := Classical.byContradiction fun y => q2 (sub p q1 y)
  have hi2 : i < rs.length := by omega
  have t : p rs[i] = true := (List.mem_filter.mp (by rw [e]; exact List.getElem_mem hi2 : rs[i] ∈ rs.filter p)).2
  have f := q3 i hi z
  rw [List.getElem?_eq_getElem hi2] at f
  have f : p rs[i] = false := f
  rw [t] at f
  cases f
theorem Full.T {A : Nat → Nat → Int} {rs cs : List Nat} {n : Nat} (hl : rs.length = n) (hc : cs.length = n) (h : Full A rs cs n) : Full (fun i j => A j i) cs rs n := fun i j hi hj => by
  rw [D_T (A := A) (rs := Bs.out rs j) (cs := Bs.out cs i) (by rw [Bs.out_len (by omega), Bs.out_len (by omega), hl, hc])]
  exact h j i hj hi
theorem pm_of {x : Rat} (h : S1 x) (n : x ≠ 0) : x = 1 ∨ x = -1 := by
  rcases h with h | h | h
  · exact .inr h
  · exact absurd h n
  · exact .inl h
theorem sg_ne {j : Nat} {x : Rat} (h : x ≠ 0) : sg j * x ≠ 0 := fun z => h (by
  have q := sg_sq j
  have : sg j * (sg j * x) = 0 := by rw [z]; grind
  rw [← Rat.mul_assoc, q, Rat.one_mul] at this
  exact this)
theorem Full.even {A : Nat → Nat → Int} {rs cs : List Nat} {n : Nat} (hl : rs.length = n + 2) (hc : cs.length = n + 2) (nc : cs.Nodup) (h : Full A rs cs (n + 2)) {k : Nat} (hk : k ∈ cs) : vs A rs (fun _ => 1) k % 2 = 0 := by
  obtain ⟨a, ha, e⟩ := List.mem_iff_getElem.mp hk
  obtain ⟨j, hj, ne⟩ : ∃ j, j < n + 2 ∧ j ≠ a := by
    by_cases c : a = 0
    · exact ⟨1, by omega, by omega⟩
    · exact ⟨0, by omega, by omega⟩
  have pm := out_perm cs (j := j) (by omega)
  have hk2 : k ∈ Bs.out cs j := by
    rcases List.mem_cons.mp (pm.mem_iff.mp hk) with z | z
    · rw [List.getElem?_eq_getElem (show j < cs.length by omega)] at z
      have z : k = cs[j] := z
      rw [← e] at z
      exact absurd ((List.getElem_inj nc).mp z).symm ne
    · exact z
  obtain ⟨z, hz⟩ := par (A := A) (x := fun _ => 1) (n := n + 1) hl (fun i => sg i * D A (Bs.out rs i) (Bs.out cs j)) (fun i hi => .inr ⟨pm_of ((s1_sg i).mul (h i j hi hj).1) (sg_ne (h i j hi hj).2), .inl rfl⟩) k
  rw [cof (n := n + 1) hl k, cof_in (n := n + 1) hl (by rw [Bs.out_len (by omega)]; omega) hk2] at hz
  have hz2 : ((vs A rs (fun _ => 1) k : Int) : Rat) = ((2 * z : Int) : Rat) := by
    rw [hz, Rat.intCast_mul]
    rw [show ((2 : Int) : Rat) = 2 from rfl]
    grind
  have := Rat.intCast_inj.mp hz2
  omega
end Tu
/-! a least bad square of two rows or more is 2 or -2 -/
namespace Tu
open Dt
theorem sm_lin3 (n : Nat) (a b c : Rat) (f g h : Nat → Rat) : sm n (fun i => a * f i + b * g i + c * h i) = a * sm n f + b * sm n g + c * sm n h := by
  rw [sm_add (f := fun i => a * f i + b * g i) (g := fun i => c * h i), sm_add (f := fun i => a * f i) (g := fun i => b * g i), sm_mul, sm_mul, sm_mul]
theorem two_bad {A : Nat → Nat → Int} {rs cs : List Nat} {c0 c1 n w : Nat} (hl : rs.length = n + 2) (hc : cs.length = n) (nd : rs.Nodup) (full : Full A rs (c0 :: c1 :: cs) (n + 2)) (hw : ∀ k ∈ c0 :: c1 :: cs, k < w) (bad : ¬ S1 (D A rs (c0 :: c1 :: cs)))
    (sub : ∀ p : Nat → Bool, rs.filter p ≠ [] → rs.filter p ≠ rs → Sg1 A (rs.filter p) w) : D A rs (c0 :: c1 :: cs) = 2 ∨ D A rs (c0 :: c1 :: cs) = -2 := by
  have d0 : D A rs (c0 :: c1 :: cs) ≠ 0 := fun z => bad (.inr (.inl z))
  let y : Nat → Rat := fun i => sg i * D A (Bs.out rs i) (c1 :: cs)
  let y' : Nat → Rat := fun i => sg i * D A (Bs.out rs i) (c0 :: cs)
  have hy : ∀ i, i < n + 2 → y i = 1 ∨ y i = -1 := fun i hi => pm_of ((s1_sg i).mul (full i 0 hi (by omega)).1) (sg_ne (full i 0 hi (by omega)).2)
  have hy' : ∀ i, i < n + 2 → y' i = 1 ∨ y' i = -1 := fun i hi => pm_of ((s1_sg i).mul (full i 1 hi (by omega)).1) (sg_ne (full i 1 hi (by omega)).2)
  have cy : ∀ k, (sm (n + 2) fun i => y i * ((A (rs[i]?.getD 0) k : Int) : Rat)) = D A rs (k :: c1 :: cs) := fun k => cof (n := n + 1) hl k
  have cy' : ∀ k, (sm (n + 2) fun i => y' i * ((A (rs[i]?.getD 0) k : Int) : Rat)) = D A rs (k :: c0 :: cs) := fun k => cof (n := n + 1) hl k
  have in1 : ∀ k, k ∈ c1 :: cs → D A rs (k :: c1 :: cs) = 0 := fun k hk => cof_in (n := n + 1) hl (by rw [List.length_cons, hc]) hk
  have in0 : ∀ k, k ∈ c0 :: cs → D A rs (k :: c0 :: cs) = 0 := fun k hk => cof_in (n := n + 1) hl (by rw [List.length_cons, hc]) hk
  have sw : D A rs (c1 :: c0 :: cs) = -D A rs (c0 :: c1 :: cs) := by
    have l1 : (c1 :: c0 :: cs).length = rs.length := by rw [List.length_cons, List.length_cons, hc, hl]
    have l2 : (c0 :: c1 :: cs).length = rs.length := by rw [List.length_cons, List.length_cons, hc, hl]
    rw [← D_T l1, ← D_T l2]
    exact D_swap (A := fun i j => A j i) (cs := rs) [] c0 c1 cs
  -- where the two agree
  let p : Nat → Bool := fun r => decide (y (rs.idxOf r) = y' (rs.idxOf r))
  have hp : ∀ i, i < n + 2 → p (rs[i]?.getD 0) = decide (y i = y' i) := fun i hi => by
    show decide (y (rs.idxOf (rs[i]?.getD 0)) = y' (rs.idxOf (rs[i]?.getD 0))) = _
    rw [out_idx nd (by omega)]
  have memr : ∀ i, i < n + 2 → rs[i]?.getD 0 ∈ rs := fun i hi => by
    rw [List.getElem?_eq_getElem (show i < rs.length by omega)]
    exact List.getElem_mem _
  have no_all : rs.filter p ≠ rs := fun z => d0 (by
    rw [← cy c0, ← in0 c0 (List.mem_cons_self ..), ← cy' c0]
    refine sm_congr fun i hi => ?_
    have : p (rs[i]?.getD 0) = true := (List.mem_filter.mp (by rw [z]; exact memr i hi : rs[i]?.getD 0 ∈ rs.filter p)).2
    rw [hp i hi, decide_eq_true_eq] at this
    rw [this])
  have no_none : rs.filter p ≠ [] := fun z => d0 (by
    have e : (sm (n + 2) fun i => y i * ((A (rs[i]?.getD 0) c0 : Int) : Rat)) = sm (n + 2) fun i => -1 * (y' i * ((A (rs[i]?.getD 0) c0 : Int) : Rat)) := sm_congr fun i hi => by
      have : p (rs[i]?.getD 0) ≠ true := fun t => by
        have : rs[i]?.getD 0 ∈ rs.filter p := List.mem_filter.mpr ⟨memr i hi, t⟩
        rw [z] at this
        exact nomatch this
      rw [hp i hi] at this
      have ne : y i ≠ y' i := fun t => this (decide_eq_true t)
      rcases hy i hi with a | a <;> rcases hy' i hi with b | b <;> rw [a, b] at ne ⊢
      · exact absurd rfl ne
      · grind
      · grind
      · exact absurd rfl ne
    rw [← cy c0, e, sm_mul, cy' c0, in0 c0 (List.mem_cons_self ..)]
    grind)
  obtain ⟨x0, hx0, hu0⟩ := sub p no_none no_all
  let x : Nat → Int := fun r => if p r = true then x0 r else 0
  have hu : ∀ k, k ∈ c0 :: c1 :: cs → -1 ≤ vs A rs x k ∧ vs A rs x k ≤ 1 := fun k hk => by
    show -1 ≤ vs A rs (fun r => if p r = true then x0 r else 0) k ∧ vs A rs (fun r => if p r = true then x0 r else 0) k ≤ 1
    rw [vs_filter]
    exact hu0 k (hw k hk)
  have u0 : ∀ k, k ∈ cs → vs A rs x k = 0 := fun k hk => by
    obtain ⟨z, hz⟩ := par (A := A) (x := x) (n := n + 1) hl (fun i => 1 / 2 * y i + 1 / 2 * y' i + 0 * 0) (fun i hi => by
      have e := hp i hi
      show (1 / 2 * y i + 1 / 2 * y' i + 0 * 0 = 0 ∧ (if p (rs[i]?.getD 0) = true then x0 (rs[i]?.getD 0) else (0 : Int)) = 0) ∨ ((1 / 2 * y i + 1 / 2 * y' i + 0 * 0 = 1 ∨ 1 / 2 * y i + 1 / 2 * y' i + 0 * 0 = -1) ∧ ((if p (rs[i]?.getD 0) = true then x0 (rs[i]?.getD 0) else (0 : Int)) = 1 ∨ (if p (rs[i]?.getD 0) = true then x0 (rs[i]?.getD 0) else (0 : Int)) = -1))
      by_cases q : y i = y' i
      · have pt : p (rs[i]?.getD 0) = true := by rw [e, decide_eq_true q]
        rw [if_pos pt]
        refine .inr ⟨?_, hx0 _ (List.mem_filter.mpr ⟨memr i hi, pt⟩)⟩
        rw [← q]
        rcases hy i hi with a | a <;> rw [a]
        · exact .inl (by decide +kernel)
        · exact .inr (by decide +kernel)
      · have pf : ¬ p (rs[i]?.getD 0) = true := by rw [e, decide_eq_false q]; exact Bool.false_ne_true
        rw [if_neg pf]
        refine .inl ⟨?_, rfl⟩
        rcases hy i hi with a | a <;> rcases hy' i hi with b | b <;> rw [a, b] at q ⊢
        · exact absurd rfl q
        · decide +kernel
        · decide +kernel
        · exact absurd rfl q) k
    have e : (sm (n + 1 + 1) fun i => (1 / 2 * y i + 1 / 2 * y' i + 0 * 0) * ((A (rs[i]?.getD 0) k : Int) : Rat)) = 0 := by
      rw [sm_congr (g := fun i => 1 / 2 * (y i * ((A (rs[i]?.getD 0) k : Int) : Rat)) + 1 / 2 * (y' i * ((A (rs[i]?.getD 0) k : Int) : Rat)) + 0 * 0) fun i _ => by grind, sm_lin3 (h := fun _ => 0), cy k, cy' k, in1 k (List.mem_cons_of_mem _ hk), in0 k (List.mem_cons_of_mem _ hk)]
      grind
    rw [e] at hz
    have hz2 : ((vs A rs x k : Int) : Rat) = ((2 * z : Int) : Rat) := by
      rw [hz, Rat.intCast_mul]
      rw [show ((2 : Int) : Rat) = 2 from rfl]
      grind
    have := Rat.intCast_inj.mp hz2
    have := hu k (List.mem_cons_of_mem _ (List.mem_cons_of_mem _ hk))
    omega
  have ed : D A rs (c0 :: c1 :: cs) = det (n + 2) (mat A rs (c0 :: c1 :: cs)) := by
    unfold D
    rw [hl]
  have vk : ∀ k, ((vs A rs x k : Int) : Rat) = sm (n + 2) fun i => ((x (rs[i]?.getD 0) : Int) : Rat) * ((A (rs[i]?.getD 0) k : Int) : Rat) := fun k => by rw [vs_eq, hl]
  have comb : ∀ r, r < n + 2 → D A rs (c0 :: c1 :: cs) * ((x (rs[r]?.getD 0) : Int) : Rat) = ((vs A rs x c0 : Int) : Rat) * y r - ((vs A rs x c1 : Int) : Rat) * y' r := fun r hr => by
    have g := comb_zero (n := n + 2) (r := r) (z := fun i => D A rs (c0 :: c1 :: cs) * ((x (rs[i]?.getD 0) : Int) : Rat) + -((vs A rs x c0 : Int) : Rat) * y i + ((vs A rs x c1 : Int) : Rat) * y' i) (M := mat A rs (c0 :: c1 :: cs)) hr fun j hj => ?_
    · rw [← ed] at g
      rcases Rat.mul_eq_zero.mp g with g | g
      · grind
      · exact absurd g d0
    · have two : ∀ k, (sm (n + 2) fun i => (D A rs (c0 :: c1 :: cs) * ((x (rs[i]?.getD 0) : Int) : Rat) + -((vs A rs x c0 : Int) : Rat) * y i + ((vs A rs x c1 : Int) : Rat) * y' i) * ((A (rs[i]?.getD 0) k : Int) : Rat)) = D A rs (c0 :: c1 :: cs) * ((vs A rs x k : Int) : Rat) + -((vs A rs x c0 : Int) : Rat) * D A rs (k :: c1 :: cs) + ((vs A rs x c1 : Int) : Rat) * D A rs (k :: c0 :: cs) := fun k => by
        rw [← cy k, ← cy' k, vk k, ← sm_lin3]
        exact sm_congr fun i _ => by grind
      have hj2 : j < (c0 :: c1 :: cs).length := by rw [List.length_cons, List.length_cons, hc]; exact hj
      show (sm (n + 2) fun i => _ * ((A (rs[i]?.getD 0) ((c0 :: c1 :: cs)[j]?.getD 0) : Int) : Rat)) = 0
      rw [two]
      match j, hj, hj2 with
      | 0, _, _ =>
        show D A rs (c0 :: c1 :: cs) * ((vs A rs x c0 : Int) : Rat) + -((vs A rs x c0 : Int) : Rat) * D A rs (c0 :: c1 :: cs) + ((vs A rs x c1 : Int) : Rat) * D A rs (c0 :: c0 :: cs) = 0
        rw [in0 c0 (List.mem_cons_self ..)]
        grind
      | 1, _, _ =>
        show D A rs (c0 :: c1 :: cs) * ((vs A rs x c1 : Int) : Rat) + -((vs A rs x c0 : Int) : Rat) * D A rs (c1 :: c1 :: cs) + ((vs A rs x c1 : Int) : Rat) * D A rs (c1 :: c0 :: cs) = 0
        rw [in1 c1 (List.mem_cons_self ..), sw]
        grind
      | j + 2, hj, _ =>
        have hj3 : j < cs.length := by omega
        show D A rs (c0 :: c1 :: cs) * ((vs A rs x (cs[j]?.getD 0) : Int) : Rat) + -((vs A rs x c0 : Int) : Rat) * D A rs ((cs[j]?.getD 0) :: c1 :: cs) + ((vs A rs x c1 : Int) : Rat) * D A rs ((cs[j]?.getD 0) :: c0 :: cs) = 0
        rw [List.getElem?_eq_getElem hj3]
        show _ * ((vs A rs x cs[j] : Int) : Rat) + _ * D A rs (cs[j] :: c1 :: cs) + _ * D A rs (cs[j] :: c0 :: cs) = 0
        rw [u0 _ (List.getElem_mem hj3), in1 _ (List.mem_cons_of_mem _ (List.getElem_mem hj3)), in0 _ (List.mem_cons_of_mem _ (List.getElem_mem hj3)), show ((0 : Int) : Rat) = 0 from rfl]
        grind
  -- a row where they agree
  obtain ⟨r0, hr0⟩ : ∃ r0, r0 ∈ rs.filter p := List.exists_mem_of_ne_nil _ no_none
  obtain ⟨hr1, pt⟩ := List.mem_filter.mp hr0
  obtain ⟨i, hi, e⟩ := List.mem_iff_getElem.mp hr1
  have ei : rs[i]?.getD 0 = r0 := by
    rw [List.getElem?_eq_getElem hi]
    exact e
  have g := comb i (by omega)
  have yy : y i = y' i := by
    have := hp i (by omega)
    rw [ei, pt] at this
    exact of_decide_eq_true this.symm
  have xx : x (rs[i]?.getD 0) = 1 ∨ x (rs[i]?.getD 0) = -1 := by
    show (if p (rs[i]?.getD 0) = true then x0 (rs[i]?.getD 0) else (0 : Int)) = 1 ∨ (if p (rs[i]?.getD 0) = true then x0 (rs[i]?.getD 0) else (0 : Int)) = -1
    rw [ei, if_pos pt]
    exact hx0 _ hr0
  have b0 := hu c0 (List.mem_cons_self ..)
  have b1 := hu c1 (List.mem_cons_of_mem _ (List.mem_cons_self ..))
  have dz : ∃ z : Int, D A rs (c0 :: c1 :: cs) = (z : Rat) ∧ -2 ≤ z ∧ z ≤ 2 := by
    rw [← yy] at g
    rcases xx with a | a <;> rw [a] at g <;> rcases hy i (by omega) with b | b <;> rw [b] at g
    · refine ⟨vs A rs x c0 - vs A rs x c1, ?_, by omega, by omega⟩
      rw [Rat.intCast_sub]
      rw [show ((1 : Int) : Rat) = 1 from rfl] at g
      grind
    · refine ⟨vs A rs x c1 - vs A rs x c0, ?_, by omega, by omega⟩
      rw [Rat.intCast_sub]
      rw [show ((1 : Int) : Rat) = 1 from rfl] at g
      grind
    · refine ⟨vs A rs x c1 - vs A rs x c0, ?_, by omega, by omega⟩
      rw [Rat.intCast_sub]
      rw [show ((-1 : Int) : Rat) = -1 from rfl] at g
      grind
    · refine ⟨vs A rs x c0 - vs A rs x c1, ?_, by omega, by omega⟩
      rw [Rat.intCast_sub]
      rw [show ((-1 : Int) : Rat) = -1 from rfl] at g
      grind
  obtain ⟨z, hz, z1, z2⟩ := dz
  rw [hz] at bad ⊢
  have : z = 2 ∨ z = -2 := by
    refine Classical.byContradiction fun q => bad (s1_of (by omega) (by omega))
  rcases this with q | q <;> rw [q]
  · exact .inl rfl
  · exact .inr rfl
end Tu
/-! the same, told of a table: the least bad square and the least bare rows -/
namespace Tu
open Dt
def bare (w : Nat) (R : List (List Int)) (m : Nat) : Option (List Nat) := (Sg.picks m).find? fun ns => (Sg.first w (ns.map fun i => R[i]?.getD [])).isNone
theorem tot_at : ∀ (z ss : List Int) (rs : List (List Int)) (j w : Nat), z.length = w → (∀ r ∈ rs, r.length = w) → ss.length = rs.length → j < w → (Sg.tot z ss rs)[j]?.getD 0 = z[j]?.getD 0 + (List.zipWith (fun s (r : List Int) => s * r[j]?.getD 0) ss rs).sum
  | z, [], [], j, w, _, _, _, _ => by
    show z[j]?.getD 0 = z[j]?.getD 0 + 0
    omega
  | z, s :: ss, r :: rs, j, w, hz, hr, hl, hj => by
    have e : Sg.tot z (s :: ss) (r :: rs) = Sg.tot (Sg.add z s r) ss rs := rfl
    have hrw := hr r (List.mem_cons_self ..)
    rw [e, tot_at _ ss rs j w (by rw [Sg.add_len (by rw [hz, hrw]), hz]) (fun x hx => hr x (List.mem_cons_of_mem _ hx)) (Nat.succ.inj hl) hj, List.zipWith_cons_cons, List.sum_cons]
    have : (Sg.add z s r)[j]?.getD 0 = z[j]?.getD 0 + s * r[j]?.getD 0 := by
      unfold Sg.add
      rw [List.getElem?_zipWith, List.getElem?_eq_getElem (show j < z.length by omega), List.getElem?_eq_getElem (show j < r.length by omega)]
      rfl
    rw [this]
    omega
theorem small_iff {w : Nat} {t : List Int} (h : t.length = w) : Sg.small t = true ↔ ∀ j, j < w → -1 ≤ t[j]?.getD 0 ∧ t[j]?.getD 0 ≤ 1 := by
  unfold Sg.small
  rw [List.all_eq_true]
  constructor
  · intro g j hj
    rw [List.getElem?_eq_getElem (show j < t.length by omega)]
    have := g _ (List.getElem_mem (show j < t.length by omega))
    rw [Bool.and_eq_true, decide_eq_true_eq, decide_eq_true_eq] at this
    exact this
  · intro g x hx
    obtain ⟨j, hj, rfl⟩ := List.mem_iff_getElem.mp hx
    have := g j (by omega)
    rw [List.getElem?_eq_getElem hj] at this
    rw [Bool.and_eq_true, decide_eq_true_eq, decide_eq_true_eq]
    exact this
section
variable {R : List (List Int)} {m w : Nat}
theorem first_sg (hm : R.length = m) (hw : ∀ r ∈ R, r.length = w) {ns : List Nat} (nd : ns.Nodup) (hn : ∀ x ∈ ns, x < m) : Sg.first w (ns.map fun i => R[i]?.getD []) ≠ none ↔ Sg1 (at_ R) ns w := by
  have hrow : ∀ r ∈ ns.map (fun i => R[i]?.getD []), r.length = w := fun r hr => by
    obtain ⟨i, hi, rfl⟩ := List.mem_map.mp hr
    have := hn i hi
    rw [List.getElem?_eq_getElem (show i < R.length by omega)]
    exact hw _ (List.getElem_mem _)
  have zl : (List.replicate w (0 : Int)).length = w := List.length_replicate
  have zj : ∀ j : Nat, (List.replicate w (0 : Int))[j]?.getD 0 = 0 := fun j => by
    rw [List.getElem?_replicate]
    split <;> rfl
  constructor
  · intro h
    obtain ⟨s, hs⟩ := Option.ne_none_iff_exists'.mp h
    have hs1 := List.mem_of_find?_eq_some hs
    have hs2 := List.find?_some hs
    obtain ⟨sl, spm⟩ := Sg.mem_ways.mp hs1
    rw [List.length_map] at sl
    have tl := Sg.tot_len (ss := s) zl hrow
    have g := (small_iff tl).mp hs2
    refine ⟨fun r => s[ns.idxOf r]?.getD 0, fun r hr => ?_, fun j hj => ?_⟩
    · have hi := List.idxOf_lt_length_of_mem hr
      show s[ns.idxOf r]?.getD 0 = 1 ∨ s[ns.idxOf r]?.getD 0 = -1
      rw [List.getElem?_eq_getElem (show ns.idxOf r < s.length by omega)]
      exact spm _ (List.getElem_mem _)
    · have e : vs (at_ R) ns (fun r => s[ns.idxOf r]?.getD 0) j = (List.zipWith (fun s (r : List Int) => s * r[j]?.getD 0) s (ns.map fun i => R[i]?.getD [])).sum := by
        unfold vs
        congr 1
        apply List.ext_getElem
        · rw [List.length_map, List.length_zipWith, List.length_map]
          omega
        · intro i h1 h2
          rw [List.length_map] at h1
          rw [List.getElem_map, List.getElem_zipWith, List.getElem_map]
          show s[ns.idxOf ns[i]]?.getD 0 * at_ R ns[i] j = _
          rw [nd.idxOf_getElem i h1, List.getElem?_eq_getElem (show i < s.length by omega)]
          rfl
      have := g j hj
      rw [tot_at _ s _ j w zl hrow (by rw [List.length_map, sl]) hj, zj, ← e] at this
      omega
  · rintro ⟨x, h1, h2⟩ h
    have no := List.find?_eq_none.mp h (ns.map x) (Sg.mem_ways.mpr ⟨by rw [List.length_map, List.length_map], fun y hy => by
      obtain ⟨r, hr, rfl⟩ := List.mem_map.mp hy
      exact h1 r hr⟩)
    refine no ((small_iff (Sg.tot_len zl hrow)).mpr fun j hj => ?_)
    have e : vs (at_ R) ns x j = (List.zipWith (fun s (r : List Int) => s * r[j]?.getD 0) (ns.map x) (ns.map fun i => R[i]?.getD [])).sum := by
      unfold vs
      rw [List.zipWith_map]
      congr 1
      rw [List.zipWith_self]
      rfl
    rw [tot_at _ (ns.map x) _ j w zl hrow (by rw [List.length_map, List.length_map]) hj, zj, ← e]
    have := h2 j hj
    omega
theorem val_D {rs cs : List Nat} (h : cs.length = rs.length) : ((Bs.val R rs cs : Int) : Rat) = D (at_ R) rs cs := by
  rw [Bs.val_eq R h]
  unfold D
  refine det_congr fun i j hi hj => ?_
  show ((at_ (Bs.sub R rs cs) i j : Int) : Rat) = ((at_ R (rs[i]?.getD 0) (cs[j]?.getD 0) : Int) : Rat)
  rw [List.getElem?_eq_getElem hi, List.getElem?_eq_getElem (show j < cs.length by omega), Bs.sub_at R (List.getElem?_eq_getElem hi) (List.getElem?_eq_getElem (show j < cs.length by omega))]
  rfl
theorem isBad_iff {z : Int} : Bs.isBad z = false ↔ S1 (z : Rat) := by
  unfold Bs.isBad
  rw [Bool.not_eq_false', Bool.or_eq_true, Bool.or_eq_true, decide_eq_true_eq, decide_eq_true_eq, decide_eq_true_eq]
  constructor
  · rintro ((h | h) | h) <;> rw [h]
    · exact .inl rfl
    · exact .inr (.inl rfl)
    · exact .inr (.inr rfl)
  · rintro (h | h | h)
    · exact .inl (.inl (Rat.intCast_inj.mp h))
    · exact .inl (.inr (Rat.intCast_inj.mp h))
    · exact .inr (Rat.intCast_inj.mp h)
theorem len_lt {m : Nat} {l : List Nat} (u : l.Pairwise (· < ·)) (h : ∀ x ∈ l, x < m) : l.length ≤ m := by
  have := (up_nodup u).length_le_of_subset (l₂ := List.range m) fun x hx => List.mem_range.mpr (h x hx)
  rw [List.length_range] at this
  exact this
theorem mem_sqs {n : Nat} {rs cs : List Nat} : (rs, cs) ∈ Bs.sqs m w n ↔ 1 ≤ rs.length ∧ rs.length ≤ n ∧ cs.length = rs.length ∧ rs.Pairwise (· < ·) ∧ cs.Pairwise (· < ·) ∧ (∀ x ∈ rs, x < m) ∧ ∀ x ∈ cs, x < w := by
  unfold Bs.sqs
  rw [List.mem_flatMap]
  constructor
  · rintro ⟨s, hs, h⟩
    have hs := List.mem_range.mp hs
    obtain ⟨h1, h2⟩ := Bs.mem_sq.mp h
    obtain ⟨a1, a2, a3⟩ := Cb.mem_all.mp h1
    obtain ⟨b1, b2, b3⟩ := Cb.mem_all.mp h2
    exact ⟨by omega, by omega, by omega, a2, b2, a3, b3⟩
  · rintro ⟨h1, h2, h3, h4, h5, h6, h7⟩
    exact ⟨rs.length - 1, List.mem_range.mpr (by omega), Bs.mem_sq.mpr ⟨Cb.mem_all.mpr ⟨by omega, h4, h6⟩, Cb.mem_all.mpr ⟨by omega, h5, h7⟩⟩⟩
/-- squares of at most so many rows are small -/
def SmallTo (R : List (List Int)) (m w n : Nat) : Prop := ∀ rs cs : List Nat, rs.length ≤ n → cs.length = rs.length → rs.Pairwise (· < ·) → cs.Pairwise (· < ·) → (∀ x ∈ rs, x < m) → (∀ x ∈ cs, x < w) → S1 (D (at_ R) rs cs)
theorem smallTo_of {n : Nat} (h : ∀ x ∈ Bs.sqs m w n, Bs.isBad (Bs.val R x.1 x.2) = false) : SmallTo R m w n := fun rs cs h1 h2 u1 u2 h3 h4 => by
  by_cases z : rs.length = 0
  · rw [List.length_eq_zero_iff.mp z, D_nil]
    exact .inr (.inr rfl)
  · rw [← val_D h2]
    exact isBad_iff.mp (h (rs, cs) (mem_sqs.mpr ⟨by omega, h1, h2, u1, u2, h3, h4⟩))
theorem tu_of {n : Nat} (h : SmallTo R m w n) {rs : List Nat} (u : rs.Pairwise (· < ·)) (hm : ∀ x ∈ rs, x < m) (hl : rs.length ≤ n) : Sg1 (at_ R) rs w := by
  refine TU.sg (P := fun x => x ∈ rs) (Q := (· < w)) (fun rs' cs' hc u1 u2 h1 h2 => ?_) (up_nodup u) (fun _ h => h) fun j h => h
  have := (up_nodup u1).length_le_of_subset h1
  exact h rs' cs' (by omega) hc u1 u2 (fun x hx => hm x (h1 x hx)) h2
theorem same_list {a b : List Nat} (u1 : a.Pairwise (· < ·)) (u2 : b.Pairwise (· < ·)) (h : ∀ x ∈ a, x ∈ b) (hl : b.length ≤ a.length) : a = b := by
  refine List.Perm.eq_of_pairwise (le := fun x y => x < y) (fun x y _ _ h1 h2 => by omega) u1 u2 ((List.perm_ext_iff_of_nodup (up_nodup u1) (up_nodup u2)).mpr fun x => ⟨h x, fun hx => Classical.byContradiction fun nx => ?_⟩)
  have := (List.nodup_cons.mpr ⟨nx, up_nodup u1⟩).length_le_of_subset (l₂ := b) fun y hy => by
    rcases List.mem_cons.mp hy with e | e
    · rw [e]
      exact hx
    · exact h y e
  rw [List.length_cons] at this
  omega
/-- so many rows, all squares of fewer small: they have no signs, where one of their squares is bad -/
theorem no_signs_iff (hm : R.length = m) (hw : ∀ r ∈ R, r.length = w) {n : Nat} (h : SmallTo R m w n) {rs : List Nat} (hr : rs ∈ Cb.all m (n + 1)) : (Sg.first w (rs.map fun i => R[i]?.getD [])).isNone = true ↔ ∃ cs ∈ Cb.all w (n + 1), Bs.isBad (Bs.val R rs cs) = true := by
  obtain ⟨r1, r2, r3⟩ := Cb.mem_all.mp hr
  have fs := first_sg hm hw (up_nodup r2) r3
  rw [Option.isNone_iff_eq_none]
  constructor
  · intro hn
    refine Classical.byContradiction fun no => (fs.mpr ?_) hn
    refine TU.sg (P := fun x => x ∈ rs) (Q := (· < w)) (fun rs' cs' hc u1 u2 h1 h2 => ?_) (up_nodup r2) (fun _ h => h) fun j h => h
    have l := (up_nodup u1).length_le_of_subset h1
    by_cases c : rs'.length ≤ n
    · exact h rs' cs' c hc u1 u2 (fun x hx => r3 x (h1 x hx)) h2
    · have e := same_list u1 r2 h1 (by omega)
      subst e
      rw [← val_D hc]
      refine isBad_iff.mp ?_
      cases b : Bs.isBad (Bs.val R rs' cs')
      · rfl
      · exact absurd ⟨cs', Cb.mem_all.mpr ⟨by omega, u2, h2⟩, b⟩ no
  · rintro ⟨cs, hc, hb⟩
    obtain ⟨c1, c2, c3⟩ := Cb.mem_all.mp hc
    refine Classical.byContradiction fun hn => ?_
    have sg := fs.mp hn
    cases cs with
    | nil => cases c1
    | cons c cs =>
      have c1 : cs.length = n := Nat.succ.inj c1
      have bad : ¬ S1 (D (at_ R) rs (c :: cs)) := fun s => by
        rw [← val_D (by rw [List.length_cons, c1, r1])] at s
        rw [isBad_iff.mpr s] at hb
        cases hb
      obtain ⟨p, q1, q2, _⟩ := bad_rows r1 c1 (up_nodup r2) (fun i hi => h (Bs.out rs i) cs (by rw [Bs.out_len (by omega)]; omega) (by rw [Bs.out_len (by omega)]; omega) (r2.sublist (out_sub rs i)) (List.pairwise_cons.mp c2).2 (fun x hx => r3 x (mem_out hx)) fun x hx => c3 x (List.mem_cons_of_mem _ hx)) c3 bad
      by_cases e : rs.filter p = rs
      · rw [e] at q2
        exact q2 sg
      · have l : (rs.filter p).length ≤ n := by
          have l1 := List.length_filter_le p rs
          have : (rs.filter p).length ≠ rs.length := fun z => e (List.Sublist.eq_of_length List.filter_sublist z)
          omega
        exact q2 (tu_of h (List.Pairwise.filter _ r2) (fun x hx => r3 x (List.mem_filter.mp hx).1) l)
end
end Tu
namespace Tu
open Dt
section
variable {R : List (List Int)} {m w : Nat}
/-- a list of rows: the first with a bad square, the first without signs -/
theorem rows_agree (hm : R.length = m) (hw : ∀ r ∈ R, r.length = w) {n : Nat} (h : SmallTo R m w n) : ∀ l : List (List Nat), (∀ rs ∈ l, rs ∈ Cb.all m (n + 1)) → ((l.flatMap fun rs => (Cb.all w (n + 1)).map fun cs => (rs, cs)).find? fun x => Bs.isBad (Bs.val R x.1 x.2)).map (·.1) = l.find? fun ns => (Sg.first w (ns.map fun i => R[i]?.getD [])).isNone
  | [], _ => rfl
  | rs :: l, hl => by
    have ih := rows_agree hm hw h l fun r hr => hl r (List.mem_cons_of_mem _ hr)
    have k := no_signs_iff hm hw h (hl rs (List.mem_cons_self ..))
    rw [List.flatMap_cons, List.find?_append, List.find?_cons]
    cases f : ((Cb.all w (n + 1)).map fun cs => (rs, cs)).find? fun x => Bs.isBad (Bs.val R x.1 x.2) with
    | some x =>
      have h1 := List.mem_of_find?_eq_some f
      have h2 := List.find?_some f
      obtain ⟨cs, hcs, rfl⟩ := List.mem_map.mp h1
      rw [k.mpr ⟨cs, hcs, h2⟩]
      rfl
    | none =>
      have h1 := List.find?_eq_none.mp f
      have : (Sg.first w (rs.map fun i => R[i]?.getD [])).isNone = false := by
        cases b : (Sg.first w (rs.map fun i => R[i]?.getD [])).isNone
        · rfl
        · obtain ⟨cs, hcs, h2⟩ := k.mp b
          exact absurd h2 (h1 (rs, cs) (List.mem_map.mpr ⟨cs, hcs, rfl⟩))
      rw [this]
      show (none.or _ : Option _).map _ = _
      rw [Option.none_or]
      exact ih
theorem sizes_agree (hm : R.length = m) (hw : ∀ r ∈ R, r.length = w) : ∀ n, ((Bs.sqs m w n).find? fun x => Bs.isBad (Bs.val R x.1 x.2)).map (·.1) = ((List.range n).flatMap fun s => Cb.all m (s + 1)).find? fun ns => (Sg.first w (ns.map fun i => R[i]?.getD [])).isNone
  | 0 => rfl
  | n + 1 => by
    have ih := sizes_agree hm hw n
    rw [Bs.sqs_succ, List.range_succ, List.flatMap_append, List.find?_append, List.find?_append]
    cases f : (Bs.sqs m w n).find? fun x => Bs.isBad (Bs.val R x.1 x.2) with
    | some x =>
      rw [f] at ih
      rw [← ih]
      rfl
    | none =>
      rw [f] at ih
      rw [← ih]
      have sm : SmallTo R m w n := smallTo_of fun x hx => by
        have := List.find?_eq_none.mp f x hx
        rw [Bool.not_eq_true] at this
        exact this
      show ((none : Option _).or _).map _ = ((none : Option _).map _).or _
      rw [Option.none_or, Option.map_none, Option.none_or, List.flatMap_cons, List.flatMap_nil, List.append_nil]
      exact rows_agree hm hw sm (Cb.all m (n + 1)) fun rs h => h
theorem sqs_over {n : Nat} (h : min m w ≤ n) : Bs.sqs m w n = Bs.sqs m w (min m w) := by
  induction n with
  | zero =>
    have : min m w = 0 := by omega
    rw [this]
  | succ n ih =>
    by_cases c : min m w = n + 1
    · rw [c]
    · rw [Bs.sqs_succ, ih (by omega)]
      have : Bs.sq m w (n + 1) = [] := by
        refine List.eq_nil_iff_forall_not_mem.mpr fun x hx => ?_
        obtain ⟨rs, cs⟩ := x
        obtain ⟨h1, h2⟩ := Bs.mem_sq.mp hx
        obtain ⟨a1, a2, a3⟩ := Cb.mem_all.mp h1
        obtain ⟨b1, b2, b3⟩ := Cb.mem_all.mp h2
        have := len_lt a2 a3
        have := len_lt b2 b3
        omega
      rw [this, List.append_nil]
/-- the rows of the least bad square are the least bare rows -/
theorem bare_bad (hm : R.length = m) (hw : ∀ r ∈ R, r.length = w) : bare w R m = (Bs.bad R m w).map (·.1) := by
  have h := sizes_agree hm hw m
  rw [sqs_over (by omega)] at h
  exact h.symm
theorem bare_none (hm : R.length = m) (hw : ∀ r ∈ R, r.length = w) : (bare w R m).isNone = (Bs.bad R m w).isNone := by
  rw [bare_bad hm hw, Option.isNone_map]
theorem bad_none_iff : Bs.bad R m w = none ↔ TU (at_ R) (· < m) (· < w) := by
  unfold Bs.bad
  rw [List.find?_eq_none]
  constructor
  · intro h rs cs hl u1 u2 h1 h2
    have := len_lt u1 h1
    have := len_lt u2 h2
    exact smallTo_of (n := min m w) (fun x hx => by
      have := h x hx
      rw [Bool.not_eq_true] at this
      exact this) rs cs (by omega) hl u1 u2 h1 h2
  · intro h x hx
    obtain ⟨rs, cs⟩ := x
    obtain ⟨a1, a2, a3, a4, a5, a6, a7⟩ := mem_sqs.mp hx
    have := h rs cs a3 a4 a5 a6 a7
    rw [← val_D a3] at this
    show ¬ Bs.isBad (Bs.val R rs cs) = true
    rw [isBad_iff.mpr this]
    exact Bool.false_ne_true
/-- what is so of the least bad square -/
structure Least (R : List (List Int)) (m w n : Nat) (rs cs : List Nat) : Prop where
  rl : rs.length = n + 1
  cl : cs.length = n + 1
  ru : rs.Pairwise (· < ·)
  cu : cs.Pairwise (· < ·)
  rm : ∀ x ∈ rs, x < m
  cw : ∀ x ∈ cs, x < w
  bad : ¬ S1 (D (at_ R) rs cs)
  small : SmallTo R m w n
theorem least_of_bad {rs cs : List Nat} (h : Bs.bad R m w = some (rs, cs)) : ∃ n, Least R m w n rs cs := by
  unfold Bs.bad at h
  have h1 := List.mem_of_find?_eq_some h
  have h2 := List.find?_some h
  obtain ⟨a1, a2, a3, a4, a5, a6, a7⟩ := mem_sqs.mp h1
  refine ⟨rs.length - 1, by omega, by omega, a4, a5, a6, a7, fun s => ?_, smallTo_of fun x hx => ?_⟩
  · rw [← val_D a3] at s
    have h2 : Bs.isBad (Bs.val R rs cs) = true := h2
    rw [isBad_iff.mpr s] at h2
    cases h2
  · obtain ⟨B, hB⟩ := Bs.sqs_split (m := m) (w := w) (n := min m w) (s := rs.length - 1) (by omega)
    have h3 := (List.find?_eq_some_iff_append.mp h).2
    obtain ⟨as, bs, e, hno⟩ := h3
    rw [hB] at e
    have hin : x ∈ as := by
      rcases List.append_eq_append_iff.mp e with ⟨c, e1, _⟩ | ⟨c, e1, e2⟩
      · rw [e1]
        exact List.mem_append_left _ hx
      · cases c with
        | nil =>
          rw [List.append_nil] at e1
          rw [← e1]
          exact hx
        | cons y c =>
          have e2 := (List.cons.inj e2).1
          have : (rs, cs) ∈ Bs.sqs m w (rs.length - 1) := by
            rw [e1, ← e2]
            exact List.mem_append_right _ (List.mem_cons_self ..)
          have := (mem_sqs.mp this).2.1
          omega
    have := hno x hin
    rw [Bool.not_eq_true'] at this
    exact this
theorem Least.sub {n : Nat} {rs cs : List Nat} (h : Least R m w n rs cs) (p : Nat → Bool) (_ : rs.filter p ≠ []) (e : rs.filter p ≠ rs) : Sg1 (at_ R) (rs.filter p) w := by
  have l : (rs.filter p).length ≤ n := by
    have l1 := List.length_filter_le p rs
    have l2 := h.rl
    have : (rs.filter p).length ≠ rs.length := fun z => e (List.Sublist.eq_of_length List.filter_sublist z)
    omega
  exact tu_of h.small (List.Pairwise.filter _ h.ru) (fun x hx => h.rm x (List.mem_filter.mp hx).1) l
theorem Least.full {n : Nat} {rs cs : List Nat} (h : Least R m w n rs cs) : Full (at_ R) rs cs (n + 1) := by
  have h1 := h.rl
  have h2 := h.cl
  exact full_of h1 h2 (up_nodup h.ru) (fun i j hi hj => h.small _ _ (by rw [Bs.out_len (by omega)]; omega) (by rw [Bs.out_len (by omega), Bs.out_len (by omega)]; omega) (h.ru.sublist (out_sub rs i)) (h.cu.sublist (out_sub cs j)) (fun x hx => h.rm x (mem_out hx)) fun x hx => h.cw x (mem_out hx)) h.cw h.bad h.sub
theorem Least.two {n : Nat} {rs cs : List Nat} (h : Least R m w (n + 1) rs cs) : Bs.val R rs cs = 2 ∨ Bs.val R rs cs = -2 := by
  have f := h.full
  have h1 := h.rl
  have h2 := h.cl
  have hb := h.bad
  have hw := h.cw
  match cs, h2, f, hb, hw with
  | c0 :: c1 :: cs, h2, f, hb, hw =>
    have h2 : cs.length = n := by
      have : cs.length + 2 = n + 2 := h2
      omega
    have t := two_bad h1 h2 (up_nodup h.ru) f hw hb h.sub
    rw [← val_D (by rw [List.length_cons, List.length_cons, h1, h2])] at t
    rcases t with t | t
    · exact .inl (Rat.intCast_inj.mp t)
    · exact .inr (Rat.intCast_inj.mp t)
theorem Least.cols {n : Nat} {rs cs : List Nat} (h : Least R m w (n + 1) rs cs) {k : Nat} (hk : k ∈ cs) : (rs.map fun r => at_ R r k).sum % 2 = 0 := by
  have := h.full.even h.rl h.cl (up_nodup h.cu) hk
  unfold vs at this
  rw [show (rs.map fun r => (1 : Int) * at_ R r k) = rs.map fun r => at_ R r k from List.map_congr_left fun r _ => Int.one_mul _] at this
  exact this
theorem Least.rows {n : Nat} {rs cs : List Nat} (h : Least R m w (n + 1) rs cs) {r : Nat} (hr : r ∈ rs) : (cs.map fun k => at_ R r k).sum % 2 = 0 := by
  have := (h.full.T h.rl h.cl).even h.cl h.rl (up_nodup h.ru) hr
  unfold vs at this
  rw [show (cs.map fun k => (1 : Int) * at_ R r k) = cs.map fun k => at_ R r k from List.map_congr_left fun r _ => Int.one_mul _] at this
  exact this
theorem one_D (A : Nat → Nat → Int) (r c : Nat) : D A [r] [c] = ((A r c : Int) : Rat) := by
  unfold D
  show det 1 _ = _
  rw [det_one]
  rfl
theorem Least.plain {n : Nat} {rs cs : List Nat} (h : Least R m w (n + 1) rs cs) {i j : Nat} (hi : i < m) (hj : j < w) : at_ R i j = -1 ∨ at_ R i j = 0 ∨ at_ R i j = 1 := by
  have := h.small [i] [j] (by show 1 ≤ n + 1; omega) rfl (List.pairwise_singleton ..) (List.pairwise_singleton ..) (fun x hx => by rw [List.mem_singleton.mp hx]; exact hi) fun x hx => by rw [List.mem_singleton.mp hx]; exact hj
  rw [one_D] at this
  rcases this with z | z | z
  · exact .inl (Rat.intCast_inj.mp z)
  · exact .inr (.inl (Rat.intCast_inj.mp z))
  · exact .inr (.inr (Rat.intCast_inj.mp z))
theorem Least.one {rs cs : List Nat} (h : Least R m w 0 rs cs) : ∃ i j, rs = [i] ∧ cs = [j] ∧ i < m ∧ j < w ∧ Bs.isBad (at_ R i j) = true := by
  obtain ⟨i, rfl⟩ := List.length_eq_one_iff.mp h.rl
  obtain ⟨j, rfl⟩ := List.length_eq_one_iff.mp h.cl
  refine ⟨i, j, rfl, rfl, h.rm i (List.mem_singleton.mpr rfl), h.cw j (List.mem_singleton.mpr rfl), ?_⟩
  cases b : Bs.isBad (at_ R i j)
  · have := isBad_iff.mp b
    rw [← one_D] at this
    exact absurd this h.bad
  · rfl
end
end Tu
/-! pivoting keeps squares small -/
namespace Tu
open Dt
theorem ext_odd (A : Nat → Nat → Int) (r b : Nat) : ext A r (2 * b + 1) = A r b := by
  unfold ext
  rw [if_neg (by omega), show (2 * b + 1) / 2 = b by omega]
theorem ext_even (A : Nat → Nat → Int) (r q : Nat) : ext A r (2 * q) = if r = q then 1 else 0 := by
  unfold ext
  rw [if_pos (by omega), show 2 * q / 2 = q by omega]
theorem D_odd (A : Nat → Nat → Int) (rs cs : List Nat) (h : cs.length = rs.length) : D (ext A) rs (cs.map fun b => 2 * b + 1) = D A rs cs := D_congr rfl fun i j _ hj => by
  rw [List.getElem?_map, List.getElem?_eq_getElem (show j < cs.length by omega)]
  exact ext_odd A _ _
section
variable {R : List (List Int)} {m w i j : Nat}
/-- where the columns go -/
def swapc (i j k : Nat) : Nat := if k = 2 * i then 2 * j + 1 else if k = 2 * j + 1 then 2 * i else k
theorem piv_row (p : at_ R i j = 1 ∨ at_ R i j = -1) {a k : Nat} (ha : a ≠ i) (hk : k = 2 * i ∨ k % 2 = 1) : ext (pvAt R i j) a k = ext (at_ R) a (swapc i j k) - at_ R i j * at_ R a j * ext (at_ R) i (swapc i j k) := by
  have pp : at_ R i j * at_ R i j = 1 := by rcases p with p | p <;> rw [p] <;> rfl
  unfold swapc
  rcases hk with hk | hk
  · rw [if_pos hk, hk, ext_even, if_neg ha, ext_odd, ext_odd]
    have : at_ R i j * at_ R a j * at_ R i j = at_ R a j := by
      rw [Int.mul_assoc, Int.mul_comm (at_ R a j), ← Int.mul_assoc, pp, Int.one_mul]
    omega
  · rw [if_neg (by omega)]
    obtain ⟨b, rfl⟩ : ∃ b, k = 2 * b + 1 := ⟨k / 2, by omega⟩
    rw [ext_odd]
    unfold pvAt
    rw [if_neg ha]
    by_cases c : b = j
    · subst c
      rw [if_pos rfl, if_pos rfl, ext_even, ext_even, if_neg ha, if_pos rfl]
      rw [Int.mul_one, Int.zero_sub, Int.neg_mul]
    · rw [if_neg c, if_neg (by omega), ext_odd, ext_odd]
theorem piv_top (p : at_ R i j = 1 ∨ at_ R i j = -1) {k : Nat} (hk : k = 2 * i ∨ k % 2 = 1) : ext (pvAt R i j) i k = at_ R i j * ext (at_ R) i (swapc i j k) := by
  have pp : at_ R i j * at_ R i j = 1 := by rcases p with p | p <;> rw [p] <;> rfl
  unfold swapc
  rcases hk with hk | hk
  · rw [if_pos hk, hk, ext_even, if_pos rfl, ext_odd, pp]
  · rw [if_neg (by omega)]
    obtain ⟨b, rfl⟩ : ∃ b, k = 2 * b + 1 := ⟨k / 2, by omega⟩
    rw [ext_odd]
    unfold pvAt
    rw [if_pos rfl]
    by_cases c : b = j
    · subst c
      rw [if_pos rfl, if_pos rfl, ext_even, if_pos rfl, Int.mul_one]
    · rw [if_neg c, if_neg (by omega), ext_odd]
theorem piv_D (p : at_ R i j = 1 ∨ at_ R i j = -1) {rs ks : List Nat} (hi : i ∉ rs) (hl : ks.length = rs.length + 1) (hk : ∀ k ∈ ks, k = 2 * i ∨ k % 2 = 1) : D (ext (pvAt R i j)) (i :: rs) ks = ((at_ R i j : Int) : Rat) * D (ext (at_ R)) (i :: rs) (ks.map (swapc i j)) := by
  have nl : (i :: rs).length = rs.length + 1 := rfl
  let M := mat (ext (at_ R)) (i :: rs) (ks.map (swapc i j))
  let c : Nat → Rat := fun a => -(((at_ R i j * at_ R ((i :: rs)[a]?.getD 0) j : Int) : Int) : Rat)
  have h1 := det_adds (n := rs.length + 1) (c := c) (M := M) (rs.length + 1) (Nat.le_refl _)
  have gk : ∀ b, b < rs.length + 1 → ∃ k, ks[b]? = some k ∧ (ks.map (swapc i j))[b]?.getD 0 = swapc i j k ∧ (k = 2 * i ∨ k % 2 = 1) := fun b hb => by
    have hb2 : b < ks.length := by omega
    refine ⟨ks[b], List.getElem?_eq_getElem hb2, ?_, hk _ (List.getElem_mem hb2)⟩
    rw [List.getElem?_map, List.getElem?_eq_getElem hb2]
    rfl
  have h2 := det_scale (n := rs.length + 1) (r := 0) (c := ((at_ R i j : Int) : Rat)) (M := adds (rs.length + 1) c M) (N := mat (ext (pvAt R i j)) (i :: rs) ks) (by omega) (fun b hb => by
    obtain ⟨k, e1, e2, e3⟩ := gk b hb
    show ((ext (pvAt R i j) i (ks[b]?.getD 0) : Int) : Rat) = ((at_ R i j : Int) : Rat) * (if 0 < 0 ∧ 0 < rs.length + 1 then _ else ((ext (at_ R) i ((ks.map (swapc i j))[b]?.getD 0) : Int) : Rat))
    rw [if_neg (by omega), e1, e2, ← Rat.intCast_mul]
    show ((ext (pvAt R i j) i k : Int) : Rat) = _
    rw [piv_top p e3]) (fun a b ha hal hb => by
    obtain ⟨k, e1, e2, e3⟩ := gk b hb
    have hne : (i :: rs)[a]?.getD 0 ≠ i := fun z => by
      cases a with
      | zero => exact ha rfl
      | succ a =>
        have hal2 : a < rs.length := by omega
        have z : rs[a]?.getD 0 = i := z
        rw [List.getElem?_eq_getElem hal2] at z
        have z : rs[a] = i := z
        exact hi (by rw [← z]; exact List.getElem_mem hal2)
    show ((ext (pvAt R i j) ((i :: rs)[a]?.getD 0) (ks[b]?.getD 0) : Int) : Rat) = (if 0 < a ∧ a < rs.length + 1 then ((ext (at_ R) ((i :: rs)[a]?.getD 0) ((ks.map (swapc i j))[b]?.getD 0) : Int) : Rat) + c a * ((ext (at_ R) i ((ks.map (swapc i j))[b]?.getD 0) : Int) : Rat) else _)
    rw [if_pos ⟨by omega, hal⟩, e1, e2]
    show ((ext (pvAt R i j) ((i :: rs)[a]?.getD 0) k : Int) : Rat) = _ + -(((at_ R i j * at_ R ((i :: rs)[a]?.getD 0) j : Int) : Int) : Rat) * _
    rw [piv_row p hne e3, Rat.intCast_sub, Rat.intCast_mul (at_ R i j * at_ R ((i :: rs)[a]?.getD 0) j)]
    grind)
  rw [h1] at h2
  unfold D
  rw [nl]
  exact h2
theorem swapc_ok (h : TUA (at_ R) (· < m) (· < w)) (hj : j < w) {rs ks : List Nat} (n1 : (i :: rs).Nodup) (hm : ∀ x ∈ i :: rs, x < m) (hl : ks.length = rs.length + 1) (hk : ∀ k ∈ ks, k = 2 * i ∨ k % 2 = 1 ∧ k / 2 < w) : S1 (D (ext (at_ R)) (i :: rs) (ks.map (swapc i j))) := by
  refine ext_small h (rs.length + 1) (i :: rs) _ rfl (by rw [List.length_map, hl]) n1 hm fun c hc o => ?_
  obtain ⟨k, hk1, rfl⟩ := List.mem_map.mp hc
  unfold swapc at o ⊢
  by_cases c1 : k = 2 * i
  · rw [if_pos c1]
    omega
  · rw [if_neg c1] at o ⊢
    by_cases c2 : k = 2 * j + 1
    · rw [if_pos c2] at o
      omega
    · rw [if_neg c2]
      rcases hk k hk1 with z | z
      · exact absurd z c1
      · exact z.2
theorem piv_tu (h : TU (at_ R) (· < m) (· < w)) (hi : i < m) (hj : j < w) (p : at_ R i j = 1 ∨ at_ R i j = -1) : TU (pvAt R i j) (· < m) (· < w) := fun rs cs hl u1 u2 h1 h2 => by
  have sp : S1 ((at_ R i j : Int) : Rat) := by
    rcases p with p | p <;> rw [p]
    · exact .inr (.inr rfl)
    · exact .inl rfl
  have odd : ∀ k ∈ cs.map (fun b => 2 * b + 1), k % 2 = 1 ∧ k / 2 < w := fun k hk => by
    obtain ⟨b, hb, rfl⟩ := List.mem_map.mp hk
    have : b < w := h2 b hb
    omega
  by_cases c : i ∈ rs
  · obtain ⟨q, t, rfl⟩ := List.append_of_mem c
    have pm : (q ++ i :: t).Perm (i :: (q ++ t)) := List.perm_middle
    have nd := pm.nodup_iff.mp (up_nodup u1)
    have ll : cs.length = (q ++ t).length + 1 := by
      rw [hl, pm.length_eq]
      rfl
    refine s1_pm (D_perm pm) ?_
    rw [← D_odd _ _ _ (by rw [ll]; rfl), piv_D p (List.nodup_cons.mp nd).1 (by rw [List.length_map, ll]) fun k hk => .inr (odd k hk).1]
    exact sp.mul (swapc_ok h.any hj nd (fun x hx => h1 x (pm.mem_iff.mpr hx)) (by rw [List.length_map, ll]) fun k hk => .inr (odd k hk))
  · have nd : (i :: rs).Nodup := List.nodup_cons.mpr ⟨c, up_nodup u1⟩
    have e : D (ext (pvAt R i j)) (i :: rs) (2 * i :: cs.map fun b => 2 * b + 1) = D (pvAt R i j) rs cs := by
      rw [D_first (n := rs.length) rfl, sm_one (i := 0) (by omega) fun a ha ne => ?_]
      · show sg 0 * ((ext (pvAt R i j) i (2 * i) : Int) : Rat) * D (ext (pvAt R i j)) (Bs.out (i :: rs) 0) (cs.map fun b => 2 * b + 1) = _
        rw [ext_even, if_pos rfl, show Bs.out (i :: rs) 0 = rs from rfl, D_odd _ _ _ hl, sg0, show ((1 : Int) : Rat) = 1 from rfl]
        grind
      · have hne : (i :: rs)[a]?.getD 0 ≠ i := fun z => by
          cases a with
          | zero => exact ne rfl
          | succ a =>
            have hal2 : a < rs.length := by omega
            have z : rs[a]?.getD 0 = i := z
            rw [List.getElem?_eq_getElem hal2] at z
            have z : rs[a] = i := z
            exact c (by rw [← z]; exact List.getElem_mem hal2)
        rw [ext_even, if_neg hne, show ((0 : Int) : Rat) = 0 from rfl]
        grind
    have hks : ∀ k ∈ 2 * i :: cs.map (fun b => 2 * b + 1), k = 2 * i ∨ k % 2 = 1 ∧ k / 2 < w := fun k hk => by
      rcases List.mem_cons.mp hk with z | z
      · exact .inl z
      · exact .inr (odd k z)
    have hll : (2 * i :: cs.map fun b => 2 * b + 1).length = rs.length + 1 := by rw [List.length_cons, List.length_map, hl]
    rw [← e, piv_D p c hll fun k hk => (hks k hk).imp id And.left]
    refine sp.mul (swapc_ok h.any hj nd (fun x hx => ?_) hll hks)
    rcases List.mem_cons.mp hx with z | z
    · rw [z]
      exact hi
    · exact h1 x z
theorem TU.congr {A B : Nat → Nat → Int} {P Q : Nat → Prop} (h : TU A P Q) (e : ∀ a b, P a → Q b → B a b = A a b) : TU B P Q := fun rs cs hl u1 u2 h1 h2 => by
  rw [D_congr (A := A) rfl fun i j hi hj => ?_]
  · exact h rs cs hl u1 u2 h1 h2
  · rw [List.getElem?_eq_getElem hi, List.getElem?_eq_getElem (show j < cs.length by omega)]
    exact e _ _ (h1 _ (List.getElem_mem _)) (h2 _ (List.getElem_mem _))
theorem pivT_tu (hl : R.length = m) (hw : ∀ r ∈ R, r.length = w) (hi : i < m) (hj : j < w) (p : at_ R i j = 1 ∨ at_ R i j = -1) : TU (at_ (pivT R m w i j)) (· < m) (· < w) ↔ TU (at_ R) (· < m) (· < w) := by
  have one : ∀ {R : List (List Int)}, (at_ R i j = 1 ∨ at_ R i j = -1) → TU (at_ R) (· < m) (· < w) → TU (at_ (pivT R m w i j)) (· < m) (· < w) := fun p h => (piv_tu h hi hj p).congr fun a b ha hb => pivT_at ha hb
  refine ⟨fun h => ?_, one p⟩
  have e : at_ (pivT R m w i j) i j = at_ R i j := by
    rw [pivT_at hi hj]
    unfold pvAt
    rw [if_pos rfl, if_pos rfl]
  have := one (by rw [e]; exact p) h
  rw [pivT_twice hl hw hi hj p] at this
  exact this
end
end Tu
/-! what keeps a table unimodular: rows mixed or left out, signs, turning, columns behind -/
namespace Tu
open Dt
def Uni (R : List (List Int)) (m w : Nat) : Prop := TU (at_ R) (· < m) (· < w)
theorem uni_iff {R : List (List Int)} {m w : Nat} (hm : R.length = m) (hw : ∀ r ∈ R, r.length = w) : (bare w R m).isNone = true ↔ Uni R m w := by
  rw [bare_none hm hw, Option.isNone_iff_eq_none]
  exact bad_none_iff
theorem uni_same {R S : List (List Int)} {m w m' w' : Nat} (hm : R.length = m) (hw : ∀ r ∈ R, r.length = w) (hm' : S.length = m') (hw' : ∀ r ∈ S, r.length = w') (h : Uni R m w ↔ Uni S m' w') : (bare w' S m').isNone = (bare w R m).isNone := by
  rw [Bool.eq_iff_iff, uni_iff hm hw, uni_iff hm' hw']
  exact h.symm
theorem tu_map {A B : Nat → Nat → Int} {P P' Q : Nat → Prop} (h : TU A P Q) (f : Nat → Nat) (hf : ∀ i, P' i → P (f i) ∧ ∀ j, Q j → B i j = A (f i) j) : TU B P' Q := fun rs cs hl _ _ h1 h2 => by
  have g := h.any (rs.map f) cs (by rw [List.length_map, hl]) (fun x hx => by
    obtain ⟨i, hi, rfl⟩ := List.mem_map.mp hx
    exact (hf i (h1 i hi)).1) h2
  rw [D_congr (A := A) (rs := rs.map f) (cs := cs) (by rw [List.length_map]) fun i j hi hj => ?_]
  · exact g
  · rw [List.length_map] at hi hj
    have hj2 : j < cs.length := by omega
    rw [List.getElem?_map, List.getElem?_eq_getElem hi, List.getElem?_eq_getElem hj2]
    exact (hf _ (h1 _ (List.getElem_mem hi))).2 _ (h2 _ (List.getElem_mem hj2))
/-- rows taken from a unimodular table -/
theorem uni_mem {R S : List (List Int)} {m m' w : Nat} (hm : R.length = m) (hm' : S.length = m') (hs : ∀ r ∈ S, r ∈ R) (h : Uni R m w) : Uni S m' w := by
  have ex : ∀ i, i < m' → ∃ k, k < m ∧ R[k]? = S[i]? := fun i hi => by
    have hi2 : i < S.length := by omega
    obtain ⟨k, hk, e⟩ := List.mem_iff_getElem.mp (hs _ (List.getElem_mem hi2))
    exact ⟨k, by omega, by rw [List.getElem?_eq_getElem hk, List.getElem?_eq_getElem hi2, e]⟩
  refine tu_map h (fun i => if hi : i < m' then Classical.choose (ex i hi) else 0) fun i hi => ?_
  have hi : i < m' := hi
  have c := Classical.choose_spec (ex i hi)
  rw [dif_pos hi]
  refine ⟨c.1, fun j _ => ?_⟩
  show (S[i]?.getD [])[j]?.getD 0 = (R[Classical.choose (ex i hi)]?.getD [])[j]?.getD 0
  rw [c.2]
theorem uni_perm {R S : List (List Int)} {m w : Nat} (hm : R.length = m) (p : S.Perm R) : Uni R m w ↔ Uni S m w := ⟨uni_mem hm (by rw [p.length_eq, hm]) fun r hr => p.mem_iff.mp hr, uni_mem (by rw [p.length_eq, hm]) hm fun r hr => p.mem_iff.mpr hr⟩
theorem vs_sign {A B : Nat → Nat → Int} {x s : Nat → Int} {j : Nat} {t : Int} : ∀ {rs : List Nat}, (∀ a ∈ rs, s a * s a = 1 ∧ B a j = s a * A a j * t) → vs B rs (fun a => x a * s a) j = t * vs A rs x j
  | [], _ => by
    show (0 : Int) = t * 0
    omega
  | a :: rs, h => by
    have ih := vs_sign (A := A) (B := B) (x := x) (s := s) (j := j) (t := t) (rs := rs) fun b hb => h b (List.mem_cons_of_mem _ hb)
    obtain ⟨h1, h2⟩ := h a (List.mem_cons_self ..)
    have e : vs B (a :: rs) (fun a => x a * s a) j = x a * s a * B a j + vs B rs (fun a => x a * s a) j := by
      unfold vs
      rw [List.map_cons, List.sum_cons]
    have e2 : vs A (a :: rs) x j = x a * A a j + vs A rs x j := by
      unfold vs
      rw [List.map_cons, List.sum_cons]
    rw [e, e2, ih, h2, Int.mul_add]
    congr 1
    have : x a * s a * (s a * A a j * t) = (s a * s a) * (t * (x a * A a j)) := by
      simp only [Int.mul_assoc, Int.mul_comm, Int.mul_left_comm]
    rw [this, h1, Int.one_mul]
theorem tu_sign {A B : Nat → Nat → Int} {P : Nat → Prop} {w : Nat} (h : TU A P (· < w)) {s t : Nat → Int} (hs : ∀ a, P a → s a = 1 ∨ s a = -1) (ht : ∀ b, b < w → t b = 1 ∨ t b = -1) (e : ∀ a b, P a → b < w → B a b = s a * A a b * t b) : TU B P (· < w) := by
  refine signs_tu fun rs _ u hP => ?_
  obtain ⟨x, h1, h2⟩ := TU.sg h (up_nodup u) hP (w := w) fun j hj => hj
  refine ⟨fun a => x a * s a, fun r hr => ?_, fun j hj => ?_⟩
  · have a1 := h1 r hr
    have a2 := hs r (hP r hr)
    show x r * s r = 1 ∨ x r * s r = -1
    rcases a1 with a1 | a1 <;> rcases a2 with a2 | a2 <;> rw [a1, a2]
    · exact .inl rfl
    · exact .inr rfl
    · exact .inr rfl
    · exact .inl rfl
  · rw [vs_sign (A := A) (t := t j) fun a ha => ⟨by rcases hs a (hP a ha) with z | z <;> rw [z] <;> rfl, e a j (hP a ha) hj⟩]
    have := h2 j hj
    rcases ht j hj with z | z <;> rw [z] <;> omega
theorem uni_sign {R S : List (List Int)} {m w : Nat} {s t : Nat → Int} (hs : ∀ a, a < m → s a = 1 ∨ s a = -1) (ht : ∀ b, b < w → t b = 1 ∨ t b = -1) (e : ∀ a b, a < m → b < w → at_ S a b = s a * at_ R a b * t b) : Uni R m w ↔ Uni S m w := by
  refine ⟨fun h => tu_sign h hs ht e, fun h => tu_sign h hs ht fun a b ha hb => ?_⟩
  rw [e a b ha hb]
  rcases hs a ha with z | z <;> rcases ht b hb with y | y <;> rw [z, y] <;> omega
theorem uni_turn {R S : List (List Int)} {m w : Nat} (e : ∀ a b, a < w → b < m → at_ S a b = at_ R b a) : Uni R m w ↔ Uni S w m := by
  constructor
  · intro h
    exact (TU.T h).congr e
  · intro h
    exact (TU.T h).congr fun a b ha hb => (e b a hb ha).symm
/-- one more column, told by a place of the table with single ones -/
theorem uni_more {R S : List (List Int)} {m w c : Nat} (hc : c % 2 = 1 → c / 2 < w) (e : ∀ a b, a < m → b < w → at_ S a b = at_ R a b) (e2 : ∀ a, a < m → at_ S a w = ext (at_ R) a c) : Uni R m w ↔ Uni S m (w + 1) := by
  constructor
  · intro h rs cs hl u1 u2 h1 h2
    have g := ext_small h.any rs.length rs (cs.map fun b => if b < w then 2 * b + 1 else c) rfl (by rw [List.length_map, hl]) (up_nodup u1) h1 fun k hk o => by
      obtain ⟨b, _, rfl⟩ := List.mem_map.mp hk
      by_cases z : b < w
      · rw [if_pos z]
        omega
      · rw [if_neg z] at o ⊢
        exact hc o
    rw [D_congr (A := ext (at_ R)) (rs := rs) (cs := cs.map fun b => if b < w then 2 * b + 1 else c) rfl fun i j hi hj => ?_]
    · exact g
    · have hj2 : j < cs.length := by omega
      have hi1 := h1 _ (List.getElem_mem hi)
      have hj1 : cs[j] < w + 1 := h2 _ (List.getElem_mem hj2)
      rw [List.getElem?_map, List.getElem?_eq_getElem hi, List.getElem?_eq_getElem hj2]
      show at_ S rs[i] cs[j] = ext (at_ R) rs[i] (if cs[j] < w then 2 * cs[j] + 1 else c)
      by_cases z : cs[j] < w
      · rw [if_pos z, ext_odd, e _ _ hi1 z]
      · rw [if_neg z, show cs[j] = w by omega]
        exact e2 _ hi1
  · intro h rs cs hl u1 u2 h1 h2
    have g := h rs cs hl u1 u2 h1 fun x hx => Nat.lt_succ_of_lt (h2 x hx)
    rw [← D_congr (A := at_ S) (B := at_ R) (rs := rs) (cs := cs) rfl fun i j hi hj => ?_] at g
    · exact g
    · have hj2 : j < cs.length := by omega
      rw [List.getElem?_eq_getElem hi, List.getElem?_eq_getElem hj2]
      exact (e _ _ (h1 _ (List.getElem_mem hi)) (h2 _ (List.getElem_mem hj2))).symm
end Tu
/-! try .. except, where the body raises nothing: the clauses are never looked at -/
namespace TryC
open PySem PySem.Spec PyProof.Rows L2
theorem ps_try_calm {X : Cx} {body : List Stmt} {h₀ : ExceptHandler} {hds : List ExceptHandler} {pos : Pos} {tb : TS} (hb : ∀ (pn : List (Addr × Obj)) (xe : Value → Shared → Prop), PSs (X.tr pn xe) body tb) : PS X (.Try body (h₀ :: hds) [] [] pos) tb := by
  refine ⟨fun pn s sl G D J told => wpAny_Try_except ?_⟩
  have good := J.ok
  refine wpAny_mono ((hb (X.pn ++ pn) fun _ _ => False).run [] s sl G D (J.toTry _) told) (fun fl s1 out => ?_) (fun _ _ no => (show False from no).elim)
  cases fl with
  | next =>
    obtain ⟨a, b, c, d⟩ := out
    exact wpAny_execs_nil ⟨a, b, c.ofTry good, d⟩
  | brk =>
    obtain ⟨a, b, c, d⟩ := out
    exact ⟨a, b, c.ofTry good, d⟩
  | cont =>
    obtain ⟨a, b, c, d⟩ := out
    exact ⟨a, b, c.ofTry good, d⟩
  | ret u =>
    obtain ⟨v, a, b, c, r, d⟩ := out
    exact ⟨v, a, b, c.ofTry good, r, d⟩
end TryC
namespace Own
open PySem PySem.Spec PyProof.Rows L2
/-! str and repr of nested lists: where nothing is being shown around (the law's own def, called by the caller) -/
def rShown (K : PySem.W.Frag) : List V → Hp → VK → Prop := fun xs H Q => ∃ a d, xs = [V.ref a] ∧ Dp K H (.ref a) d ∧ d.showable = true ∧ d.hasDict = false ∧ d.depth ≤ 50 ∧ d.shown.length ≤ sizeLine ∧ Q (.str d.shown) H
section
variable {X : Cx}
theorem str_shown (free : X.A.guards = some []) (room : X.A.units + 64 < cLine) : CallR X (.type "str") (rShown X.K) := by
  intro pn s0 sl G ys ws R J rel told
  obtain ⟨b, dd, rfl, hD, showT, noD, hdep, hlen, fin⟩ := told
  obtain ⟨w1, rfl, hw1⟩ := vals1 rel
  cases hw1
  obtain ⟨cs, hreads⟩ := Dp.reads J dd _ _ hD rfl
  refine str_of_reads hreads showT (PyData.noDict_hsm noD) free (by omega) (fun _ _ z => z) (fun g2 tx tk keep => ?_) hlen
  exact ⟨.str dd.shown, G, J.kept (t' := tk) keep, ⟨tx, rfl⟩, fin⟩
theorem repr_shown (free : X.A.guards = some []) (room : X.A.units + 64 < cLine) : CallR X (.builtin "repr") (rShown X.K) := by
  intro pn s0 sl G ys ws R J rel told
  obtain ⟨b, dd, rfl, hD, showT, noD, hdep, hlen, fin⟩ := told
  obtain ⟨w1, rfl, hw1⟩ := vals1 rel
  cases hw1
  obtain ⟨cs, hreads⟩ := Dp.reads J dd _ _ hD rfl
  refine repr_of_reads' hreads showT (PyData.noDict_hsm noD) free (by omega) (fun _ _ z => z) (fun g2 tx tk keep => ?_) hlen
  exact ⟨.str dd.shown, G, J.kept (t' := tk) keep, ⟨tx, rfl⟩, fin⟩
end
/-- what the caller asks of the law's def, at the caller's own place: with that, the promise of the whole -/
def Asked (P : Program) (w : World) (K : PySem.W.Frag) (mg : Str → Option Value) (fa a : Addr) (ns : List Int) (s : Shared) : Prop :=
  ∀ (root : Heap) (G : Hp), K.In root → root.Ns mainGlobals mg → Env0 P w K mg root callerA [] s G → SqL K G a (ns.map V.int) →
    codeAny (model P w) callerA (.call (.ref fa) ⟨[.ref a], []⟩) (CR CX0 [] P w G s (fun v _ => v = .bl true) fun _ _ _ => False) s
theorem asked_all {P : Program} {w : World} {K : PySem.W.Frag} {mg bt : Str → Option Value} {fa a : Addr} {s : Shared} {us : List Value} {ns : List Int} (inK : K.In s.heap) (glob : s.heap.Ns mainGlobals mg) (blt : s.heap.Ns builtinsNs bt)
    (boot : ∀ y : Str, y ≠ "__name__" → bt y = bootBuiltins y) (nolim : s.heap.NoLimit) (gens : s.gens = #[]) (script : s.heap.get? a = some { cls := .type "list", data := .seq us.toArray }) (entries : IntsAre us ns) (len : ns.length ≤ sizeLine)
    (ask : Asked P w K mg fa a ns s) : codeAny (model P w) callerA (.call (.ref fa) ⟨[.ref a], []⟩) (fun r t => r = .ok (.ret (.bool true)) ∧ OldK s.heap t.heap ∧ t.os = s.os ∧ AllBare t.gens) s := by
  -- the heap of what is followed: the script alone, or nothing where the module holds it
  obtain ⟨G, lone, seen, okG, frozen, apart⟩ : ∃ G : Hp, (∀ b, G b ≠ none → b = a) ∧ SqL K G a (ns.map V.int) ∧ HOk P w G s.heap ∧ (∀ b u, G b = some u → ∃ o xs, u = .frz o (.lst xs)) ∧ (G a ≠ none → K.lookup a = none) := by
    cases look : K.lookup a with
    | some o =>
      have here := inK a o look
      rw [script] at here
      cases here
      exact ⟨fun _ => none, fun b z => absurd rfl z, .inr ⟨_, us.toArray, _, look, rfl, rfl, rfl, by rw [List.size_toArray, entries.length]; exact len, by simpa using vals_ints entries⟩, fun b u z => absurd (show (none : Option HO) = some u from z) (by simp), fun b u z => absurd (show (none : Option HO) = some u from z) (by simp), fun z => absurd rfl z⟩
    | none =>
      have only : ∀ b u, (if b = a then some (HO.frz { cls := .type "list", data := .seq us.toArray } (.lst (ns.map V.int))) else none) = some u → b = a ∧ u = .frz { cls := .type "list", data := .seq us.toArray } (.lst (ns.map V.int)) := fun b u z => by
        by_cases same : b = a
        · rw [if_pos same] at z
          exact ⟨same, (Option.some.inj z).symm⟩
        · rw [if_neg same] at z
          cases z
      refine ⟨fun b => if b = a then some (.frz { cls := .type "list", data := .seq us.toArray } (.lst (ns.map V.int))) else none, fun b z => ?_, .inl (.inr ⟨{ cls := .type "list", data := .seq us.toArray }, if_pos rfl⟩), fun b u z => ?_, fun b u z => ⟨_, _, (only b u z).2⟩, fun _ => rfl⟩
      · by_cases same : b = a
        · exact same
        · exact absurd (if_neg same) z
      · obtain ⟨rfl, rfl⟩ := only b u z
        exact ⟨script, by rw [List.length_map]; exact len, us, _, vals_ints entries, script⟩
  have hide : ∀ {b : Addr} {o : Obj}, s.heap.get? b = some o → G b = none → (hidT s.heap G).get? b = some o := fun there none => hidT_get there none
  have dicts : ∀ {b : Addr} {o : Obj} {es : Array DictEntry} {ep : Nat}, s.heap.get? b = some o → o.data = .dict es ep → G b = none := fun {b o es ep} there isD => by
    by_cases none : G b = none
    · exact none
    · have same := lone b none
      rw [same, script] at there
      cases there
      cases isD
  have spaces : ∀ {b : Addr} {m : Str → Option Value}, s.heap.Ns b m → (hidT s.heap G).Ns b m := fun {b m} ⟨o, es, ep, there, isD, rest⟩ => ⟨o, es, ep, hide there (dicts there isD), isD, rest⟩
  have inRoot : K.In (hidT s.heap G) := fun b o look => hide (inK b o look) (by
    by_cases none : G b = none
    · exact none
    · have same := lone b none
      rw [same] at none look
      rw [apart none] at look
      cases look)
  obtain ⟨lims, limNs, limNo⟩ := nolim
  have modOk : Mod K mg (hidT s.heap G) := ⟨inRoot, spaces glob, ⟨bt, spaces blt, boot⟩, ⟨lims, spaces limNs, limNo⟩⟩
  have env : Env0 P w K mg (hidT s.heap G) callerA [] s G := ⟨rfl, modOk, fun b o look => of_hidT look, Nat.le_of_eq (hidT_size _ _), trivial, fun b z => absurd (show b ∈ ([] : List Addr) from z) (by simp), okG, .of_eq gens⟩
  refine codeAny_mono (ask _ G inRoot (spaces glob) env seen) fun res t fin => ?_
  match res, fin with
  | .error _, fin => exact False.elim fin
  | .ok .next, fin => exact False.elim fin
  | .ok .brk, fin => exact False.elim fin
  | .ok .cont, fin => exact False.elim fin
  | .ok (.ret u), fin =>
    obtain ⟨v, G2, sameOs, bareG, unch, okG2, rel, isT⟩ := fin
    cases (show v = .bl true from isT)
    cases (show u = Value.bool true from rel)
    refine ⟨rfl, OldK.of_keep fun b o there => ?_, sameOs, bareG⟩
    cases gb : G b with
    | none => exact unch.keep b o there gb (fun z => absurd (show b ∈ ([] : List Addr) from z) (by simp)) (by simp)
    | some u =>
      obtain ⟨ob, xs, rfl⟩ := frozen b u gb
      have first := (okG b _ gb).1
      have later := (okG2 b _ (unch.frzs b ob _ gb)).1
      rw [there] at first
      cases first
      exact later
/-- in the place of a def's promise at every place: asked at the caller's -/
theorem walk_asked {l : PySem.W.OpenLaw} {n : Nat} {q : Program} {loose : List Str} {XP : (Str → Option Value) → Heap → Prop} {YP : World → Heap → Prop} {d : DefRec} {K : Params → PySem.W.Frag}
    (most : l.most = some n) (fits : n ≤ sizeLine) (plainArgs : d.params.defaults = []) (hY : ∀ (w : World) (h : Heap), YP w h → (K w.params).In h)
    (F : ∀ (w : World) (mg : Str → Option Value) (fa a : Addr) (s : Shared) (ns : List Int), (K w.params).In s.heap → s.heap.Ns mainGlobals mg → mg d.name = some (.ref fa) → ns.length ≤ n → Asked l.prog w (K w.params) mg fa a ns s) :
    PySem.W.WalkO q loose XP YP l.row.toRowW d [] (fun f vs => PySem.call f vs) := by
  refine Att.attach_call most plainArgs fun w s₀ s mg bt fa o pm cd doc a us ns Gr Yh _ _ _ named obj entries len gens => ?_
  have inK := hY w _ Yh
  exact asked_all inK Gr.T.g Gr.T.b Gr.T.builtins Gr.T.nolimit gens obj entries (Nat.le_trans len fits) (F w mg fa a s ns inK Gr.T.g named len)
end Own
namespace Own2
open PySem PySem.Spec PyProof.Rows L2
/-! repr of nested data, or of None -/
def rShown2 (K : PySem.W.Frag) : List V → Hp → VK → Prop := fun xs H Q => Own.rShown K xs H Q ∨ (xs = [.non] ∧ Q (.str "None") H)
variable {X : Cx}
theorem repr_shown2 (free : X.A.guards = some []) (room : X.A.units + 64 < cLine) : CallR X (.builtin "repr") (rShown2 X.K) := by
  intro pn s0 sl G ys ws R J rel told
  rcases told with told | ⟨rfl, fin⟩
  · exact Own.repr_shown free room pn s0 sl G ys ws R J rel told
  · obtain ⟨w1, rfl, hw1⟩ := vals1 rel
    cases hw1
    exact PySem.P.repr_of_none ⟨.str "None", G, J.tok _, ⟨_, rfl⟩, fin⟩
end Own2
/-! range(a, b) of whole numbers of any size, walked, and its list -/
namespace RgW
open PySem PySem.Spec PyProof.Rows L2
abbrev rgObj (lo hi : Int) (t u v : Tok) : Obj := { cls := .type "range", data := .fields #[.int lo t, .int hi u, .int 1 v] }
abbrev goer (lo hi : Int) : Obj := { cls := .type "longrange_iterator", data := .fields #[rawInt lo, rawInt (Builtin.Range.rangeSize lo hi 1), rawInt 1] }
theorem size_nat (lo hi : Int) : Builtin.Range.rangeSize lo hi 1 = ((hi - lo).toNat : Int) := by
  rw [rangeSize_one]
  split <;> omega
section
variable {P : Program} {w : World} {A : Around} {E : Value → Shared → Prop} {st : Shared}
theorem extend_long {R : Result → Shared → Prop} {rr : Addr} {lo hi : Int} {t u v : Tok} (calm : A.handled = none) (isr : IsRange st.heap rr lo hi 1 t u v) (great : Builtin.Range.small lo hi 1 = false) (few : (hi - lo).toNat ≤ 2 ^ 24)
    (D : Addr) (ans : Value) (cap : Nat) (here : st.heap.get? D = some { cls := .type "list", data := .seq #[] cap })
    (go : ∀ g tk acc c2, (∀ b o, b ≠ D → st.heap.get? b = some o → g.get? b = some o) → g.get? D = some { cls := .type "list", dict := none, data := .seq acc c2, slots := #[] } → ItemsOf (fun i x => ∃ k, x = .int (lo + i * 1) k) acc (hi - lo).toNat → R (.ok (.ret ans)) { st with heap := g, toks := tk }) :
    wpAny (model P w) A.in1 (Builtin.List.listExtendWith (.ref D) (.ref rr) ans)
      (fun fin t2 => match fin with | .done f => R (.ok f) t2 | .again c2 => c2.quiet = true ∧ codeAny (model P w) A c2 R t2) (fun e t2 => R (.error e) t2) st := by
  have unlike : D ≠ rr := fun e => by
    rw [e, isr] at here
    simp at here
  have below := Heap.lt_size here
  have off : D ≠ st.heap.objs.size := Nat.ne_of_lt below
  have off1 : D ∉ [st.heap.objs.size] := fun z => off (List.mem_singleton.mp z)
  have walk := (Walks.longrange (prog := P) (w := w) (A := A.in1) calm st.heap.objs.size lo 1 (hi - lo).toNat).toS
  have rest : ∀ (g : Heap) (c1 tk : Nat), IsLongIter g st.heap.objs.size (lo + ((0 : Nat) : Int) * 1) (((hi - lo).toNat : Int) - ((0 : Nat) : Int)) 1 → (∀ b o, b ≠ D → st.heap.get? b = some o → g.get? b = some o) →
      g.get? D = some { cls := .type "list", data := .seq #[] c1 } → codeAny (model P w) A (.builtin "list.extend.loop" ⟨[.ref D, .ref st.heap.objs.size, ans], []⟩) R { st with heap := g, toks := tk } := by
    intro g c1 tk at0 keep there
    refine codeAny_extend_loopS walk (by rw [sizeLine_eq]; omega) D off1 ans (hi - lo).toNat 0 _ #[] c1 rfl (Nat.zero_le _) at0 there (ItemsOf.nil _) fun t2 acc c2 mv there2 items => ?_
    rw [Moved.eq_with mv]
    refine go t2.heap t2.toks acc c2 (fun b o nb e => mv.heap b o (fun z => ?_) (keep b o nb e)) there2 items
    rcases List.mem_cons.mp z with q | q
    · exact nb q
    · exact Nat.lt_irrefl _ (by have := Heap.lt_size e; rwa [List.mem_singleton.mp q] at this)
  unfold Builtin.List.listExtendWith
  refine wpAny_bind (wpAny_typeOf (T := "range") ⟨_, isr, rfl⟩ ?_)
  have n1 : Builtin.List.listSameRef (.ref D) (.ref rr) = false := by simp [Builtin.List.listSameRef, unlike]
  have n2 : (Value.type "range" == Value.type "list") = false := by decide
  have n3 : (Value.type "range" == Value.type "tuple") = false := by decide
  simp only [n1, n2, n3, Bool.or_false, Bool.false_eq_true, if_false]
  refine wpAny_bind (wpAny_pyIter_longrange isr great ?_)
  refine wpAny_bind (wpAny_holding (wpAny_hint_range (n := (hi - lo).toNat) (Heap.get?_push_of_some _ isr) (size_nat lo hi) few ?_))
  have first : IsLongIter (st.heap.push (goer lo hi)) st.heap.objs.size (lo + ((0 : Nat) : Int) * 1) (((hi - lo).toNat : Int) - ((0 : Nat) : Int)) 1 := by
    show IsLongIter _ _ _ _ _
    have e1 : lo + ((0 : Nat) : Int) * 1 = lo := by simp
    have e2 : ((hi - lo).toNat : Int) - ((0 : Nat) : Int) = Builtin.Range.rangeSize lo hi 1 := by rw [size_nat]; omega
    rw [e1, e2]
    exact Heap.get?_push_size _ rfl
  have there1 := Heap.get?_push_of_some (goer lo hi) here
  refine wpAny_ite_split (fun _ => ?_) (fun _ => wpAny_pure ⟨plainId_quiet F.plain_extend_loop _, rest _ cap _ first (fun b o _ e => Heap.get?_push_of_some _ e) there1⟩)
  refine wpAny_bind (wpAny_rule (wpAny_bind ?_))
  show wpAny _ _ (updateSeq D (·.push .none) >>= fun _ => updateSeq D (·.pop)) _ _ _
  refine wpAny_bind (wpAny_updateSeq there1 rfl ?_)
  have there2 := Heap.get?_update_self (Obj.mapSeq (·.push Value.none)) there1 rfl
  refine wpAny_updateSeq (hz := by seq_fits) there2 rfl ?_
  have there3 := Heap.get?_update_self (Obj.mapSeq (·.pop)) there2 rfl
  refine wpAny_pure ⟨plainId_quiet F.plain_extend_loop _, rest _ _ _ ?_ (fun b o nb e => ?_) there3⟩
  · exact (Heap.get?_update_other _ _ off).trans ((Heap.get?_update_other _ _ off).trans first)
  · exact (Heap.get?_update_other _ _ nb.symm).trans ((Heap.get?_update_other _ _ nb.symm).trans (Heap.get?_push_of_some _ e))
theorem init_long {R : Result → Shared → Prop} {rr : Addr} {lo hi : Int} {t u v : Tok} (calm : A.handled = none) (isr : IsRange st.heap rr lo hi 1 t u v) (great : Builtin.Range.small lo hi 1 = false) (few : (hi - lo).toNat ≤ 2 ^ 24)
    (D : Addr) (here : st.heap.get? D = some { cls := .type "list", data := .seq #[] })
    (go : ∀ g tk acc c2, (∀ b o, b ≠ D → st.heap.get? b = some o → g.get? b = some o) → g.get? D = some { cls := .type "list", dict := none, data := .seq acc c2, slots := #[] } → ItemsOf (fun i x => ∃ k, x = .int (lo + i * 1) k) acc (hi - lo).toNat → R (.ok (.ret .none)) { st with heap := g, toks := tk }) :
    wpAny (model P w) A.in1 (Builtin.«list.__init__» ⟨[.ref D, .ref rr], []⟩)
      (fun fin t2 => match fin with | .done f => R (.ok f) t2 | .again c2 => c2.quiet = true ∧ codeAny (model P w) A c2 R t2) (fun e t2 => R (.error e) t2) st := by
  have unlike : rr ≠ D := fun e => by
    rw [← e, isr] at here
    simp at here
  show wpAny _ _ (do let old ← Builtin.List.listItems (.ref D); Builtin.List.listUpdate (.ref D) (fun _ => #[]); letGo old.toList.reverse; Builtin.List.listExtendWith (.ref D) (.ref rr) .none) _ _ st
  refine wpAny_bind ?_
  unfold Builtin.List.listItems
  refine wpAny_bind (wpAny_seqItems here rfl (wpAny_pure ?_))
  show wpAny _ _ (updateSeq D (fun _ => #[]) >>= fun _ => letGo (#[] : Array Value).toList.reverse >>= fun _ => Builtin.List.listExtendWith (.ref D) (.ref rr) .none) _ _ st
  refine wpAny_bind (wpAny_updateSeq here rfl ?_)
  have there := Heap.get?_update_self (Obj.mapSeq (fun _ => (#[] : Array Value))) here rfl
  have same : ∀ b o, b ≠ D → st.heap.get? b = some o → (st.heap.update D (Obj.mapSeq (fun _ => (#[] : Array Value)))).get? b = some o := fun b o nb e => (Heap.get?_update_other _ _ nb.symm).trans e
  exact wpAny_bind (wpAny_letGo (extend_long calm (same rr _ unlike isr) great few D .none _ there fun g tk acc c2 keep new items => go g tk acc c2 (fun b o nb e => keep b o nb (same b o nb e)) new items))
theorem list_long {W : Value → Shared → Prop} {rr : Addr} {lo hi : Int} {t u v : Tok} (calm : A.handled = none) (isr : IsRange st.heap rr lo hi 1 t u v) (great : Builtin.Range.small lo hi 1 = false) (few : (hi - lo).toNat ≤ 2 ^ 24)
    (go : ∀ g tk acc c2, (∀ b o, st.heap.get? b = some o → g.get? b = some o) → g.get? st.heap.objs.size = some { cls := .type "list", dict := none, data := .seq acc c2, slots := #[] } → ItemsOf (fun i x => ∃ k, x = .int (lo + i * 1) k) acc (hi - lo).toNat → W (.ref st.heap.objs.size) { st with heap := g, toks := tk }) :
    wpAny (model P w) A (call (.type "list") [.ref rr]) W E st := by
  refine callType_codes (Q₁ := fun ob t1 => ob = .ref st.heap.objs.size ∧ t1 = { st with heap := st.heap.push { cls := .type "list", data := .seq #[] } }) F.called_list (F.typeCall_list_1 _) F.entry_list_init (code_list_new _ ⟨rfl, rfl⟩) fun ob t1 got => ?_
  obtain ⟨rfl, rfl⟩ := got
  have here : (st.heap.push { cls := .type "list", data := .seq #[] }).get? st.heap.objs.size = some { cls := .type "list", data := .seq #[] } := Heap.get?_push_size _ rfl
  exact ⟨⟨_, here, rfl⟩, F.args_list_init_2 _ _, init_long (A := A.in1) calm (Heap.get?_push_of_some _ isr) great few _ here fun g tk acc c2 keep new items => ⟨rfl, go g tk acc c2 (fun b o e => keep b o (Nat.ne_of_lt (Heap.lt_size e)) (Heap.get?_push_of_some _ e)) new items⟩⟩
end
theorem turn_long {P : Program} {w : World} {K : PySem.W.Frag} {tg : Expr} (it : Addr) (lo : Int) (n : Nat) : Turn P w K tg (Itr lo n) [it] it (fun i g => IsLongIter g it (lo + (i : Nat) * 1) ((n : Int) - (i : Nat)) 1) where
  mem := List.mem_singleton_self _
  obj := fun i g at_ b hb => by
    rw [List.mem_singleton.mp hb]
    exact ⟨_, at_, fun v z => by
      have q : Data.fields _ = Data.cell v := z
      cases q⟩
  keep := fun i g g2 at_ same => same it (List.mem_singleton_self _) _ at_
  item := by
    intro X eP ew eK calm i pins s σ H E I fp at_ more
    subst eP ew eK
    obtain ⟨f0, f1, f2, f3, f4, f5⟩ := fp it (List.mem_singleton_self _)
    refine (Walks.longrange (prog := X.prog) (w := X.w) (I.ok.hd calm) it lo 1 n).item i s _ _ more at_ fun x g tk isx at2 same => ?_
    obtain ⟨k, rfl⟩ := isx
    have J : Inv X pins σ H { s with heap := g, toks := tk } := I.turned (fun b o nb e => same b o (by simpa using nb) e) f0 f1 f3 f4 f5
    exact ⟨_, rfl, go_of (s := { s with heap := g, toks := tk }) (n := "longrange_iterator") at2 rfl rfl (by decide) ⟨.int (lo + i), H, J, ⟨k, by rw [Int.mul_one]⟩, ⟨rfl, rfl⟩, at2, fun b hb => (fp b hb).1⟩⟩
  done := by
    intro X eP ew eK calm i pins s σ H E I fp at_ over
    subst eP ew eK
    obtain ⟨f0, f1, f2, f3, f4, f5⟩ := fp it (List.mem_singleton_self _)
    exact wpAny_pyNext_long_end (I.ok.hd calm) at_ (by have : n ≤ i := over; omega) fun g same => ⟨rfl, I.turned (t' := s.toks) (fun b o nb e => same b o nb e) f0 f1 f3 f4 f5⟩
  self := fun _ _ _ _ _ at_ got => wpAny_pyIter_longiter at_ got
section
variable {X : Cx} {tg : Expr}
theorem walk_any {pins : List (Addr × Obj)} {σ : L2.St} {H : Hp} {s : Shared} {R : It → Hp → Prop} {E : Value → Shared → Prop} {lo hi : Int} {t u v : Tok} {tk : Nat} (I : Inv X pins σ H s) (q : R (Itr lo (hi - lo).toNat) H) :
    wpAny (model X.prog X.w) X.A (pyIter (.ref s.heap.objs.size)) (PIE X pins σ tg R) E { s with heap := s.heap.push (rgObj lo hi t u v), toks := tk } := by
  have J : Inv X pins σ H { s with heap := s.heap.push (rgObj lo hi t u v), toks := tk } := I.kept fun b o e => Heap.get?_push_of_some _ e
  have own : ∀ b ∈ [(s.heap.push (rgObj lo hi t u v)).objs.size], FpOk X pins H b := fun b hb => by
    rw [List.mem_singleton.mp hb]
    exact J.fpOk (Nat.le_refl _) (J.hok.fresh (Nat.le_refl _))
  have e1 : lo + ((0 : Nat) : Int) * 1 = lo := by simp
  have e2 : (((hi - lo).toNat : Nat) : Int) - ((0 : Nat) : Int) = Builtin.Range.rangeSize lo hi 1 := by rw [size_nat]; omega
  by_cases little : Builtin.Range.small lo hi 1 = true
  · refine wpAny_pyIter_range (IsRange.new ..) little ⟨_, _, _, _, H, rfl, J.kept (t' := tk) fun b o e => Heap.get?_push_of_some _ e, turn_range _ lo (hi - lo).toNat, ?_, own, q⟩
    show IsRangeIter _ _ (lo + ((0 : Nat) : Int) * 1) ((((hi - lo).toNat : Nat) : Int) - ((0 : Nat) : Int)) 1
    rw [e1, e2]
    exact Heap.get?_push_size _ rfl
  · refine wpAny_pyIter_longrange (IsRange.new ..) (Bool.eq_false_iff.mpr little) ⟨_, _, _, _, H, rfl, J.kept (t' := tk) fun b o e => Heap.get?_push_of_some _ e, turn_long _ lo (hi - lo).toNat, ?_, own, q⟩
    show IsLongIter _ _ (lo + ((0 : Nat) : Int) * 1) ((((hi - lo).toNat : Nat) : Int) - ((0 : Nat) : Int)) 1
    rw [e1, e2]
    exact Heap.get?_push_size _ rfl
def iRngW (ta : TA) : TI := fun σ H R => ta σ H fun vs H1 => ∃ i j : Int, vs = [.int i, .int j] ∧ R (Itr i (j - i).toNat) H1
theorem pi_rangeW {a b : Expr} {ta : TA} {p pos : Pos} (hg : Gl X "range") (hm : X.mg "range" = none) (ha : PA X [a, b] ta) (hs : starEach [a, b] X.env = [(false, eval a X.env), (false, eval b X.env)] := by rfl) (hs2 : starEach [b] X.env = [(false, eval b X.env)] := by rfl) :
    PI X tg (.Call (.Name "range" p) [a, b] [] pos) (iRngW ta) := by
  refine ⟨fun pins s σ H R I want => ?_⟩
  refine Call_ (ld_blt I hg hm boot_range (PyProof.Rows.callWith_type1 (thn (ha.run pos pins s σ H _ I want) fun us s1 ⟨vs, H1, I1, r1, i, j, e, q⟩ => ?_) (by rw [hs, hs2]) (by rw [hs2]; rfl)))
  subst e
  cases r1 with
  | cons k1 rest =>
    cases rest with
    | cons k2 none_ =>
      cases none_
      obtain ⟨tok1, rfl⟩ := k1
      obtain ⟨tok2, rfl⟩ := k2
      exact call_range_2 (walk_any I1 q)
variable {e : Expr} {te : L2.St → Hp → (Int → Int → Hp → Prop) → Prop}
def tLstRgW (te : L2.St → Hp → (Int → Int → Hp → Prop) → Prop) : TE := fun σ H Q => te σ H fun a b H1 => (b - a).toNat ≤ 2 ^ 24 ∧ ∀ q, H1 q = none → Q (.ref q) (upd H1 q (.lst (rgV a b)))
theorem pe_listRgW {p pos : Pos} (hc : X.calm = true) (hg : Gl X "list") (hm : X.mg "list" = none) (he : PRg X e te) (na : starEach [e] X.env = (false, eval e X.env) :: starEach [] X.env := by rfl) : PE X (.Call (.Name "list" p) [e] [] pos) (tLstRgW te) := by
  refine ⟨fun pins s σ H Q I want => ?_⟩
  refine Call_ (ld_blt I hg hm boot_list (PyProof.Rows.callWith_type1 (args_cons (thn (he pins s σ H _ I want) fun x s1 ⟨r, a, b, t, u, v, H1, ex, isr, I1, few, q⟩ => args_nil ?_) na) na))
  subst ex
  have fin : ∀ (g : Heap) (tk : Nat) (acc : Array Value) (c2 : Nat), (∀ b o, s1.heap.get? b = some o → g.get? b = some o) → g.get? s1.heap.objs.size = some { cls := .type "list", dict := none, data := .seq acc c2, slots := #[] } → ItemsOf (fun i x => ∃ k, x = .int (a + i * 1) k) acc (b - a).toNat → EP X pins σ Q (.ref s1.heap.objs.size) { s1 with heap := g, toks := tk } := fun g tk acc c2 keep new items =>
    ⟨.ref s1.heap.objs.size, upd H1 s1.heap.objs.size (.lst (rgV a b)), I1.laid keep (Nat.le_refl _) (show ObjOk X.prog X.w _ _ _ (.lst (rgV a b)) from ⟨by rw [rgV_length, sizeLine_eq]; omega, acc.toList, c2, vals_rg items, by rw [Array.toArray_toList]; exact new⟩), rfl, q _ (I1.hok.fresh (Nat.le_refl _))⟩
  by_cases little : Builtin.Range.small a b 1 = true
  · exact call_list_range (n := (b - a).toNat) (I1.ok.hd hc) isr little (size_nat a b) few fin
  · exact list_long (I1.ok.hd hc) isr (Bool.eq_false_iff.mpr little) few fin
end
end RgW
/-! places that hang together by ends: by cuts, by groups joined, by going round -/
namespace Gr
abbrev Edges := List (Int × Int)
/-- no cut that leaves all ends whole parts the two -/
def Same (es : Edges) (a b : Int) : Prop := ∀ S : Int → Bool, (∀ e ∈ es, S e.1 = S e.2) → S a = S b
theorem Same.refl {es : Edges} (a : Int) : Same es a a := fun _ _ => rfl
theorem Same.symm {es : Edges} {a b : Int} (h : Same es a b) : Same es b a := fun S hS => (h S hS).symm
theorem Same.trans {es : Edges} {a b c : Int} (h : Same es a b) (g : Same es b c) : Same es a c := fun S hS => (h S hS).trans (g S hS)
theorem Same.edge {es : Edges} {e : Int × Int} (h : e ∈ es) : Same es e.1 e.2 := fun S hS => hS e h
theorem Same.mono {es fs : Edges} {a b : Int} (h : Same es a b) (g : ∀ e ∈ es, e ∈ fs) : Same fs a b := fun S hS => h S fun e he => hS e (g e he)
/-- the group of each place, once the groups of two are one -/
def join (g : Int → Int) (a b : Int) : Int → Int := fun p => if g p = g b then g a else g p
def joins (es : Edges) (g : Int → Int) : Int → Int := es.foldl (fun g e => join g e.1 e.2) g
theorem joins_snoc (es : Edges) (e : Int × Int) (g : Int → Int) : joins (es ++ [e]) g = join (joins es g) e.1 e.2 := by
  unfold joins
  rw [List.foldl_append]
  rfl
theorem joins_mem {es : Edges} (P : Int → Prop) {g : Int → Int} (h : ∀ p, P p → P (g p)) (he : ∀ e ∈ es, P e.1) : ∀ p, P p → P (joins es g p) := by
  induction es generalizing g with
  | nil => exact h
  | cons e es ih =>
    refine ih (g := join g e.1 e.2) (fun p hp => ?_) fun f hf => he f (.tail _ hf)
    unfold join
    split
    · exact h _ (he e (.head _))
    · exact h p hp
/-- one group just where no cut parts them: to be gone through from the last end on -/
theorem joins_same : ∀ (n : Nat) (es : Edges), es.length = n → ∀ p q, (joins es id p = joins es id q ↔ Same es p q)
  | 0, es, hl, p, q => by
    rw [List.length_eq_zero_iff.mp hl]
    refine ⟨fun h => ?_, fun h => ?_⟩
    · have h : p = q := h
      rw [h]
      exact .refl q
    · have := h (fun x => decide (x = p)) (fun e he => by simp at he)
      show p = q
      have : decide (p = p) = decide (q = p) := this
      rw [decide_eq_true rfl] at this
      exact (of_decide_eq_true this.symm).symm
  | n + 1, es, hl, p, q => by
    obtain ⟨fs, e, rfl⟩ : ∃ fs e, es = fs ++ [e] := by
      have hn : es ≠ [] := fun z => by rw [z] at hl; simp at hl
      exact ⟨es.dropLast, es.getLast hn, (List.dropLast_concat_getLast hn).symm⟩
    have ih := joins_same n fs (by rw [List.length_append] at hl; simp at hl; omega)
    have up : ∀ {a b}, Same fs a b → Same (fs ++ [e]) a b := fun h => h.mono fun e he => List.mem_append_left _ he
    have ed : Same (fs ++ [e]) e.1 e.2 := .edge (List.mem_append_right _ (List.mem_singleton_self _))
    rw [joins_snoc]
    have key : ∀ p q, joins fs id p = joins fs id q → join (joins fs id) e.1 e.2 p = join (joins fs id) e.1 e.2 q := fun p q h => by
      unfold join
      rw [h]
    refine ⟨fun h => ?_, fun h => ?_⟩
    · have side : ∀ p, Same (fs ++ [e]) p (if joins fs id p = joins fs id e.2 then e.1 else p) := fun p => by
        split
        · exact (up ((ih p e.2).mp ‹_›)).trans ed.symm
        · exact .refl p
      have lab : ∀ p, join (joins fs id) e.1 e.2 p = joins fs id (if joins fs id p = joins fs id e.2 then e.1 else p) := fun p => by
        unfold join
        split <;> rfl
      rw [lab, lab] at h
      exact ((side p).trans (up ((ih _ _).mp h))).trans (side q).symm
    · have := h (fun x => decide (join (joins fs id) e.1 e.2 x = join (joins fs id) e.1 e.2 p)) (fun f hf => by
        have : join (joins fs id) e.1 e.2 f.1 = join (joins fs id) e.1 e.2 f.2 := by
          rcases List.mem_append.mp hf with h | h
          · exact key _ _ ((ih _ _).mpr (.edge h))
          · rw [List.mem_singleton.mp h]
            unfold join
            rw [if_pos rfl]
            split <;> rfl
        simp only [this])
      simp only [decide_true] at this
      exact (of_decide_eq_true this.symm).symm
/-- at least so many groups are left: places told apart by their groups -/
theorem apart {m : Nat} : ∀ (n : Nat) (es : Edges), es.length = n → ∀ R0 : List Int, R0.Nodup → ∃ R : List Int, R.Nodup ∧ (∀ x ∈ R, x ∈ R0) ∧ R0.length ≤ R.length + n ∧ ∀ x ∈ R, ∀ y ∈ R, joins es id x = joins es id y → x = y
  | 0, es, hl, R0, h0 => by
    rw [List.length_eq_zero_iff.mp hl]
    exact ⟨R0, h0, fun _ h => h, Nat.le_refl _, fun x _ y _ h => h⟩
  | n + 1, es, hl, R0, h0 => by
    obtain ⟨fs, e, rfl⟩ : ∃ fs e, es = fs ++ [e] := by
      have hn : es ≠ [] := fun z => by rw [z] at hl; simp at hl
      exact ⟨es.dropLast, es.getLast hn, (List.dropLast_concat_getLast hn).symm⟩
    obtain ⟨R, h1, h2, h3, h4⟩ := apart (m := m) n fs (by rw [List.length_append] at hl; simp at hl; omega) R0 h0
    have hd : ∀ x ∈ R, joins fs id x = joins fs id e.2 → R.length ≤ (R.filter fun y => joins fs id y != joins fs id e.2).length + 1 := fun x hx hg => by
      have : ∀ (L : List Int), L.Nodup → (∀ y ∈ L, joins fs id y = joins fs id e.2 → y = x) → L.length ≤ (L.filter fun y => joins fs id y != joins fs id e.2).length + 1 := by
        intro L
        induction L with
        | nil => intro _ _; exact Nat.zero_le _
        | cons y L ih =>
          intro nd hy
          have nd2 := List.nodup_cons.mp nd
          by_cases c : joins fs id y = joins fs id e.2
          · have yx := hy y (.head _) c
            have e1 : L.filter (fun y => joins fs id y != joins fs id e.2) = L := List.filter_eq_self.mpr fun z hz => bne_iff_ne.mpr fun q => nd2.1 (by rw [yx, ← hy z (.tail _ hz) q]; exact hz)
            rw [List.filter_cons_of_neg (by simpa using c), e1]
            exact Nat.le_refl _
          · rw [List.filter_cons_of_pos (by simpa using c), List.length_cons, List.length_cons]
            have := ih nd2.2 fun z hz => hy z (.tail _ hz)
            omega
      exact this R h1 fun y hy q => h4 y hy x hx (q.trans hg.symm)
    refine ⟨R.filter fun y => joins fs id y != joins fs id e.2, h1.filter _, fun x hx => h2 x (List.mem_filter.mp hx).1, ?_, fun x hx y hy h => ?_⟩
    · by_cases c : ∃ x ∈ R, joins fs id x = joins fs id e.2
      · obtain ⟨x, hx, hg⟩ := c
        have := hd x hx hg
        omega
      · have e1 : R.filter (fun y => joins fs id y != joins fs id e.2) = R := List.filter_eq_self.mpr fun z hz => bne_iff_ne.mpr fun q => c ⟨z, hz, q⟩
        rw [e1]
        omega
    · obtain ⟨x1, x2⟩ := List.mem_filter.mp hx
      obtain ⟨y1, y2⟩ := List.mem_filter.mp hy
      rw [joins_snoc] at h
      unfold join at h
      rw [if_neg (bne_iff_ne.mp x2), if_neg (bne_iff_ne.mp y2)] at h
      exact h4 x x1 y y1 h
/-- where all places of a list hang together there are at least as many ends, less one -/
theorem ends_many {es : Edges} {R0 : List Int} (nd : R0.Nodup) (h : ∀ a ∈ R0, ∀ b ∈ R0, Same es a b) : R0.length ≤ es.length + 1 := by
  obtain ⟨R, h1, h2, h3, h4⟩ := apart (m := 0) es.length es rfl R0 nd
  have : R.length ≤ 1 := by
    match R, h1, h2, h4 with
    | [], _, _, _ => exact Nat.zero_le _
    | [_], _, _, _ => exact Nat.le_refl _
    | x :: y :: l, h1, h2, h4 =>
      have := h4 x (.head _) y (.tail _ (.head _)) ((joins_same es.length es rfl x y).mpr (h x (h2 x (.head _)) y (h2 y (.tail _ (.head _)))))
      rw [this] at h1
      exact absurd (List.mem_cons_self) (List.nodup_cons.mp h1).1
  omega
/-- in a tree no end closes a round with those ahead of it -/
theorem no_round {es : Edges} {R0 : List Int} {i : Nat} {e : Int × Int} (nd : R0.Nodup) (h : ∀ a ∈ R0, ∀ b ∈ R0, Same es a b) (hl : es.length + 1 = R0.length) (hi : es[i]? = some e) : ¬ Same (es.take i) e.1 e.2 := fun z => by
  have hlt := (List.getElem?_eq_some_iff.mp hi).1
  have all : ∀ a b, Same es a b → Same (es.take i ++ es.drop (i + 1)) a b := fun a b g S hS => g S fun f hf => by
    have hf2 : f ∈ es.take i ++ e :: es.drop (i + 1) := by
      have : es.take i ++ e :: es.drop (i + 1) = es := by
        rw [← (List.getElem?_eq_some_iff.mp hi).2, ← List.drop_eq_getElem_cons hlt, List.take_append_drop]
      rw [this]
      exact hf
    rcases List.mem_append.mp hf2 with q | q
    · exact hS f (List.mem_append_left _ q)
    · rcases List.mem_cons.mp q with rfl | q
      · exact z S fun f hf => hS f (List.mem_append_left _ hf)
      · exact hS f (List.mem_append_right _ q)
  have := ends_many (es := es.take i ++ es.drop (i + 1)) nd fun a ha b hb => all a b (h a ha b hb)
  rw [List.length_append, List.length_take, List.length_drop] at this
  omega
/-! ### going round -/
/-- what a look at an end adds to what is found -/
def look (e : Int × Int) (F : List Int) : List Int :=
  let G := if F.contains e.1 && !F.contains e.2 then F ++ [e.2] else F
  if G.contains e.2 && !G.contains e.1 then G ++ [e.1] else G
def turn (es : Edges) (F : List Int) : List Int := es.foldl (fun F e => look e F) F
def turns (es : Edges) (F : List Int) : Nat → List Int
  | 0 => F
  | n + 1 => turn es (turns es F n)
theorem look_sub {e : Int × Int} {F : List Int} {x : Int} (h : x ∈ F) : x ∈ look e F := by
  unfold look
  by_cases c1 : e.1 ∈ F <;> by_cases c2 : e.2 ∈ F <;> simp [c1, c2, h]
theorem look_both {e : Int × Int} {F : List Int} (h : e.1 ∈ F ∨ e.2 ∈ F) : e.1 ∈ look e F ∧ e.2 ∈ look e F := by
  unfold look
  by_cases c1 : e.1 ∈ F <;> by_cases c2 : e.2 ∈ F
  · simp [c1, c2]
  · simp [c1, c2]
  · simp [c1, c2]
  · exact absurd h (by simp [c1, c2])
theorem look_mem {e : Int × Int} {F : List Int} {x : Int} (h : x ∈ look e F) : x ∈ F ∨ (x = e.2 ∧ e.1 ∈ F) ∨ (x = e.1 ∧ e.2 ∈ F) := by
  unfold look at h
  by_cases c1 : e.1 ∈ F <;> by_cases c2 : e.2 ∈ F
  · simp [c1, c2] at h
    exact .inl h
  · simp [c1, c2] at h
    rcases h with h | h
    · exact .inl h
    · exact .inr (.inl ⟨h, c1⟩)
  · simp [c1, c2] at h
    rcases h with h | h
    · exact .inl h
    · exact .inr (.inr ⟨h, c2⟩)
  · simp [c1, c2] at h
    exact .inl h
theorem turn_sub {x : Int} : ∀ {es : Edges} {F : List Int}, x ∈ F → x ∈ turn es F
  | [], _, h => h
  | e :: es, F, h => turn_sub (es := es) (F := look e F) (look_sub h)
theorem turn_both {e : Int × Int} : ∀ {es : Edges} {F : List Int}, e ∈ es → (e.1 ∈ F ∨ e.2 ∈ F) → e.1 ∈ turn es F ∧ e.2 ∈ turn es F
  | f :: es, F, h, g => by
    rcases List.mem_cons.mp h with rfl | h
    · have := look_both g
      exact ⟨turn_sub (es := es) this.1, turn_sub (es := es) this.2⟩
    · exact turn_both (es := es) (F := look f F) h (g.imp look_sub look_sub)
theorem turn_same {p : Int} {fs : Edges} : ∀ {es : Edges} {F : List Int}, (∀ e ∈ es, e ∈ fs) → (∀ x ∈ F, Same fs p x) → ∀ x ∈ turn es F, Same fs p x
  | [], _, _, h => h
  | e :: es, F, hs, h => turn_same (es := es) (F := look e F) (fun f hf => hs f (.tail _ hf)) fun x hx => by
    rcases look_mem hx with q | ⟨rfl, q⟩ | ⟨rfl, q⟩
    · exact h x q
    · exact (h _ q).trans (.edge (hs e (.head _)))
    · exact (h _ q).trans (Same.edge (hs e (.head _))).symm
theorem turns_same {p : Int} {es : Edges} : ∀ n, ∀ x ∈ turns es [p] n, Same es p x
  | 0, x, hx => by
    rw [List.mem_singleton.mp hx]
    exact .refl p
  | n + 1, x, hx => turn_same (es := es) (F := turns es [p] n) (fun _ h => h) (turns_same n) x hx
def Closed (es : Edges) (F : List Int) : Prop := ∀ e ∈ es, (e.1 ∈ F ↔ e.2 ∈ F)
theorem look_closed {e : Int × Int} {F : List Int} (h : e.1 ∈ F ↔ e.2 ∈ F) : look e F = F := by
  unfold look
  by_cases c : e.1 ∈ F
  · have := h.mp c
    simp [c, this]
  · have : ¬ e.2 ∈ F := fun z => c (h.mpr z)
    simp [c, this]
theorem turn_closed : ∀ {es : Edges} {F : List Int}, Closed es F → turn es F = F
  | [], _, _ => rfl
  | e :: es, F, h => by
    show turn es (look e F) = F
    rw [look_closed (h e (.head _))]
    exact turn_closed fun f hf => h f (.tail _ hf)
def un (F : List Int) (e : Int × Int) : Bool := !(F.contains e.1 && F.contains e.2)
def unused (es : Edges) (F : List Int) : Nat := (es.filter (un F)).length
theorem neg_ok {F : List Int} {f : Int × Int} (c : ¬ (f.1 ∈ F ∧ f.2 ∈ F)) : un F f = true := by
  unfold un
  cases h : (F.contains f.1 && F.contains f.2) with
  | false => rfl
  | true => exact absurd (by simpa using h) c
theorem neg_no {F : List Int} {f : Int × Int} (c : f.1 ∈ F ∧ f.2 ∈ F) : ¬ un F f = true := by simp [un, c.1, c.2]
theorem unused_le {fs : Edges} {F G : List Int} (h : ∀ x ∈ F, x ∈ G) : unused fs G ≤ unused fs F := by
  unfold unused
  refine List.Sublist.length_le ?_
  induction fs with
  | nil => exact .slnil
  | cons f fs ih =>
    by_cases c : f.1 ∈ F ∧ f.2 ∈ F
    · rw [List.filter_cons_of_neg (neg_no ⟨h _ c.1, h _ c.2⟩), List.filter_cons_of_neg (neg_no c)]
      exact ih
    · by_cases d : f.1 ∈ G ∧ f.2 ∈ G
      · rw [List.filter_cons_of_neg (neg_no d)]
        exact .trans ih (by rw [List.filter_cons_of_pos (neg_ok c)]; exact List.sublist_cons_self _ _)
      · rw [List.filter_cons_of_pos (neg_ok d), List.filter_cons_of_pos (neg_ok c)]
        exact ih.cons₂ _
theorem unused_lt {F G : List Int} {e : Int × Int} (h : ∀ x ∈ F, x ∈ G) (h1 : ¬ (e.1 ∈ F ∧ e.2 ∈ F)) (h2 : e.1 ∈ G ∧ e.2 ∈ G) : ∀ {fs : Edges}, e ∈ fs → unused fs G < unused fs F
  | f :: fs, he => by
    rcases List.mem_cons.mp he with rfl | he
    · have := unused_le (fs := fs) h
      unfold unused at this ⊢
      rw [List.filter_cons_of_neg (neg_no h2), List.filter_cons_of_pos (neg_ok h1), List.length_cons]
      omega
    · have ih := unused_lt h h1 h2 he
      unfold unused at ih ⊢
      by_cases c : f.1 ∈ F ∧ f.2 ∈ F
      · have a := h _ c.1
        have b := h _ c.2
        rw [List.filter_cons_of_neg (neg_no ⟨a, b⟩), List.filter_cons_of_neg (neg_no c)]
        exact ih
      · by_cases d : f.1 ∈ G ∧ f.2 ∈ G
        · rw [List.filter_cons_of_neg (neg_no d), List.filter_cons_of_pos (neg_ok c), List.length_cons]
          omega
        · rw [List.filter_cons_of_pos (neg_ok d), List.filter_cons_of_pos (neg_ok c), List.length_cons, List.length_cons]
          omega
theorem turns_closed {es : Edges} {F : List Int} : ∀ n, Closed es (turns es F n) ∨ unused es (turns es F n) + n ≤ es.length
  | 0 => .inr (by
    show (es.filter _).length + 0 ≤ es.length
    exact List.length_filter_le _ _)
  | n + 1 => by
    rcases turns_closed (es := es) (F := F) n with h | h
    · left
      show Closed es (turn es (turns es F n))
      rw [turn_closed h]
      exact h
    · by_cases c : Closed es (turns es F n)
      · left
        show Closed es (turn es (turns es F n))
        rw [turn_closed c]
        exact c
      · right
        have ⟨e, he⟩ := Classical.not_forall.mp c
        obtain ⟨he, hne⟩ := Classical.not_imp.mp he
        have h1 : ¬ (e.1 ∈ turns es F n ∧ e.2 ∈ turns es F n) := fun z => hne ⟨fun _ => z.2, fun _ => z.1⟩
        have h0 : e.1 ∈ turns es F n ∨ e.2 ∈ turns es F n := by
          apply Classical.byContradiction
          intro z
          exact hne ⟨fun q => absurd (.inl q) z, fun q => absurd (.inr q) z⟩
        have := unused_lt (G := turn es (turns es F n)) (fun x hx => turn_sub hx) h1 (turn_both he h0) he
        show unused es (turn es (turns es F n)) + (n + 1) ≤ es.length
        omega
/-- what the law finds by going round as often as there are ends -/
theorem turns_all {es : Edges} {p x : Int} : x ∈ turns es [p] es.length ↔ Same es p x := by
  refine ⟨turns_same _ x, fun h => ?_⟩
  have hp : ∀ n, p ∈ turns es [p] n := fun n => by
    induction n with
    | zero => exact List.mem_singleton_self _
    | succ n ih => exact turn_sub ih
  have hc : Closed es (turns es [p] es.length) := by
    rcases turns_closed (es := es) (F := [p]) es.length with h | h
    · exact h
    · intro e he
      have z : unused es (turns es [p] es.length) = 0 := by omega
      unfold unused at z
      have := List.filter_eq_nil_iff.mp (List.length_eq_zero_iff.mp z) e he
      simp [un] at this
      exact ⟨fun _ => this.2, fun _ => this.1⟩
  have := h (fun y => decide (y ∈ turns es [p] es.length)) fun e he => by
    have := hc e he
    simp only [this]
  simp only [hp, decide_true] at this
  exact of_decide_eq_true this.symm
end Gr
namespace Gr
def add (F : List Int) (a b : Int) : List Int := if F.contains a && !F.contains b then F ++ [b] else F
theorem look_add (e : Int × Int) (F : List Int) : look e F = add (add F e.1 e.2) e.2 e.1 := rfl
theorem add_len {F : List Int} {a b : Int} : (add F a b).length ≤ F.length + 1 := by
  unfold add
  split
  · rw [List.length_append, List.length_singleton]
    omega
  · omega
theorem turn_len : ∀ {es : Edges} {F : List Int}, (turn es F).length ≤ F.length + 2 * es.length
  | [], _ => Nat.le_refl _
  | e :: es, F => by
    have h1 := turn_len (es := es) (F := look e F)
    have h2 : (look e F).length ≤ F.length + 2 := by
      rw [look_add]
      exact Nat.le_trans add_len (Nat.add_le_add_right add_len 1)
    show (turn es (look e F)).length ≤ _
    rw [List.length_cons]
    omega
theorem turns_len {es : Edges} {F : List Int} : ∀ n, (turns es F n).length ≤ F.length + n * (2 * es.length)
  | 0 => by rw [Nat.zero_mul]; exact Nat.le_refl _
  | n + 1 => by
    have h1 := turns_len (es := es) (F := F) n
    have h2 := turn_len (es := es) (F := turns es F n)
    show (turn es (turns es F n)).length ≤ _
    rw [Nat.add_mul, Nat.one_mul]
    omega
end Gr
/-! stretches in an order are unimodular -/
namespace Tu
open Dt
def upto (rs : List Nat) (o : Nat → Nat) (x : Nat → Int) (t : Nat) : Int := (rs.map fun c => if o c < t then x c else 0).sum
theorem upto_step : ∀ {rs : List Nat} {o : Nat → Nat} {x : Nat → Int} {t : Nat}, rs.Nodup → (∀ a ∈ rs, ∀ b ∈ rs, o a = o b → a = b) → (∀ c ∈ rs, o c = t → upto rs o x (t + 1) = upto rs o x t + x c) ∧ ((∀ c ∈ rs, o c ≠ t) → upto rs o x (t + 1) = upto rs o x t)
  | [], _, _, _, _, _ => ⟨fun c h => (nomatch h), fun _ => rfl⟩
  | a :: rs, o, x, t, nd, inj => by
    have nd' := List.nodup_cons.mp nd
    have ih := upto_step (rs := rs) (o := o) (x := x) (t := t) nd'.2 fun p hp q hq => inj p (.tail _ hp) q (.tail _ hq)
    have un : ∀ s, upto (a :: rs) o x s = (if o a < s then x a else 0) + upto rs o x s := fun s => by
      unfold upto
      rw [List.map_cons, List.sum_cons]
    constructor
    · intro c hc e
      rw [un, un]
      rcases List.mem_cons.mp hc with rfl | h
      · rw [ih.2 fun q hq z => nd'.1 (inj c (.head _) q (.tail _ hq) (by rw [e, z]) ▸ hq), if_pos (by omega), if_neg (by omega)]
        omega
      · have ne : o a ≠ t := fun z => nd'.1 (inj a (.head _) c (.tail _ h) (by rw [e, z]) ▸ h)
        rw [ih.1 c h e]
        by_cases l : o a < t
        · rw [if_pos (by omega), if_pos l]
          omega
        · rw [if_neg (by omega), if_neg l]
          omega
    · intro n
      have na := n a (.head _)
      rw [un, un, ih.2 fun c hc => n c (.tail _ hc)]
      by_cases l : o a < t
      · rw [if_pos (by omega), if_pos l]
      · rw [if_neg (by omega), if_neg l]
theorem upto_zero (rs : List Nat) (o : Nat → Nat) (x : Nat → Int) : upto rs o x 0 = 0 := by
  unfold upto
  induction rs with
  | nil => rfl
  | cons a rs ih => rw [List.map_cons, List.sum_cons, ih, if_neg (Nat.not_lt_zero _)]; rfl
theorem upto_part {rs : List Nat} {o : Nat → Nat} {x : Nat → Int} {s e : Nat} (h : s ≤ e) : (rs.map fun c => x c * (if s ≤ o c ∧ o c < e then 1 else 0)).sum = upto rs o x e - upto rs o x s := by
  unfold upto
  induction rs with
  | nil => rfl
  | cons a rs ih =>
    rw [List.map_cons, List.sum_cons, List.map_cons, List.sum_cons, List.map_cons, List.sum_cons, ih]
    by_cases h1 : s ≤ o a
    · by_cases h2 : o a < e
      · rw [if_pos ⟨h1, h2⟩, if_pos h2, if_neg (by omega)]
        omega
      · rw [if_neg (fun z => h2 z.2), if_neg h2, if_neg (by omega)]
        omega
    · rw [if_neg (fun z => h1 z.1), if_pos (by omega), if_pos (by omega)]
      omega
/-- rows in an order, each column a stretch of them -/
theorem stretch_tu {o : Nat → Nat} {s e : Nat → Nat} {P : Nat → Prop} {w : Nat} (inj : ∀ a b, P a → P b → o a = o b → a = b) (h : ∀ k, k < w → s k ≤ e k) : TU (fun c k => if s k ≤ o c ∧ o c < e k then 1 else 0) P (· < w) := by
  refine signs_tu fun rs _ u hP => ?_
  have nd := up_nodup u
  have ij : ∀ a ∈ rs, ∀ b ∈ rs, o a = o b → a = b := fun a ha b hb => inj a b (hP a ha) (hP b hb)
  have st := fun (x : Nat → Int) t => upto_step (x := x) (t := t) nd ij
  let N : Nat → Int := upto rs o fun _ => 1
  let S : Nat → Int := fun t => N t % 2
  let x : Nat → Int := fun c => S (o c + 1) - S (o c)
  have nx : ∀ c ∈ rs, N (o c + 1) = N (o c) + 1 := fun c hc => (st (fun _ => 1) (o c)).1 c hc rfl
  have xs : ∀ t, upto rs o x t = S t := by
    intro t
    induction t with
    | zero => rw [upto_zero]; show 0 = upto rs o (fun _ => 1) 0 % 2; rw [upto_zero]; rfl
    | succ t ih =>
      by_cases z : ∃ c ∈ rs, o c = t
      · obtain ⟨c, hc, e⟩ := z
        rw [(st x t).1 c hc e, ih]
        show S t + (S (o c + 1) - S (o c)) = S (t + 1)
        rw [e]
        omega
      · have n : ∀ c ∈ rs, o c ≠ t := fun c hc e => z ⟨c, hc, e⟩
        rw [(st x t).2 n, ih]
        show N t % 2 = N (t + 1) % 2
        rw [show N (t + 1) = N t from (st (fun _ => 1) t).2 n]
  refine ⟨x, fun c hc => ?_, fun k hk => ?_⟩
  · have := nx c hc
    show N (o c + 1) % 2 - N (o c) % 2 = 1 ∨ N (o c + 1) % 2 - N (o c) % 2 = -1
    omega
  · have e1 : vs (fun c k => if s k ≤ o c ∧ o c < e k then 1 else 0) rs x k = upto rs o x (e k) - upto rs o x (s k) := upto_part (h k hk)
    rw [e1, xs, xs]
    show -1 ≤ N (e k) % 2 - N (s k) % 2 ∧ N (e k) % 2 - N (s k) % 2 ≤ 1
    omega
end Tu
/-! rounding within the sums of a unimodular table -/
namespace Tu
open Dt
theorem tu_round {A : Nat → Nat → Int} {P Q : Nat → Prop} (h : TU A P Q) {rs : List Nat} (nd : rs.Nodup) (hP : ∀ x ∈ rs, P x) {w : Nat} (hQ : ∀ j, j < w → Q j) {x : Nat → Rat} {lo hi : Nat → Int} (near : ∀ k, k < rs.length + w → hi k ≤ lo k + 1) (i1 : ∀ i, i < rs.length → ((lo i : Int) : Rat) ≤ x i ∧ x i ≤ ((hi i : Int) : Rat))
    (i2 : ∀ j, j < w → ((lo (rs.length + j) : Int) : Rat) ≤ (sm rs.length fun i => x i * ((A (rs[i]?.getD 0) j : Int) : Rat)) ∧ (sm rs.length fun i => x i * ((A (rs[i]?.getD 0) j : Int) : Rat)) ≤ ((hi (rs.length + j) : Int) : Rat)) :
    ∃ z : Nat → Int, (∀ i, i < rs.length → lo i ≤ z i ∧ z i ≤ hi i) ∧ ∀ j, j < w → lo (rs.length + j) ≤ csum A rs z j ∧ csum A rs z j ≤ hi (rs.length + j) := by
  let s := rs.length
  let code : Nat → Nat := fun k => if k < s then 2 * (rs[k]?.getD 0) else 2 * (k - s) + 1
  let M : Nat → Nat → Int := fun i k => ext A (rs[i]?.getD 0) (code k)
  have Mu : ∀ i, i < s → ∀ a, a < s → M a i = if a = i then 1 else 0 := fun i hi a ha => by
    show ext A (rs[a]?.getD 0) (if i < s then 2 * (rs[i]?.getD 0) else 2 * (i - s) + 1) = _
    rw [if_pos hi]
    unfold ext
    rw [if_pos (by omega), show 2 * (rs[i]?.getD 0) / 2 = rs[i]?.getD 0 by omega, List.getElem?_eq_getElem (show a < rs.length from ha), List.getElem?_eq_getElem (show i < rs.length from hi)]
    show (if rs[a] = rs[i] then (1 : Int) else 0) = _
    by_cases e : a = i
    · subst e
      rw [if_pos rfl, if_pos rfl]
    · rw [if_neg e, if_neg fun z => e ((List.getElem_inj nd).mp z)]
  have Mc : ∀ j i, M i (s + j) = A (rs[i]?.getD 0) j := fun j i => by
    show ext A (rs[i]?.getD 0) (if s + j < s then _ else 2 * (s + j - s) + 1) = _
    rw [if_neg (by omega), show s + j - s = j by omega]
    unfold ext
    rw [if_neg (by omega), show (2 * j + 1) / 2 = j by omega]
  have Bx : Box s (s + w) M lo hi := by
    refine ⟨fun ks hl hk => ?_, fun i hi => ⟨i, by omega, Mu i hi⟩, fun k hk => near k hk⟩
    have g := ext_small h.any s rs (ks.map code) rfl (by rw [List.length_map, hl]) nd hP fun x hx o => by
      obtain ⟨k, hk1, rfl⟩ := List.mem_map.mp hx
      have hk2 := hk k hk1
      have o : (if k < s then 2 * (rs[k]?.getD 0) else 2 * (k - s) + 1) % 2 = 1 := o
      show Q ((if k < s then 2 * (rs[k]?.getD 0) else 2 * (k - s) + 1) / 2)
      by_cases c : k < s
      · rw [if_pos c] at o
        omega
      · rw [if_neg c, show (2 * (k - s) + 1) / 2 = k - s by omega]
        exact hQ _ (by omega)
    have e : D (ext A) rs (ks.map code) = det s fun i j => ((M i (ks[j]?.getD 0) : Int) : Rat) := det_congr fun i j hi hj => by
      have hj2 : j < ks.length := by omega
      show ((ext A (rs[i]?.getD 0) ((ks.map code)[j]?.getD 0) : Int) : Rat) = ((ext A (rs[i]?.getD 0) (code (ks[j]?.getD 0)) : Int) : Rat)
      rw [List.getElem?_map, List.getElem?_eq_getElem hj2]
      rfl
    rw [← e]
    exact g
  have fc : ∀ (u : Nat → Rat) j, fn s M u (s + j) = sm s fun i => u i * ((A (rs[i]?.getD 0) j : Int) : Rat) := fun u j => by
    show sm s (fun i => u i * ((M i (s + j) : Int) : Rat)) = _
    exact sm_congr fun i _ => by rw [Mc]
  have In0 : In s (s + w) M lo hi x := fun k hk => by
    by_cases ck : k < s
    · rw [fn_unit ck (Mu k ck)]
      exact i1 k ck
    · obtain ⟨j, rfl⟩ : ∃ j, k = s + j := ⟨k - s, by omega⟩
      rw [fc]
      exact i2 j (by omega)
  obtain ⟨y, hy, wy⟩ := box_whole Bx _ _ rfl In0
  have ex : ∀ i, ∃ z : Int, i < s → y i = ((z : Int) : Rat) := fun i => by
    by_cases hi : i < s
    · obtain ⟨z, hz⟩ := wy i (by omega)
      rw [fn_unit hi (Mu i hi)] at hz
      exact ⟨z, fun _ => hz⟩
    · exact ⟨0, fun h => absurd h hi⟩
  obtain ⟨z, hz⟩ := Classical.axiomOfChoice ex
  refine ⟨z, fun i hi => ?_, fun j hj => ?_⟩
  · have b := hy i (by omega)
    rw [fn_unit hi (Mu i hi), hz i hi] at b
    exact ⟨int_le b.1, int_le b.2⟩
  · have b := hy (s + j) (by omega)
    have e : fn s M y (s + j) = ((csum A rs z j : Int) : Rat) := by
      rw [fc, csum_eq]
      exact sm_congr fun i hi => by rw [hz i hi]
    rw [e] at b
    exact ⟨int_le b.1, int_le b.2⟩
end Tu
/-! padded tables, tables that fall apart, and sums by a column and a row -/
namespace Tu
open Dt
theorem D_zero {A : Nat → Nat → Int} {rs cs : List Nat} {c : Nat} (hl : cs.length = rs.length) (hc : c ∈ cs) (h : ∀ r ∈ rs, A r c = 0) : D A rs cs = 0 := by
  have pm : cs.Perm (c :: cs.erase c) := List.perm_cons_erase hc
  have z : D A rs (c :: cs.erase c) = 0 := by
    have l1 := List.length_pos_of_mem hc
    obtain ⟨n, hn⟩ : ∃ n, rs.length = n + 1 := ⟨rs.length - 1, by omega⟩
    rw [D_first hn]
    have : sm (n + 1) (fun i => sg i * ((A (rs[i]?.getD 0) c : Int) : Rat) * D A (Bs.out rs i) (cs.erase c)) = sm (n + 1) fun _ => 0 := by
      refine sm_congr fun i hi => ?_
      rw [List.getElem?_eq_getElem (show i < rs.length by omega)]
      show sg i * ((A rs[i] c : Int) : Rat) * _ = 0
      rw [h _ (List.getElem_mem _)]
      show sg i * (0 : Rat) * _ = 0
      rw [Rat.mul_zero, Rat.zero_mul]
    rw [this, sm_zero]
  rcases D_permc hl pm with e | e
  · rw [e, z]
  · rw [e, z]
    rfl
theorem tu_pad {A B : Nat → Nat → Int} {P P' Q Q' : Nat → Prop} (h : TU A P Q) (f : Nat → Nat) (g : Nat → Option Nat) (hf : ∀ i, P' i → P (f i)) (hg : ∀ j j', Q' j → g j = some j' → Q j') (e : ∀ i j, P' i → Q' j → B i j = match g j with | some j' => A (f i) j' | none => 0) : TU B P' Q' := fun rs cs hl _ _ h1 h2 => by
  by_cases hz : ∃ c ∈ cs, g c = none
  · obtain ⟨c, hc, hn⟩ := hz
    rw [D_zero hl hc fun r hr => by rw [e r c (h1 r hr) (h2 c hc), hn]]
    exact .inr (.inl rfl)
  · have hs : ∀ c ∈ cs, g c = some ((g c).getD 0) := fun c hc => by
      cases hgc : g c with
      | none => exact absurd ⟨c, hc, hgc⟩ hz
      | some _ => rfl
    have k := h.any (rs.map f) (cs.map fun c => (g c).getD 0) (by rw [List.length_map, List.length_map, hl]) (fun x hx => by
      obtain ⟨i, hi, rfl⟩ := List.mem_map.mp hx
      exact hf i (h1 i hi)) (fun x hx => by
      obtain ⟨c, hc, rfl⟩ := List.mem_map.mp hx
      exact hg c _ (h2 c hc) (hs c hc))
    rw [← D_congr (A := A) (rs := rs.map f) (cs := cs.map fun c => (g c).getD 0) (B := B) (rs' := rs) (cs' := cs) (List.length_map ..).symm fun i j hi hj => ?_] at k
    · exact k
    · rw [List.length_map] at hi hj
      have hj2 : j < cs.length := by omega
      rw [List.getElem?_map, List.getElem?_map, List.getElem?_eq_getElem hi, List.getElem?_eq_getElem hj2]
      show B rs[i] cs[j] = A (f rs[i]) ((g cs[j]).getD 0)
      rw [e _ _ (h1 _ (List.getElem_mem hi)) (h2 _ (List.getElem_mem hj2)), hs _ (List.getElem_mem hj2)]
      rfl
theorem tu_none (A : Nat → Nat → Int) (P : Nat → Prop) : TU A P (fun _ => False) := fun rs cs hl _ _ _ h2 => by
  cases cs with
  | nil =>
    have : rs = [] := List.length_eq_zero_iff.mp hl.symm
    rw [this]
    exact .inr (.inr rfl)
  | cons c cs => exact (h2 c (.head _)).elim
theorem tu_none_rows (A : Nat → Nat → Int) (Q : Nat → Prop) : TU A (fun _ => False) Q := fun rs cs hl _ _ h1 _ => by
  cases rs with
  | nil => exact .inr (.inr rfl)
  | cons c cs => exact (h1 c (.head _)).elim
/-- a part of the rows and of the columns, each by its place -/
theorem tu_part {A B : Nat → Nat → Int} {P P' Q Q' : Nat → Prop} (h : TU A P Q) (f g : Nat → Nat) (hf : ∀ i, P' i → P (f i)) (hg : ∀ j, Q' j → Q (g j)) (e : ∀ i j, P' i → Q' j → B i j = A (f i) (g j)) : TU B P' Q' :=
  tu_pad h f (fun j => some (g j)) hf (fun j j' hj z => by cases z; exact hg j hj) fun i j hi hj => e i j hi hj
theorem vs_split (A : Nat → Nat → Int) (x : Nat → Int) (j : Nat) (p : Nat → Bool) : ∀ rs : List Nat, vs A rs x j = vs A (rs.filter p) x j + vs A (rs.filter fun r => !p r) x j
  | [] => rfl
  | r :: rs => by
    have ih := vs_split A x j p rs
    unfold vs at ih ⊢
    rw [List.map_cons, List.sum_cons, ih]
    by_cases hp : p r = true
    · rw [List.filter_cons_of_pos hp, List.filter_cons_of_neg (by rw [hp]; decide), List.map_cons, List.sum_cons]
      omega
    · rw [List.filter_cons_of_neg hp, List.filter_cons_of_pos (by simp [hp]), List.map_cons, List.sum_cons]
      omega
theorem vs_zero {A : Nat → Nat → Int} {x : Nat → Int} {j : Nat} : ∀ {rs : List Nat}, (∀ r ∈ rs, A r j = 0) → vs A rs x j = 0
  | [], _ => rfl
  | r :: rs, h => by
    have ih := vs_zero (A := A) (x := x) (j := j) (rs := rs) fun a ha => h a (.tail _ ha)
    unfold vs at ih ⊢
    rw [List.map_cons, List.sum_cons, ih, h r (.head _)]
    omega
theorem vs_congr {A B : Nat → Nat → Int} {x y : Nat → Int} {i j : Nat} : ∀ {rs : List Nat}, (∀ r ∈ rs, x r * A r i = y r * B r j) → vs A rs x i = vs B rs y j
  | [], _ => rfl
  | r :: rs, h => by
    have ih := vs_congr (A := A) (B := B) (x := x) (y := y) (i := i) (j := j) (rs := rs) fun a ha => h a (.tail _ ha)
    unfold vs at ih ⊢
    rw [List.map_cons, List.sum_cons, List.map_cons, List.sum_cons, ih, h r (.head _)]
theorem vs_map {A : Nat → Nat → Int} {x : Nat → Int} {j : Nat} (f : Nat → Nat) : ∀ rs : List Nat, vs A (rs.map f) x j = vs (fun r => A (f r)) rs (fun r => x (f r)) j
  | [] => rfl
  | r :: rs => by
    have ih := vs_map (A := A) (x := x) (j := j) f rs
    unfold vs at ih ⊢
    rw [List.map_cons, List.map_cons, List.sum_cons, List.map_cons, List.sum_cons, ih]
/-- rows of several kinds, no column with entries in rows of two kinds -/
theorem tu_kinds {S : Nat → Nat → Int} {P : Nat → Prop} {w : Nat} (c : Nat → Int) (hz : ∀ i i' j, P i → P i' → j < w → S i j ≠ 0 → S i' j ≠ 0 → c i = c i') (h : ∀ v, TU S (fun i => P i ∧ c i = v) (· < w)) : TU S P (· < w) := by
  refine signs_tu fun rs _ u hP => ?_
  have nd := up_nodup u
  have hs : ∀ v, Sg1 S (rs.filter fun r => c r == v) w := fun v => TU.sg (h v) (nd.filter _) (fun r hr => by
    obtain ⟨h1, h2⟩ := List.mem_filter.mp hr
    exact ⟨hP r h1, eq_of_beq h2⟩) fun j hj => hj
  refine ⟨fun r => (hs (c r)).choose r, fun r hr => ?_, fun j hj => ?_⟩
  · exact (hs (c r)).choose_spec.1 r (List.mem_filter.mpr ⟨hr, by simp⟩)
  · by_cases hn : ∃ r ∈ rs, S r j ≠ 0
    · obtain ⟨r0, hr0, h0⟩ := hn
      rw [vs_split S _ j (fun r => c r == c r0), vs_zero (rs := rs.filter fun r => !(c r == c r0)) fun r hr => by
        obtain ⟨h1, h2⟩ := List.mem_filter.mp hr
        by_cases z : S r j = 0
        · exact z
        · have := hz r r0 j (hP r h1) (hP r0 hr0) hj z h0
          rw [this] at h2
          simp at h2, Int.add_zero, vs_congr (B := S) (y := (hs (c r0)).choose) (j := j) fun r hr => by
        have := eq_of_beq (List.mem_filter.mp hr).2
        rw [this]]
      exact (hs (c r0)).choose_spec.2 j hj
    · rw [vs_zero fun r hr => by
        by_cases z : S r j = 0
        · exact z
        · exact absurd ⟨r, hr, z⟩ hn]
      omega
/-- the sum by a column and a row, as a function -/
def two (A : Nat → Nat → Int) (a b : Nat → Int) (B : Nat → Nat → Int) (m w : Nat) : Nat → Nat → Int := fun i j => if i < m then (if j < w then A i j else a i * b (j - w)) else (if j < w then 0 else B (i - m) (j - w))
def colB (A : Nat → Nat → Int) (a : Nat → Int) (w : Nat) : Nat → Nat → Int := fun i j => if j < w then A i j else a i
def rowB (b : Nat → Int) (B : Nat → Nat → Int) : Nat → Nat → Int := fun i j => if i = 0 then b j else B (i - 1) j
theorem sign_scale {B : Nat → Nat → Int} {rs : List Nat} {y : Nat → Int} {j : Nat} (t : Int) : vs B rs (fun r => t * y r) j = t * vs B rs y j := by
  induction rs with
  | nil => show (0 : Int) = t * 0; omega
  | cons r rs ih =>
    unfold vs at ih ⊢
    rw [List.map_cons, List.sum_cons, List.map_cons, List.sum_cons, ih, Int.mul_add, Int.mul_assoc]
theorem two_tu {A B : Nat → Nat → Int} {a b : Nat → Int} {m w k l : Nat} (h1 : TU (colB A a w) (· < m) (· < w + 1)) (h2 : TU (rowB b B) (· < k + 1) (· < l)) : TU (two A a b B m w) (· < m + k) (· < w + l) := by
  refine signs_tu fun rs _ u hP => ?_
  have nd := up_nodup u
  obtain ⟨x, x1, x2⟩ := TU.sg h1 (rs := rs.filter fun r => decide (r < m)) (nd.filter _) (fun r hr => of_decide_eq_true (List.mem_filter.mp hr).2) (w := w + 1) fun j hj => hj
  have ndR : ((rs.filter fun r => !decide (r < m)).map fun r => r - m + 1).Nodup := by
    refine Sg.nodup_map (nd.filter _) fun p hp q hq e => ?_
    have a1 := (List.mem_filter.mp hp).2
    have a2 := (List.mem_filter.mp hq).2
    simp at a1 a2
    omega
  have inR : ∀ r ∈ (rs.filter fun r => !decide (r < m)).map (fun r => r - m + 1), r < k + 1 := fun r hr => by
    obtain ⟨p, hp, rfl⟩ := List.mem_map.mp hr
    have a1 := List.mem_filter.mp hp
    have a2 := hP p a1.1
    have a3 := a1.2
    simp at a3
    show p - m + 1 < k + 1
    omega
  have al := x2 w (by omega)
  -- the signs of the lower rows
  obtain ⟨y, y1, y2⟩ : ∃ y : Nat → Int, (∀ r ∈ (rs.filter fun r => !decide (r < m)).map (fun r => r - m + 1), y r = 1 ∨ y r = -1) ∧ ∀ j, j < l → -1 ≤ vs (colB A a w) (rs.filter fun r => decide (r < m)) x w * b j + vs (rowB b B) ((rs.filter fun r => !decide (r < m)).map fun r => r - m + 1) y j ∧ vs (colB A a w) (rs.filter fun r => decide (r < m)) x w * b j + vs (rowB b B) ((rs.filter fun r => !decide (r < m)).map fun r => r - m + 1) y j ≤ 1 := by
    by_cases z : vs (colB A a w) (rs.filter fun r => decide (r < m)) x w = 0
    · obtain ⟨y, y1, y2⟩ := TU.sg h2 ndR inR (w := l) fun j hj => hj
      refine ⟨y, y1, fun j hj => ?_⟩
      rw [z, Int.zero_mul, Int.zero_add]
      exact y2 j hj
    · have nd0 : (0 :: (rs.filter fun r => !decide (r < m)).map fun r => r - m + 1).Nodup := List.nodup_cons.mpr ⟨fun h => by
        obtain ⟨p, _, e⟩ := List.mem_map.mp h
        omega, ndR⟩
      obtain ⟨y, y1, y2⟩ := TU.sg h2 nd0 (fun r hr => by
        rcases List.mem_cons.mp hr with rfl | hr
        · exact Nat.succ_pos _
        · exact inR r hr) (w := l) fun j hj => hj
      generalize vs (colB A a w) (rs.filter fun r => decide (r < m)) x w = α at *
      have y0 := y1 0 (.head _)
      refine ⟨fun r => α * y 0 * y r, fun r hr => ?_, fun j hj => ?_⟩
      · have a1 := y1 r (.tail _ hr)
        have a2 : α = 1 ∨ α = -1 := by omega
        show α * y 0 * y r = 1 ∨ α * y 0 * y r = -1
        rcases a2 with e1 | e1 <;> rcases y0 with e2 | e2 <;> rcases a1 with e3 | e3 <;> rw [e1, e2, e3] <;> decide
      · have h3 := y2 j hj
        rw [sign_scale]
        have e : vs (rowB b B) (0 :: (rs.filter fun r => !decide (r < m)).map fun r => r - m + 1) y j = y 0 * b j + vs (rowB b B) ((rs.filter fun r => !decide (r < m)).map fun r => r - m + 1) y j := by
          unfold vs
          rw [List.map_cons, List.sum_cons]
          rfl
        rw [e] at h3
        generalize vs (rowB b B) ((rs.filter fun r => !decide (r < m)).map fun r => r - m + 1) y j = β at *
        have a2 : α = 1 ∨ α = -1 := by omega
        rcases a2 with e1 | e1 <;> rcases y0 with e2 | e2 <;> rw [e1, e2] <;> rw [e2] at h3 <;> omega
  refine ⟨fun r => if r < m then x r else y (r - m + 1), fun r hr => ?_, fun j hj => ?_⟩
  · show (if r < m then x r else y (r - m + 1)) = 1 ∨ (if r < m then x r else y (r - m + 1)) = -1
    by_cases z : r < m
    · rw [if_pos z]
      exact x1 r (List.mem_filter.mpr ⟨hr, decide_eq_true z⟩)
    · rw [if_neg z]
      exact y1 _ (List.mem_map.mpr ⟨r, List.mem_filter.mpr ⟨hr, by simp [z]⟩, rfl⟩)
  · rw [vs_split _ _ j (fun r => decide (r < m))]
    have low : ∀ r ∈ rs.filter (fun r => decide (r < m)), r < m := fun r hr => of_decide_eq_true (List.mem_filter.mp hr).2
    have up : ∀ r ∈ rs.filter (fun r => !decide (r < m)), ¬ r < m := fun r hr => by
      have := (List.mem_filter.mp hr).2
      simpa using this
    by_cases hw : j < w
    · rw [vs_zero (rs := rs.filter fun r => !decide (r < m)) fun r hr => by
        unfold two
        rw [if_neg (up r hr), if_pos hw], Int.add_zero, vs_congr (B := colB A a w) (y := x) (j := j) fun r hr => by
        unfold two colB
        rw [if_pos (low r hr), if_pos (low r hr), if_pos hw, if_pos hw]]
      exact x2 j (by omega)
    · have hjl : j - w < l := by omega
      have e1 : vs (two A a b B m w) (rs.filter fun r => decide (r < m)) (fun r => if r < m then x r else y (r - m + 1)) j = vs (colB A a w) (rs.filter fun r => decide (r < m)) x w * b (j - w) := by
        rw [Int.mul_comm, ← sign_scale]
        refine vs_congr fun r hr => ?_
        unfold two colB
        rw [if_pos (low r hr), if_pos (low r hr), if_neg hw, if_neg (Nat.lt_irrefl w)]
        rw [Int.mul_comm (b (j - w)), Int.mul_assoc, Int.mul_comm (b (j - w))]
      have e2 : vs (two A a b B m w) (rs.filter fun r => !decide (r < m)) (fun r => if r < m then x r else y (r - m + 1)) j = vs (rowB b B) ((rs.filter fun r => !decide (r < m)).map fun r => r - m + 1) y (j - w) := by
        rw [vs_map]
        refine vs_congr fun r hr => ?_
        unfold two rowB
        rw [if_neg (up r hr), if_neg (up r hr), if_neg hw, if_neg (Nat.succ_ne_zero _), Nat.add_sub_cancel]
      rw [e1, e2]
      exact y2 (j - w) hjl
end Tu
namespace Tu
open Dt
theorem vs_cons {A : Nat → Nat → Int} {x : Nat → Int} {j r : Nat} {rs : List Nat} : vs A (r :: rs) x j = x r * A r j + vs A rs x j := by
  unfold vs
  rw [List.map_cons, List.sum_cons]
end Tu
/-! rings of ones: with a row left out they are unimodular -/
namespace Tu
open Dt
def sc (n i : Nat) : Nat := if i + 1 = n then 0 else i + 1
structure Ring (A : Nat → Nat → Int) (n : Nat) : Prop where
  n2 : 2 ≤ n
  no : ∀ i j, i < n → j < n → j ≠ i → j ≠ sc n i → A i j = 0
  a1 : ∀ i, i < n → A i i = 1 ∨ A i i = -1
  b1 : ∀ i, i < n → A i (sc n i) = 1 ∨ A i (sc n i) = -1
theorem vs_two {A : Nat → Nat → Int} {x : Nat → Int} {j p q : Nat} (pq : p ≠ q) : ∀ {rs : List Nat}, rs.Nodup → (∀ r ∈ rs, r ≠ p → r ≠ q → A r j = 0) → vs A rs x j = (if p ∈ rs then x p * A p j else 0) + (if q ∈ rs then x q * A q j else 0)
  | [], _, _ => by
    rw [if_neg (fun h => nomatch h), if_neg (fun h => nomatch h)]
    rfl
  | r :: rs, nd, h => by
    have nd' := List.nodup_cons.mp nd
    have ih := vs_two (x := x) pq nd'.2 fun r hr => h r (.tail _ hr)
    rw [vs_cons, ih]
    by_cases rp : r = p
    · subst rp
      rw [if_neg nd'.1, if_pos (List.mem_cons_self ..)]
      by_cases qm : q ∈ rs
      · rw [if_pos qm, if_pos (.tail _ qm)]
        omega
      · rw [if_neg qm, if_neg (fun z => (List.mem_cons.mp z).elim (fun z => pq z.symm) qm)]
        omega
    · by_cases rq : r = q
      · subst rq
        rw [if_neg nd'.1, if_pos (List.mem_cons_self ..)]
        by_cases pm : p ∈ rs
        · rw [if_pos pm, if_pos (.tail _ pm)]
          omega
        · rw [if_neg pm, if_neg (fun z => (List.mem_cons.mp z).elim (fun z => rp z.symm) pm)]
          omega
      · rw [h r (.head _) rp rq, Int.mul_zero, Int.zero_add]
        congr 1
        · by_cases pm : p ∈ rs
          · rw [if_pos pm, if_pos (.tail _ pm)]
          · rw [if_neg pm, if_neg (fun z => (List.mem_cons.mp z).elim (fun z => rp z.symm) pm)]
        · by_cases qm : q ∈ rs
          · rw [if_pos qm, if_pos (.tail _ qm)]
          · rw [if_neg qm, if_neg (fun z => (List.mem_cons.mp z).elim (fun z => rq z.symm) qm)]
def rot (n r0 t : Nat) : Nat := if r0 + t < n then r0 + t else r0 + t - n
def chain (A : Nat → Nat → Int) (n r0 : Nat) : Nat → Int
  | 0 => 1
  | t + 1 => -(chain A n r0 t * A (rot n r0 t) (rot n r0 (t + 1)) * A (rot n r0 (t + 1)) (rot n r0 (t + 1)))
theorem Ring.chain_one {A : Nat → Nat → Int} {n r0 : Nat} (R : Ring A n) (h0 : r0 < n) : ∀ t, t < n → chain A n r0 t = 1 ∨ chain A n r0 t = -1
  | 0, _ => .inl rfl
  | t + 1, ht => by
    have ih := R.chain_one h0 t (by omega)
    have i1 : rot n r0 t < n := by unfold rot; split <;> omega
    have i2 : rot n r0 (t + 1) < n := by unfold rot; split <;> omega
    have e : rot n r0 (t + 1) = sc n (rot n r0 t) := by
      unfold rot sc
      by_cases a : r0 + t < n
      · rw [if_pos a]
        by_cases b : r0 + (t + 1) < n
        · rw [if_pos b, if_neg (by omega)]
          omega
        · rw [if_neg b, if_pos (by omega)]
          omega
      · rw [if_neg a, if_neg (by omega), if_neg (by omega)]
        omega
    have b1 := R.b1 _ i1
    rw [← e] at b1
    have a1 := R.a1 _ i2
    show -(chain A n r0 t * A (rot n r0 t) (rot n r0 (t + 1)) * A (rot n r0 (t + 1)) (rot n r0 (t + 1))) = 1 ∨ -(chain A n r0 t * A (rot n r0 t) (rot n r0 (t + 1)) * A (rot n r0 (t + 1)) (rot n r0 (t + 1))) = -1
    rcases ih with p | p <;> rcases b1 with q | q <;> rcases a1 with r | r <;> rw [p, q, r] <;> decide
/-- a ring with a row left out is unimodular -/
theorem ring_cut {A : Nat → Nat → Int} {n r0 : Nat} (R : Ring A n) (h0 : r0 < n) : TU A (fun i => i < n ∧ i ≠ r0) (· < n) := by
  refine signs_tu fun rs _ u hP => ?_
  have nd := up_nodup u
  let d : Nat → Nat := fun i => if r0 ≤ i then i - r0 else i + n - r0
  have dn : ∀ i, i < n → d i < n := fun i hi => by
    show (if r0 ≤ i then i - r0 else i + n - r0) < n
    split <;> omega
  refine ⟨fun i => chain A n r0 (d i), fun i hi => R.chain_one h0 _ (dn i (hP i hi).1), fun j hj => ?_⟩
  let q : Nat := if j = 0 then n - 1 else j - 1
  have n2 := R.n2
  have qn : q < n := by
    show (if j = 0 then n - 1 else j - 1) < n
    split <;> omega
  have qs : sc n q = j := by
    show (if (if j = 0 then n - 1 else j - 1) + 1 = n then 0 else (if j = 0 then n - 1 else j - 1) + 1) = j
    by_cases z : j = 0
    · rw [if_pos z, if_pos (by omega), z]
    · rw [if_neg z, if_neg (by omega)]
      omega
  have jq : j ≠ q := by
    show j ≠ if j = 0 then n - 1 else j - 1
    split <;> omega
  have sq : ∀ r, r < n → sc n r = j → r = q := fun r hr h => by
    have h : (if r + 1 = n then 0 else r + 1) = j := h
    show r = if j = 0 then n - 1 else j - 1
    by_cases z : r + 1 = n
    · rw [if_pos z] at h
      rw [if_pos h.symm]
      omega
    · rw [if_neg z] at h
      rw [if_neg (by omega)]
      omega
  rw [vs_two (p := j) (q := q) jq nd fun r hr h1 h2 => R.no r j (hP r hr).1 hj (fun z => h1 z.symm) fun z => h2 (sq r (hP r hr).1 z.symm)]
  have aj := R.a1 j hj
  have bq := R.b1 q qn
  rw [qs] at bq
  have cj := R.chain_one h0 _ (dn j hj)
  have cq := R.chain_one h0 _ (dn q qn)
  by_cases m1 : j ∈ rs
  · rw [if_pos m1]
    by_cases m2 : q ∈ rs
    · rw [if_pos m2]
      have jr := (hP j m1).2
      have qr := (hP q m2).2
      have e1 : d j = d q + 1 := by
        show (if r0 ≤ j then j - r0 else j + n - r0) = (if r0 ≤ q then q - r0 else q + n - r0) + 1
        have qd : (j = 0 ∧ q = n - 1) ∨ (j ≠ 0 ∧ q = j - 1) := by
          by_cases z : j = 0
          · exact .inl ⟨z, if_pos z⟩
          · exact .inr ⟨z, if_neg z⟩
        by_cases a : r0 ≤ j
        · rw [if_pos a]
          by_cases b : r0 ≤ q
          · rw [if_pos b]
            omega
          · rw [if_neg b]
            omega
        · rw [if_neg a]
          by_cases b : r0 ≤ q
          · rw [if_pos b]
            omega
          · rw [if_neg b]
            omega
      have rq : rot n r0 (d q) = q := by
        show (if r0 + (if r0 ≤ q then q - r0 else q + n - r0) < n then r0 + (if r0 ≤ q then q - r0 else q + n - r0) else r0 + (if r0 ≤ q then q - r0 else q + n - r0) - n) = q
        by_cases b : r0 ≤ q
        · rw [if_pos b, if_pos (by omega)]
          omega
        · rw [if_neg b, if_neg (by omega)]
          omega
      have rj : rot n r0 (d q + 1) = j := by
        rw [← e1]
        show (if r0 + (if r0 ≤ j then j - r0 else j + n - r0) < n then r0 + (if r0 ≤ j then j - r0 else j + n - r0) else r0 + (if r0 ≤ j then j - r0 else j + n - r0) - n) = j
        by_cases b : r0 ≤ j
        · rw [if_pos b, if_pos (by omega)]
          omega
        · rw [if_neg b, if_neg (by omega)]
          omega
      have ec : chain A n r0 (d j) = -(chain A n r0 (d q) * A q j * A j j) := by
        rw [e1]
        show -(chain A n r0 (d q) * A (rot n r0 (d q)) (rot n r0 (d q + 1)) * A (rot n r0 (d q + 1)) (rot n r0 (d q + 1))) = _
        rw [rq, rj]
      show -1 ≤ chain A n r0 (d j) * A j j + chain A n r0 (d q) * A q j ∧ chain A n r0 (d j) * A j j + chain A n r0 (d q) * A q j ≤ 1
      rw [ec]
      rcases cq with p | p <;> rcases bq with r | r <;> rcases aj with s | s <;> rw [p, r, s] <;> decide
    · rw [if_neg m2]
      show -1 ≤ chain A n r0 (d j) * A j j + 0 ∧ chain A n r0 (d j) * A j j + 0 ≤ 1
      rcases cj with p | p <;> rcases aj with s | s <;> rw [p, s] <;> decide
  · rw [if_neg m1]
    by_cases m2 : q ∈ rs
    · rw [if_pos m2]
      show -1 ≤ 0 + chain A n r0 (d q) * A q j ∧ 0 + chain A n r0 (d q) * A q j ≤ 1
      rcases cq with p | p <;> rcases bq with r | r <;> rw [p, r] <;> decide
    · rw [if_neg m2]
      decide
end Tu
/-! a ring of ones among noughts is the one bad square -/
namespace Tu
open Dt
theorem D_zero_row {A : Nat → Nat → Int} {rs cs : List Nat} {r : Nat} (hl : cs.length = rs.length) (hr : r ∈ rs) (h : ∀ c ∈ cs, A r c = 0) : D A rs cs = 0 := by
  rw [← D_T hl]
  exact D_zero (A := fun i j => A j i) hl.symm hr h
theorem nodup_range_map {f : Nat → Nat} {n : Nat} (inj : ∀ i j, i < n → j < n → f i = f j → i = j) : ((List.range n).map f).Nodup :=
  Sg.nodup_map List.nodup_range fun i hi j hj e => inj i j (List.mem_range.mp hi) (List.mem_range.mp hj) e
theorem ring_bad {A T : Nat → Nat → Int} {n m w : Nat} {ρ γ : Nat → Nat} (R : Ring A n) (hT : ∀ r c, r < m → c < w → T r c ≠ 0 → ∃ i j, i < n ∧ j < n ∧ r = ρ i ∧ c = γ j) (hA : ∀ i j, i < n → j < n → T (ρ i) (γ j) = A i j)
    (ri : ∀ i j, i < n → j < n → ρ i = ρ j → i = j) (gi : ∀ i j, i < n → j < n → γ i = γ j → i = j) {rs cs : List Nat} (hl : cs.length = rs.length) (u1 : rs.Pairwise (· < ·)) (u2 : cs.Pairwise (· < ·)) (b1 : ∀ r ∈ rs, r < m) (b2 : ∀ c ∈ cs, c < w) (bad : ¬ S1 (D T rs cs)) :
    (∀ r ∈ rs, ∃ i, i < n ∧ r = ρ i) ∧ (∀ i, i < n → ρ i ∈ rs) ∧ (∀ c ∈ cs, ∃ j, j < n ∧ c = γ j) ∧ ∀ j, j < n → γ j ∈ cs := by
  have z0 : ∀ {q : Rat}, q = 0 → S1 q := fun h => .inr (.inl h)
  have q1 : ∀ r ∈ rs, ∃ i, i < n ∧ r = ρ i := fun r hr => by
    refine Classical.byContradiction fun no => bad (z0 (D_zero_row hl hr fun c hc => ?_))
    refine Classical.byContradiction fun nz => ?_
    obtain ⟨i, j, hi, _, e, _⟩ := hT r c (b1 r hr) (b2 c hc) nz
    exact no ⟨i, hi, e⟩
  have q3 : ∀ c ∈ cs, ∃ j, j < n ∧ c = γ j := fun c hc => by
    refine Classical.byContradiction fun no => bad (z0 (D_zero hl hc fun r hr => ?_))
    refine Classical.byContradiction fun nz => ?_
    obtain ⟨i, j, _, hj, _, e⟩ := hT r c (b1 r hr) (b2 c hc) nz
    exact no ⟨j, hj, e⟩
  have q2 : ∀ i, i < n → ρ i ∈ rs := fun i0 h0 => by
    refine Classical.byContradiction fun no => bad ?_
    have ex : ∀ r, ∃ i, (∃ k, k < n ∧ r = ρ k) → i < n ∧ r = ρ i := fun r => by
      by_cases h : ∃ k, k < n ∧ r = ρ k
      · obtain ⟨k, hk, e⟩ := h
        exact ⟨k, fun _ => ⟨hk, e⟩⟩
      · exact ⟨0, fun z => absurd z h⟩
    obtain ⟨f, hf⟩ := Classical.axiomOfChoice ex
    have eg : ∀ c, ∃ o : Option Nat, (∀ j, o = some j → j < n ∧ c = γ j) ∧ (o = none → ¬ ∃ j, j < n ∧ c = γ j) := fun c => by
      by_cases h : ∃ j, j < n ∧ c = γ j
      · obtain ⟨j, hj, e⟩ := h
        exact ⟨some j, fun k hk => by cases hk; exact ⟨hj, e⟩, fun z => nomatch z⟩
      · exact ⟨none, fun k hk => (nomatch hk), fun _ => h⟩
    obtain ⟨g, hg⟩ := Classical.axiomOfChoice eg
    have tu : TU T (fun r => r < m ∧ ∃ i, i < n ∧ i ≠ i0 ∧ r = ρ i) (· < w) := tu_pad (ring_cut R h0) f g (fun r ⟨_, i, hi, ni, e⟩ => by
        have := hf r ⟨i, hi, e⟩
        have ei := ri _ _ this.1 hi (this.2.symm.trans e)
        exact ⟨this.1, ei ▸ ni⟩) (fun c j' _ e => ((hg c).1 j' e).1) fun r c ⟨rm, i, hi, ni, e⟩ cw => by
        have h1 := hf r ⟨i, hi, e⟩
        cases hc : g c with
        | some j' =>
          have h2 := (hg c).1 j' hc
          show T r c = A (f r) j'
          rw [← hA _ _ h1.1 h2.1, ← h1.2, ← h2.2]
        | none =>
          refine Classical.byContradiction fun nz => ?_
          obtain ⟨_, j, _, hj, _, e2⟩ := hT r c rm cw nz
          exact (hg c).2 hc ⟨j, hj, e2⟩
    exact tu rs cs hl u1 u2 (fun r hr => by
      obtain ⟨i, hi, e⟩ := q1 r hr
      exact ⟨b1 r hr, i, hi, fun z => no (by rw [← z, ← e]; exact hr), e⟩) b2
  refine ⟨q1, q2, q3, fun j0 h0 => ?_⟩
  refine Classical.byContradiction fun no => ?_
  have l1 : ((List.range n).map ρ).length ≤ rs.length := List.Nodup.length_le_of_subset (nodup_range_map ri) fun x hx => by
    obtain ⟨i, hi, rfl⟩ := List.mem_map.mp hx
    exact q2 i (List.mem_range.mp hi)
  have l2 : (γ j0 :: cs).length ≤ ((List.range n).map γ).length := List.Nodup.length_le_of_subset (List.nodup_cons.mpr ⟨no, up_nodup u2⟩) fun x hx => by
    rcases List.mem_cons.mp hx with rfl | hx
    · exact List.mem_map.mpr ⟨j0, List.mem_range.mpr h0, rfl⟩
    · obtain ⟨j, hj, rfl⟩ := q3 x hx
      exact List.mem_map.mpr ⟨j, List.mem_range.mpr hj, rfl⟩
  rw [List.length_map, List.length_range] at l1 l2
  rw [List.length_cons] at l2
  omega
end Tu
/-! a ring whose entries' sum by fours isn't nought is bad -/
namespace Tu
open Dt
def ringSum (A : Nat → Nat → Int) (n t : Nat) : Int := ((List.range t).map fun i => A i i + A i (sc n i)).sum
theorem ringSum_succ (A : Nat → Nat → Int) (n t : Nat) : ringSum A n (t + 1) = ringSum A n t + (A t t + A t (sc n t)) := by
  unfold ringSum
  rw [List.range_succ, List.map_append, List.sum_append]
  show _ + (A t t + A t (sc n t) + 0) = _
  omega
theorem ring_sum {A : Nat → Nat → Int} {n : Nat} (R : Ring A n) (h : TU A (· < n) (· < n)) : ringSum A n n % 4 = 0 := by
  have n2 := R.n2
  obtain ⟨x, x1, x2⟩ := TU.sg h (rs := List.range n) List.nodup_range (fun r hr => List.mem_range.mp hr) (w := n) fun j hj => hj
  have x1 : ∀ i, i < n → x i = 1 ∨ x i = -1 := fun i hi => x1 i (List.mem_range.mpr hi)
  have link : ∀ i, i < n → x (sc n i) * A (sc n i) (sc n i) = -(x i * A i (sc n i)) := fun i hi => by
    have sn : sc n i < n := by unfold sc; split <;> omega
    have ne : sc n i ≠ i := by unfold sc; split <;> omega
    have back : ∀ r, r < n → sc n r = sc n i → r = i := fun r hr e => by
      unfold sc at e
      by_cases a : r + 1 = n
      · by_cases b : i + 1 = n
        · omega
        · rw [if_pos a, if_neg b] at e
          omega
      · by_cases b : i + 1 = n
        · rw [if_neg a, if_pos b] at e
          omega
        · rw [if_neg a, if_neg b] at e
          omega
    have v := x2 (sc n i) sn
    rw [vs_two (p := sc n i) (q := i) ne List.nodup_range fun r hr h1 h2 => R.no r _ (List.mem_range.mp hr) sn (fun z => h1 z.symm) fun z => h2 (back r (List.mem_range.mp hr) z.symm), if_pos (List.mem_range.mpr sn), if_pos (List.mem_range.mpr hi)] at v
    have a := R.a1 _ sn
    have b := R.b1 i hi
    have xs := x1 _ sn
    have xi := x1 i hi
    rcases a with a | a <;> rcases b with b | b <;> rcases xs with p | p <;> rcases xi with q | q <;> rw [a, b, p, q] at v <;> rw [a, b, p, q] <;> omega
  let c : Nat → Int := fun i => x i * A i i
  have term : ∀ i, i < n → (A i i + A i (sc n i) - (c i - c (sc n i))) % 4 = 0 := fun i hi => by
    have l := link i hi
    have l : c (sc n i) = -(x i * A i (sc n i)) := l
    have e : c i = x i * A i i := rfl
    have a := R.a1 i hi
    have b := R.b1 i hi
    have xi := x1 i hi
    rcases a with a | a <;> rcases b with b | b <;> rcases xi with q | q <;> rw [l, e, a, b, q] <;> decide
  have part : ∀ t, t ≤ n - 1 → (ringSum A n t - (c 0 - c t)) % 4 = 0 := by
    intro t
    induction t with
    | zero =>
      intro _
      show ((0 : Int) - (c 0 - c 0)) % 4 = 0
      omega
    | succ t ih =>
      intro ht
      have h1 := ih (by omega)
      have h2 := term t (by omega)
      have e : sc n t = t + 1 := by unfold sc; rw [if_neg (by omega)]
      rw [ringSum_succ]
      rw [e] at h2 ⊢
      omega
  have h1 := part (n - 1) (Nat.le_refl _)
  have h2 := term (n - 1) (by omega)
  have e : sc n (n - 1) = 0 := by unfold sc; rw [if_pos (by omega)]
  rw [show n = (n - 1) + 1 by omega, ringSum_succ, show n - 1 + 1 = n by omega]
  rw [e] at h2 ⊢
  omega
end Tu
/-! a law asked at the caller's own place that holds a lambda: one table of codes is known besides the script -/
namespace Own
open PySem PySem.Spec PyProof.Rows L2 LamX
/-- the script, where the module doesn't hold it, and the table at T -/
def pairG (K : PySem.W.Frag) (T a : Addr) (obj : Obj) (xs : List V) : Hp := fun b => if b = T then some (.tbl #[]) else if b = a ∧ K.lookup a = none then some (.frz obj (.lst xs)) else none
section
variable {K : PySem.W.Frag} {T a : Addr} {obj : Obj} {xs : List V}
theorem pairG_T : pairG K T a obj xs T = some (.tbl #[]) := if_pos rfl
theorem pairG_a (ne : a ≠ T) (out : K.lookup a = none) : pairG K T a obj xs a = some (.frz obj (.lst xs)) := by
  unfold pairG
  rw [if_neg ne, if_pos ⟨rfl, out⟩]
theorem pairG_some {b : Addr} {u : HO} (h : pairG K T a obj xs b = some u) : (b = T ∧ u = .tbl #[]) ∨ (b = a ∧ K.lookup a = none ∧ u = .frz obj (.lst xs)) := by
  unfold pairG at h
  by_cases e : b = T
  · rw [if_pos e] at h
    exact .inl ⟨e, (Option.some.inj h).symm⟩
  · rw [if_neg e] at h
    by_cases e2 : b = a ∧ K.lookup a = none
    · rw [if_pos e2] at h
      exact .inr ⟨e2.1, e2.2, (Option.some.inj h).symm⟩
    · rw [if_neg e2] at h
      cases h
end
def AskedT (P : Program) (w : World) (K : PySem.W.Frag) (mg : Str → Option Value) (fa a c T : Addr) (ns : List Int) (s : Shared) : Prop :=
  ∀ (root : Heap) (G : Hp), K.In root → root.Ns mainGlobals mg → TabB root mg c T → Env0 P w K mg root callerA [] s G → G T = some (.tbl #[]) → SqL K G a (ns.map V.int) →
    codeAny (model P w) callerA (.call (.ref fa) ⟨[.ref a], []⟩) (CR CX0 [] P w G s (fun v _ => v = .bl true) fun _ _ _ => False) s
theorem asked_tab {P : Program} {w : World} {K : PySem.W.Frag} {mg bt : Str → Option Value} {fa a c T : Addr} {s : Shared} {us : List Value} {ns : List Int} (inK : K.In s.heap) (glob : s.heap.Ns mainGlobals mg) (blt : s.heap.Ns builtinsNs bt)
    (boot : ∀ y : Str, y ≠ "__name__" → bt y = bootBuiltins y) (nolim : s.heap.NoLimit) (gens : s.gens = #[]) (script : s.heap.get? a = some { cls := .type "list", data := .seq us.toArray }) (entries : IntsAre us ns) (len : ns.length ≤ sizeLine)
    (tab : s.heap.get? T = some { cls := .none, data := .fields #[] }) (out : K.lookup T = none) (head : PySem.W.CodeHd s.heap c T)
    (bmod : ∃ (bm : Addr) (ob : Obj), mg "__builtins__" = some (.ref bm) ∧ bm ≠ builtinsNs ∧ s.heap.get? bm = some ob ∧ ob.cls = .type "module" ∧ ob.dict = some builtinsNs ∧ ob.data = .plain)
    (ask : AskedT P w K mg fa a c T ns s) : codeAny (model P w) callerA (.call (.ref fa) ⟨[.ref a], []⟩) (fun r t => r = .ok (.ret (.bool true)) ∧ OldK s.heap t.heap ∧ t.os = s.os ∧ AllBare t.gens) s := by
  have ne : a ≠ T := fun z => by
    rw [z, tab] at script
    exact nomatch (congrArg Obj.data (Option.some.inj script) : Data.fields #[] = Data.seq us.toArray _)
  generalize hG : pairG K T a { cls := .type "list", data := .seq us.toArray } (ns.map V.int) = G
  have gT : G T = some (.tbl #[]) := by rw [← hG]; exact pairG_T
  have gSome : ∀ {b : Addr} {u : HO}, G b = some u → (b = T ∧ u = .tbl #[]) ∨ (b = a ∧ K.lookup a = none ∧ u = .frz { cls := .type "list", data := .seq us.toArray } (.lst (ns.map V.int))) := fun {b u} h => by
    rw [← hG] at h
    exact pairG_some h
  have seen : SqL K G a (ns.map V.int) := by
    cases look : K.lookup a with
    | some o =>
      have here := inK a o look
      rw [script] at here
      cases here
      exact .inr ⟨_, us.toArray, _, look, rfl, rfl, rfl, by rw [List.size_toArray, entries.length]; exact len, by simpa using vals_ints entries⟩
    | none => exact .inl (.inr ⟨{ cls := .type "list", data := .seq us.toArray }, by rw [← hG]; exact pairG_a ne look⟩)
  have okG : HOk P w G s.heap := fun b u z => by
    rcases gSome z with ⟨rfl, rfl⟩ | ⟨rfl, _, rfl⟩
    · exact tab
    · exact ⟨script, by rw [List.length_map]; exact len, us, _, vals_ints entries, script⟩
  have hide : ∀ {b : Addr} {o : Obj}, s.heap.get? b = some o → (∀ vs n, o.data ≠ .seq vs n) → o.data ≠ .fields #[] → (hidT s.heap G).get? b = some o := fun {b o} there n1 n2 => by
    refine hidT_get there ?_
    cases q : G b with
    | none => rfl
    | some u =>
      rcases gSome q with ⟨rfl, _⟩ | ⟨rfl, _, _⟩
      · rw [tab] at there
        cases there
        exact absurd rfl n2
      · rw [script] at there
        cases there
        exact absurd rfl (n1 _ _)
  have spaces : ∀ {b : Addr} {m : Str → Option Value}, s.heap.Ns b m → (hidT s.heap G).Ns b m := fun {b m} ⟨o, es, ep, there, isD, rest⟩ => ⟨o, es, ep, hide there (fun vs n z => by rw [isD] at z; cases z) (fun z => by rw [isD] at z; cases z), isD, rest⟩
  have inRoot : K.In (hidT s.heap G) := fun b o look => hidT_get (inK b o look) (by
    cases q : G b with
    | none => rfl
    | some u =>
      rcases gSome q with ⟨rfl, _⟩ | ⟨rfl, n, _⟩
      · rw [out] at look
        cases look
      · rw [n] at look
        cases look)
  obtain ⟨lims, limNs, limNo⟩ := nolim
  have modOk : Mod K mg (hidT s.heap G) := ⟨inRoot, spaces glob, ⟨bt, spaces blt, boot⟩, ⟨lims, spaces limNs, limNo⟩⟩
  have env : Env0 P w K mg (hidT s.heap G) callerA [] s G := ⟨rfl, modOk, fun b o look => of_hidT look, Nat.le_of_eq (hidT_size _ _), trivial, fun b z => absurd (show b ∈ ([] : List Addr) from z) (by simp), okG, .of_eq gens⟩
  have tb : TabB (hidT s.heap G) mg c T := by
    refine ⟨?_, ?_, fun z => ?_⟩
    · obtain ⟨o, vs, file, tf, flags, tg, inF, text, tt, e1, r1, r2, r3, rest⟩ := head
      exact ⟨o, vs, file, tf, flags, tg, inF, text, tt, hide e1 (fun vs n z => by rw [r2] at z; cases z) (fun z => by rw [r2] at z; cases z; simp at r3), r1, r2, r3, rest⟩
    · obtain ⟨bm, ob, b1, b2, b3, b4, b5, b6⟩ := bmod
      refine ⟨bm, ob, b1, b2, fun q => ?_, fun q => ?_, hide b3 (fun vs n z => by rw [b6] at z; cases z) (fun z => by rw [b6] at z; cases z), b4, b5, b6⟩
      · obtain ⟨o, es, ep, there, isD, _⟩ := glob
        rw [q, there] at b3
        cases b3
        rw [isD] at b6
        cases b6
      · rw [q, tab] at b3
        cases b3
        cases b6
    · obtain ⟨o, es, ep, there, isD, _⟩ := glob
      rw [z, tab] at there
      cases there
      cases isD
  refine codeAny_mono (ask _ G inRoot (spaces glob) tb env gT seen) fun res t fin => ?_
  match res, fin with
  | .error _, fin => exact False.elim fin
  | .ok .next, fin => exact False.elim fin
  | .ok .brk, fin => exact False.elim fin
  | .ok .cont, fin => exact False.elim fin
  | .ok (.ret u), fin =>
    obtain ⟨v, G2, sameOs, bareG, unch, okG2, rel, isT⟩ := fin
    cases (show v = .bl true from isT)
    cases (show u = Value.bool true from rel)
    have same : ∀ b o, b ≠ T → s.heap.get? b = some o → t.heap.get? b = some o := fun b o n there => by
      cases gb : G b with
      | none => exact unch.keep b o there gb (fun z => absurd (show b ∈ ([] : List Addr) from z) (by simp)) (by simp)
      | some u =>
        rcases gSome gb with ⟨e, _⟩ | ⟨rfl, _, rfl⟩
        · exact absurd e n
        · have later := (okG2 b _ (unch.frzs b _ _ gb)).1
          rw [script] at there
          cases there
          exact later
    obtain ⟨more, grown⟩ := unch.tbls T #[] gT
    have grown := okG2 T _ grown
    refine ⟨rfl, ⟨fun b o there => ?_, fun b o there => ?_⟩, sameOs, bareG⟩
    · by_cases e : b = T
      · subst e
        rw [tab] at there
        cases there
        exact .inr (.inl ⟨(head.tab tab).isCodeTable, rfl, #[], #[] ++ more, rfl, by rw [Array.empty_append]; exact grown⟩)
      · exact .inl (same b o e there)
    · by_cases e : b = T
      · rw [e]
        exact ⟨_, grown⟩
      · exact ⟨o, same b o e there⟩
/-- what a law with one lambda promises, asked at the caller's place -/
def LawAskedT (l : PySem.W.OpenLaw) (w : World) (K : PySem.W.Frag) (n : Nat) (mg : Str → Option Value) (fa : Addr) (h : Heap) : Prop :=
  ∃ c T : Addr, h.get? T = some { cls := .none, data := .fields #[] } ∧ K.lookup T = none ∧ PySem.W.CodeHd h c T ∧ ∀ (s : Shared) (a : Addr) (ns : List Int), ns.length ≤ n → AskedT l.prog w K mg fa a c T ns s
theorem walk_askedT {l : PySem.W.OpenLaw} {n : Nat} {q : Program} {loose : List Str} {XP : (Str → Option Value) → Heap → Prop} {YP : World → Heap → Prop} {d : DefRec}
    (hn : l.most = some n) (hn2 : n ≤ sizeLine) (hdf : d.params.defaults = [])
    (F : ∀ (w : World) (mg : Str → Option Value) (fa : Addr) (h : Heap), YP w h → h.Ns mainGlobals mg → mg d.name = some (.ref fa) → ∃ K : PySem.W.Frag, K.In h ∧ LawAskedT l w K n mg fa h) :
    PySem.W.WalkO q loose XP YP l.row.toRowW d [] (fun f vs => PySem.call f vs) := by
  refine Att.attach_callB hn hdf fun w s₀ s mg bt fa o pm cd doc a us ns Gr Y _ _ _ named obj entries len _ gens => ?_
  obtain ⟨K, inK, c, T, tab, out, head, ask⟩ := F w mg fa _ Y Gr.T.g named
  exact asked_tab inK Gr.T.g Gr.T.b Gr.T.builtins Gr.T.nolimit gens obj entries (Nat.le_trans len hn2) tab out head Gr.T.bmain (ask s a ns len)
end Own
namespace SbE46
open PySem PySem.Spec PyProof.Rows L2 Evl HT LamX PySem.SbE
/-! ### the text -/
def topS (i : Nat) : Stmt := PySem.Challenge.pw_signbook_k46_how_far_signs_are_out.main.body.getD i (.Pass ⟨0, 0, 0, 0⟩)
def clsB : Stmt → List Stmt
  | .ClassDef (body := b) .. => b
  | _ => []
abbrev s_is_whole : Stmt := topS 4
theorem sc_is_whole : FnScope ["thing"] ["thing"] (defScope s_is_whole) := ⟨rfl, rfl, rfl, by decide +kernel, rfl, by decide +kernel, by decide +kernel⟩
abbrev s_all_lists : Stmt := topS 6
theorem sc_all_lists : FnScope ["choices", "told", "some", "ahead", "one"] ["choices"] (defScope s_all_lists) := ⟨rfl, rfl, rfl, by decide +kernel, rfl, by decide +kernel, by decide +kernel⟩
abbrev s_is_table : Stmt := topS 9
theorem sc_is_table : FnScope ["thing", "row"] ["thing"] (defScope s_is_table) := ⟨rfl, rfl, rfl, by decide +kernel, rfl, by decide +kernel, by decide +kernel⟩
abbrev s_is_row : Stmt := topS 10
theorem sc_is_row : FnScope ["thing", "entry"] ["thing"] (defScope s_is_row) := ⟨rfl, rfl, rfl, by decide +kernel, rfl, by decide +kernel, by decide +kernel⟩
abbrev s_check_table : Stmt := topS 11
theorem sc_check_table : FnScope ["thing"] ["thing"] (defScope s_check_table) := ⟨rfl, rfl, rfl, by decide +kernel, rfl, by decide +kernel, by decide +kernel⟩
abbrev s_row_totals : Stmt := topS 12
theorem sc_row_totals : FnScope ["table", "numbers", "row", "entry", "number"] ["table", "numbers"] (defScope s_row_totals) := ⟨rfl, rfl, rfl, by decide +kernel, rfl, by decide +kernel, by decide +kernel⟩
abbrev s_spread : Stmt := topS 14
theorem sc_spread : FnScope ["table", "signings", "_", "signs", "told"] ["table"] (defScope s_spread) := ⟨rfl, rfl, rfl, by decide +kernel, rfl, by decide +kernel, by decide +kernel⟩
abbrev s_how_far : Stmt := topS 15
theorem sc_how_far : FnScope ["table", "signs", "total"] ["table", "signs"] (defScope s_how_far) := ⟨rfl, rfl, rfl, by decide +kernel, rfl, by decide +kernel, by decide +kernel⟩
abbrev s__law_source_of : Stmt := topS 17
theorem sc__law_source_of : FnScope ["_law_cell"] ["_law_cell"] (defScope s__law_source_of) := ⟨rfl, rfl, rfl, by decide +kernel, rfl, by decide +kernel, by decide +kernel⟩
abbrev s__law_next : Stmt := topS 18
theorem sc__law_next : FnScope ["_law_source", "_law_many", "_law_found", "_law_prime", "_law_figure"] ["_law_source", "_law_many"] (defScope s__law_next) := ⟨rfl, rfl, rfl, by decide +kernel, rfl, by decide +kernel, by decide +kernel⟩
abbrev s__law_one : Stmt := topS 19
theorem sc__law_one : FnScope ["_law_source", "_law_some"] ["_law_source", "_law_some"] (defScope s__law_one) := ⟨rfl, rfl, rfl, by decide +kernel, rfl, by decide +kernel, by decide +kernel⟩
abbrev s__law_cell_at : Stmt := topS 20
theorem sc__law_cell_at : FnScope ["_law_script", "_law_k"] ["_law_script", "_law_k"] (defScope s__law_cell_at) := ⟨rfl, rfl, rfl, by decide +kernel, rfl, by decide +kernel, by decide +kernel⟩
abbrev s__law_mixed : Stmt := topS 21
theorem sc__law_mixed : FnScope ["_law_source", "_law_some", "_law_left", "_law_found"] ["_law_source", "_law_some"] (defScope s__law_mixed) := ⟨rfl, rfl, rfl, by decide +kernel, rfl, by decide +kernel, by decide +kernel⟩
abbrev s__law_ends : Stmt := topS 22
theorem sc__law_ends : FnScope ["_law_source", "_law_many", "_law_places", "_law_found", "_law_k", "_law_two"] ["_law_source", "_law_many"] (defScope s__law_ends) := ⟨rfl, rfl, rfl, by decide +kernel, rfl, by decide +kernel, by decide +kernel⟩
abbrev s__law_net : Stmt := topS 23
theorem sc__law_net : FnScope ["_law_ends_here", "_law_arcs", "_law_far", "_law_k", "_law_begin", "_law_goal", "_law_step", "_law_other", "_law_a", "_law_b"] ["_law_ends_here", "_law_arcs"] (defScope s__law_net) := ⟨rfl, rfl, rfl, by decide +kernel, rfl, by decide +kernel, by decide +kernel⟩
abbrev s__law_net_drawn : Stmt := topS 24
theorem sc__law_net_drawn : FnScope ["_law_source", "_law_many", "_law_wide", "_law_arcs", "_law_k"] ["_law_source", "_law_many", "_law_wide"] (defScope s__law_net_drawn) := ⟨rfl, rfl, rfl, by decide +kernel, rfl, by decide +kernel, by decide +kernel⟩
abbrev s__law_stretches : Stmt := topS 25
theorem sc__law_stretches : FnScope ["_law_source", "_law_many", "_law_wide", "_law_order", "_law_found", "_law_k", "_law_start", "_law_length", "_law_column"] ["_law_source", "_law_many", "_law_wide"] (defScope s__law_stretches) := ⟨rfl, rfl, rfl, by decide +kernel, rfl, by decide +kernel, by decide +kernel⟩
abbrev s__law_swung : Stmt := topS 26
theorem sc__law_swung : FnScope ["_law_source", "_law_table_here", "_law_rows", "_law_signs", "_law_found", "_law_row", "_law_sign", "_law_k", "_law_column", "_law_a", "_law_b"] ["_law_source", "_law_table_here"] (defScope s__law_swung) := ⟨rfl, rfl, rfl, by decide +kernel, rfl, by decide +kernel, by decide +kernel⟩
abbrev s__law_table : Stmt := topS 27
theorem sc__law_table : FnScope ["_law_source", "_law_most", "_law_many", "_law_wide", "_law_kind", "_law_table_here", "_law_k", "_law_row"] ["_law_source", "_law_most"] (defScope s__law_table) := ⟨rfl, rfl, rfl, by decide +kernel, rfl, by decide +kernel, by decide +kernel⟩
abbrev s__law_whole_table : Stmt := topS 28
theorem sc__law_whole_table : FnScope ["_law_source", "_law_most", "_law_many", "_law_wide", "_law_table_here"] ["_law_source", "_law_most"] (defScope s__law_whole_table) := ⟨rfl, rfl, rfl, by decide +kernel, rfl, by decide +kernel, by decide +kernel⟩
abbrev s__law_whole_sums : Stmt := topS 29
theorem sc__law_whole_sums : FnScope ["_law_table_here", "_law_xs", "_law_row", "_law_a", "_law_b"] ["_law_table_here", "_law_xs"] (defScope s__law_whole_sums) := ⟨rfl, rfl, rfl, by decide +kernel, rfl, by decide +kernel, by decide +kernel⟩
abbrev s__law_signings : Stmt := topS 30
theorem sc__law_signings : FnScope ["_law_many", "_law_found", "_law_k", "_law_longer", "_law_one_here"] ["_law_many"] (defScope s__law_signings) := ⟨rfl, rfl, rfl, by decide +kernel, rfl, by decide +kernel, by decide +kernel⟩
abbrev s__law_out : Stmt := topS 31
theorem sc__law_out : FnScope ["_law_table_here", "_law_signs", "_law_one_here"] ["_law_table_here", "_law_signs"] (defScope s__law_out) := ⟨rfl, rfl, rfl, by decide +kernel, rfl, by decide +kernel, by decide +kernel⟩
abbrev s_law : Stmt := topS 32
theorem sc_law : FnScope ["_law_script", "_law_cell", "_law_source", "_law_whole", "_law_table_here", "_law_some", "_law_outs", "_law_due", "_law_handed", "_law_turn", "_law_found", "_law_even", "_law_signs", "_law_row"] ["_law_script"] (defScope s_law) := ⟨rfl, rfl, rfl, by decide +kernel, rfl, by decide +kernel, by decide +kernel⟩
/-- what the top has written -/
structure Txt (K : PySem.W.Frag) (mg : Str → Option Value) where
  f_is_whole : Addr
  fd_is_whole : FuncData
  F_is_whole : Fun K "is_whole" "is_whole" s_is_whole f_is_whole fd_is_whole
  g_is_whole : mg "is_whole" = some (.ref f_is_whole)
  k_is_whole : PySem.W.keepIn K (.ref f_is_whole) = true
  b_is_whole : Binds K fd_is_whole ["thing"] []
  f_all_lists : Addr
  fd_all_lists : FuncData
  F_all_lists : Fun K "all_lists" "all_lists" s_all_lists f_all_lists fd_all_lists
  g_all_lists : mg "all_lists" = some (.ref f_all_lists)
  k_all_lists : PySem.W.keepIn K (.ref f_all_lists) = true
  b_all_lists : Binds K fd_all_lists ["choices"] []
  f_is_table : Addr
  fd_is_table : FuncData
  F_is_table : Fun K "is_table" "is_table" s_is_table f_is_table fd_is_table
  g_is_table : mg "is_table" = some (.ref f_is_table)
  k_is_table : PySem.W.keepIn K (.ref f_is_table) = true
  b_is_table : Binds K fd_is_table ["thing"] []
  f_is_row : Addr
  fd_is_row : FuncData
  F_is_row : Fun K "is_row" "is_row" s_is_row f_is_row fd_is_row
  g_is_row : mg "is_row" = some (.ref f_is_row)
  k_is_row : PySem.W.keepIn K (.ref f_is_row) = true
  b_is_row : Binds K fd_is_row ["thing"] []
  f_check_table : Addr
  fd_check_table : FuncData
  F_check_table : Fun K "check_table" "check_table" s_check_table f_check_table fd_check_table
  g_check_table : mg "check_table" = some (.ref f_check_table)
  k_check_table : PySem.W.keepIn K (.ref f_check_table) = true
  b_check_table : Binds K fd_check_table ["thing"] []
  f_row_totals : Addr
  fd_row_totals : FuncData
  F_row_totals : Fun K "row_totals" "row_totals" s_row_totals f_row_totals fd_row_totals
  g_row_totals : mg "row_totals" = some (.ref f_row_totals)
  k_row_totals : PySem.W.keepIn K (.ref f_row_totals) = true
  b_row_totals : Binds K fd_row_totals ["table", "numbers"] []
  f_spread : Addr
  fd_spread : FuncData
  F_spread : Fun K "spread" "spread" s_spread f_spread fd_spread
  g_spread : mg "spread" = some (.ref f_spread)
  k_spread : PySem.W.keepIn K (.ref f_spread) = true
  b_spread : Binds K fd_spread ["table"] []
  f_how_far : Addr
  fd_how_far : FuncData
  F_how_far : Fun K "how_far" "how_far" s_how_far f_how_far fd_how_far
  g_how_far : mg "how_far" = some (.ref f_how_far)
  k_how_far : PySem.W.keepIn K (.ref f_how_far) = true
  b_how_far : Binds K fd_how_far ["table", "signs"] []
  f__law_source_of : Addr
  fd__law_source_of : FuncData
  F__law_source_of : Fun K "_law_source_of" "_law_source_of" s__law_source_of f__law_source_of fd__law_source_of
  g__law_source_of : mg "_law_source_of" = some (.ref f__law_source_of)
  k__law_source_of : PySem.W.keepIn K (.ref f__law_source_of) = true
  b__law_source_of : Binds K fd__law_source_of ["_law_cell"] []
  f__law_next : Addr
  fd__law_next : FuncData
  F__law_next : Fun K "_law_next" "_law_next" s__law_next f__law_next fd__law_next
  g__law_next : mg "_law_next" = some (.ref f__law_next)
  k__law_next : PySem.W.keepIn K (.ref f__law_next) = true
  b__law_next : Binds K fd__law_next ["_law_source", "_law_many"] []
  f__law_one : Addr
  fd__law_one : FuncData
  F__law_one : Fun K "_law_one" "_law_one" s__law_one f__law_one fd__law_one
  g__law_one : mg "_law_one" = some (.ref f__law_one)
  k__law_one : PySem.W.keepIn K (.ref f__law_one) = true
  b__law_one : Binds K fd__law_one ["_law_source", "_law_some"] []
  f__law_cell_at : Addr
  fd__law_cell_at : FuncData
  F__law_cell_at : Fun K "_law_cell_at" "_law_cell_at" s__law_cell_at f__law_cell_at fd__law_cell_at
  g__law_cell_at : mg "_law_cell_at" = some (.ref f__law_cell_at)
  k__law_cell_at : PySem.W.keepIn K (.ref f__law_cell_at) = true
  b__law_cell_at : Binds K fd__law_cell_at ["_law_script", "_law_k"] []
  f__law_mixed : Addr
  fd__law_mixed : FuncData
  F__law_mixed : Fun K "_law_mixed" "_law_mixed" s__law_mixed f__law_mixed fd__law_mixed
  g__law_mixed : mg "_law_mixed" = some (.ref f__law_mixed)
  k__law_mixed : PySem.W.keepIn K (.ref f__law_mixed) = true
  b__law_mixed : Binds K fd__law_mixed ["_law_source", "_law_some"] []
  f__law_ends : Addr
  fd__law_ends : FuncData
  F__law_ends : Fun K "_law_ends" "_law_ends" s__law_ends f__law_ends fd__law_ends
  g__law_ends : mg "_law_ends" = some (.ref f__law_ends)
  k__law_ends : PySem.W.keepIn K (.ref f__law_ends) = true
  b__law_ends : Binds K fd__law_ends ["_law_source", "_law_many"] []
  f__law_net : Addr
  fd__law_net : FuncData
  F__law_net : Fun K "_law_net" "_law_net" s__law_net f__law_net fd__law_net
  g__law_net : mg "_law_net" = some (.ref f__law_net)
  k__law_net : PySem.W.keepIn K (.ref f__law_net) = true
  b__law_net : Binds K fd__law_net ["_law_ends_here", "_law_arcs"] []
  f__law_net_drawn : Addr
  fd__law_net_drawn : FuncData
  F__law_net_drawn : Fun K "_law_net_drawn" "_law_net_drawn" s__law_net_drawn f__law_net_drawn fd__law_net_drawn
  g__law_net_drawn : mg "_law_net_drawn" = some (.ref f__law_net_drawn)
  k__law_net_drawn : PySem.W.keepIn K (.ref f__law_net_drawn) = true
  b__law_net_drawn : Binds K fd__law_net_drawn ["_law_source", "_law_many", "_law_wide"] []
  f__law_stretches : Addr
  fd__law_stretches : FuncData
  F__law_stretches : Fun K "_law_stretches" "_law_stretches" s__law_stretches f__law_stretches fd__law_stretches
  g__law_stretches : mg "_law_stretches" = some (.ref f__law_stretches)
  k__law_stretches : PySem.W.keepIn K (.ref f__law_stretches) = true
  b__law_stretches : Binds K fd__law_stretches ["_law_source", "_law_many", "_law_wide"] []
  f__law_swung : Addr
  fd__law_swung : FuncData
  F__law_swung : Fun K "_law_swung" "_law_swung" s__law_swung f__law_swung fd__law_swung
  g__law_swung : mg "_law_swung" = some (.ref f__law_swung)
  k__law_swung : PySem.W.keepIn K (.ref f__law_swung) = true
  b__law_swung : Binds K fd__law_swung ["_law_source", "_law_table_here"] []
  f__law_table : Addr
  fd__law_table : FuncData
  F__law_table : Fun K "_law_table" "_law_table" s__law_table f__law_table fd__law_table
  g__law_table : mg "_law_table" = some (.ref f__law_table)
  k__law_table : PySem.W.keepIn K (.ref f__law_table) = true
  b__law_table : Binds K fd__law_table ["_law_source", "_law_most"] []
  f__law_whole_table : Addr
  fd__law_whole_table : FuncData
  F__law_whole_table : Fun K "_law_whole_table" "_law_whole_table" s__law_whole_table f__law_whole_table fd__law_whole_table
  g__law_whole_table : mg "_law_whole_table" = some (.ref f__law_whole_table)
  k__law_whole_table : PySem.W.keepIn K (.ref f__law_whole_table) = true
  b__law_whole_table : Binds K fd__law_whole_table ["_law_source", "_law_most"] []
  f__law_whole_sums : Addr
  fd__law_whole_sums : FuncData
  F__law_whole_sums : Fun K "_law_whole_sums" "_law_whole_sums" s__law_whole_sums f__law_whole_sums fd__law_whole_sums
  g__law_whole_sums : mg "_law_whole_sums" = some (.ref f__law_whole_sums)
  k__law_whole_sums : PySem.W.keepIn K (.ref f__law_whole_sums) = true
  b__law_whole_sums : Binds K fd__law_whole_sums ["_law_table_here", "_law_xs"] []
  f__law_signings : Addr
  fd__law_signings : FuncData
  F__law_signings : Fun K "_law_signings" "_law_signings" s__law_signings f__law_signings fd__law_signings
  g__law_signings : mg "_law_signings" = some (.ref f__law_signings)
  k__law_signings : PySem.W.keepIn K (.ref f__law_signings) = true
  b__law_signings : Binds K fd__law_signings ["_law_many"] []
  f__law_out : Addr
  fd__law_out : FuncData
  F__law_out : Fun K "_law_out" "_law_out" s__law_out f__law_out fd__law_out
  g__law_out : mg "_law_out" = some (.ref f__law_out)
  k__law_out : PySem.W.keepIn K (.ref f__law_out) = true
  b__law_out : Binds K fd__law_out ["_law_table_here", "_law_signs"] []
  f_law : Addr
  fd_law : FuncData
  F_law : Fun K "law" "law" s_law f_law fd_law
  g_law : mg "law" = some (.ref f_law)
  k_law : PySem.W.keepIn K (.ref f_law) = true
  b_law : Binds K fd_law ["_law_script"] []
  t_MOST : Tok
  g_MOST : mg "MOST" = some (.int 8 t_MOST)
  n_abs : mg "abs" = none
  n_all : mg "all" = none
  n_bool : mg "bool" = none
  n_enumerate : mg "enumerate" = none
  n_int : mg "int" = none
  n_isinstance : mg "isinstance" = none
  n_len : mg "len" = none
  n_list : mg "list" = none
  n_max : mg "max" = none
  n_min : mg "min" = none
  n_range : mg "range" = none
  n_repr : mg "repr" = none
  n_sum : mg "sum" = none
  n_zip : mg "zip" = none
  f_SignError : Addr
  g_SignError : mg "SignError" = some (.ref f_SignError)
  f_BadTable : Addr
  g_BadTable : mg "BadTable" = some (.ref f_BadTable)
  k_SignError : PySem.W.keepIn K (.ref f_SignError) = true
  ex_SignError : PySem.W.subIn K (.ref f_SignError) (.type "BaseException") = some true
  tx_SignError : PySem.W.typeIn K (.ref f_SignError) = some (.type "type")
  k_BadTable : PySem.W.keepIn K (.ref f_BadTable) = true
  ex_BadTable : PySem.W.subIn K (.ref f_BadTable) (.type "BaseException") = some true
  tx_BadTable : PySem.W.typeIn K (.ref f_BadTable) = some (.type "type")
  x_BadTable : PySem.W.excIn K f_BadTable aeT "ArithmeticError.__new__" = true
  c_law : Addr
  P_law : Addr
  lkL : ∃ (oc : Value) (od : Option Addr) (kV doc pm : Value) (an : Option Addr) (ct : Value) (osl : Array (Option Value)), fd_spread = PySem.W.fnOf "spread" "spread" (defArgs s_spread) (defBody s_spread) (defScope s_spread) .none kV doc pm an (.ref c_law) ct ∧ K.lookup f_spread = some ⟨oc, od, .func fd_spread, osl⟩ ∧ PySem.W.codeIn K (.ref c_law) "spread" = true
/-! ### numbers -/
def Bd (n : Nat) (i : Int) : Prop := i.natAbs < 2 ^ n
theorem Bd.mono {a b : Nat} {i : Int} (h : Bd a i) (hab : a ≤ b) : Bd b i := Nat.lt_of_lt_of_le h (Nat.pow_le_pow_right (by decide) hab)
theorem Bd.mul {a b : Nat} {i j : Int} (h : Bd a i) (g : Bd b j) : Bd (a + b) (i * j) := wide_lt h g
theorem Bd.add {a : Nat} {i j : Int} (h : Bd a i) (g : Bd a j) : Bd (a + 1) (i + j) := by
  have h1 : i.natAbs < 2 ^ a := h
  have h2 : j.natAbs < 2 ^ a := g
  show (i + j).natAbs < 2 ^ (a + 1)
  rw [Nat.pow_succ]
  omega
theorem Bd.sub {a : Nat} {i j : Int} (h : Bd a i) (g : Bd a j) : Bd (a + 1) (i - j) := by
  have h1 : i.natAbs < 2 ^ a := h
  have h2 : j.natAbs < 2 ^ a := g
  show (i - j).natAbs < 2 ^ (a + 1)
  rw [Nat.pow_succ]
  omega
theorem Bd.neg {a : Nat} {i : Int} (h : Bd a i) : Bd a (-i) := by
  show (-i).natAbs < 2 ^ a
  rw [Int.natAbs_neg]
  exact h
theorem Bd.abs {a : Nat} {i j : Int} (h : Bd a i) (e : j.natAbs ≤ i.natAbs) : Bd a j := Nat.lt_of_le_of_lt e h
theorem Bd.mulOk {a b : Nat} {i j : Int} (h : Bd a i) (g : Bd b j) (h0 : 0 < a := by decide) (h1 : 0 < b := by decide) (hs : a + b ≤ 1000000 := by decide) : CMulW i j := wide_mul h g h0 h1 hs
theorem Bd.divOk {b : Nat} {i j : Int} (h : 0 < j) (g : Bd b j) (h0 : 0 < b := by decide) (h9 : b ≤ 9000 := by decide) : CDivW i j := wide_div h g h0 h9
/-- // by a divisor other than 0 below 2 ^ 9000 -/
def CDivNW (_ j : Int) : Prop := j ≠ 0 ∧ j.natAbs.log2 < 9000
theorem Bd.divNOk {b : Nat} {i j : Int} (h : j ≠ 0) (g : Bd b j) (h0 : 0 < b := by decide) (h9 : b ≤ 9000 := by decide) : CDivNW i j := ⟨h, Nat.lt_of_lt_of_le (PySem.Flt.log2_lt_of h0 g) h9⟩
theorem op_fdivNW {X : Cx} : OpR X (binaryOp .FloorDiv) (rI CDivNW fun i j => .int (i.fdiv j)) := opI fun _ _ _ _ _ _ _ hc q => floordiv_int hc.1 q (.inl (PyProof.noPylong_of_log2 hc.2))
/-! ### heaps -/
/-- all but what stands at s is as it was -/
def ExB (s : Addr) (H H' : Hp) : Prop := ∀ b o, b ≠ s → H b = some o → H' b = some o
theorem ExB.trans {s : Addr} {H H1 H2 : Hp} (a : ExB s H H1) (b : ExB s H1 H2) : ExB s H H2 := fun c o n h => b c o n (a c o n h)
theorem ExB.refl (s : Addr) (H : Hp) : ExB s H H := fun _ _ _ h => h
theorem ExB.of {s : Addr} {H H1 : Hp} (a : Ex H H1) : ExB s H H1 := fun c o _ h => a c o h
theorem ExB.ex {s : Addr} {H H1 H2 : Hp} (a : ExB s H1 H2) (n : H s = none) (e : Ex H H1) : Ex H H2 := fun b o h => a b o (ne_of_none h n) (e b o h)
theorem ExB.upd (s : Addr) (H : Hp) (o : HO) : ExB s H (upd H s o) := fun b u n h => by
  rw [upd_ne n]
  exact h
theorem Ex.updB {s : Addr} {H H' : Hp} {o : HO} (e : Ex H H') : ExB s H (upd H' s o) := fun b u n h => by
  rw [upd_ne n]
  exact e b u h
/-- the source of a law's numbers: n at least the numbers made so far -/
def SrcAt (H : Hp) (s : Addr) (n : Int) : Prop := ∃ p q r : Int, H s = some (.lst [.int p, .int q, .int r]) ∧ 0 ≤ q ∧ q < 2147483647 ∧ 0 ≤ r ∧ r ≤ n
theorem SrcAt.ex {H H' : Hp} {s : Addr} {n : Int} (h : SrcAt H s n) (e : Ex H H') : SrcAt H' s n := by
  obtain ⟨p, q, r, h1, h2⟩ := h
  exact ⟨p, q, r, e _ _ h1, h2⟩
theorem SrcAt.exB {H H' : Hp} {s t : Addr} {n : Int} (h : SrcAt H s n) (e : ExB t H H') (ne : s ≠ t) : SrcAt H' s n := by
  obtain ⟨p, q, r, h1, h2⟩ := h
  exact ⟨p, q, r, e _ _ ne h1, h2⟩
theorem SrcAt.le {H : Hp} {s : Addr} {n m : Int} (h : SrcAt H s n) (e : n ≤ m) : SrcAt H s m := by
  obtain ⟨p, q, r, h1, h2, h3, h4, h5⟩ := h
  exact ⟨p, q, r, h1, h2, h3, h4, by omega⟩
theorem SrcAt.obj {H : Hp} {s : Addr} {n : Int} (h : SrcAt H s n) : ∃ o, H s = some o := by
  obtain ⟨p, q, r, h1, _⟩ := h
  exact ⟨_, h1⟩
/-- classes that is_whole is asked about -/
def tyOk (t : String) : Prop := t = "int" ∨ t = "bool" ∨ t = "NoneType" ∨ t = "str" ∨ t = "tuple" ∨ t = "list" ∨ t = "dict"
theorem ty_int {t : String} (h : tyOk t) : kitB t "int" = some (t == "int" || t == "bool") := by
  rcases h with rfl | rfl | rfl | rfl | rfl | rfl | rfl <;> decide +kernel
theorem ty_bool {t : String} (h : tyOk t) : kitB t "bool" = some (t == "bool") := by
  rcases h with rfl | rfl | rfl | rfl | rfl | rfl | rfl <;> decide +kernel
theorem ty_tuple {t : String} (h : tyOk t) : kitB t "tuple" = some (t == "tuple") := by
  rcases h with rfl | rfl | rfl | rfl | rfl | rfl | rfl <;> decide +kernel
theorem ty_list {t : String} (h : tyOk t) : kitB t "list" = some (t == "list") := by
  rcases h with rfl | rfl | rfl | rfl | rfl | rfl | rfl <;> decide +kernel
theorem prime_at (r : Int) (h : 0 ≤ r) : ∃ p : Int, atI [V.int 2147483647, V.int 2147483629, V.int 2147483587, V.int 2147483579, V.int 2147483563, V.int 2147483549, V.int 2147483543] (r % 7) = some (.int p) ∧ 0 < p ∧ p ≤ 2147483647 := by
  have h1 : 0 ≤ r % 7 := Int.emod_nonneg _ (by decide)
  have h2 : r % 7 < 7 := Int.emod_lt_of_pos _ (by decide)
  generalize r % 7 = k at h1 h2
  have hk : k = 0 ∨ k = 1 ∨ k = 2 ∨ k = 3 ∨ k = 4 ∨ k = 5 ∨ k = 6 := by omega
  rcases hk with rfl | rfl | rfl | rfl | rfl | rfl | rfl <;> exact ⟨_, rfl, by decide, by decide⟩
/-! ### data, lists, tables -/
mutual
theorem dp_mono {K : PySem.W.Frag} {H H' : Hp} (h : ∀ a xs, SqL K H a xs → SqL K H' a xs) (h2 : ∀ a xs, SqT K H a xs → SqT K H' a xs) : ∀ {v : V} {d : PyData}, Dp K H v d → Dp K H' v d
  | _, _, .non => .non
  | _, _, .bl b => .bl b
  | _, _, .int i => .int i
  | _, _, .str x => .str x
  | _, _, .lst a b => .lst (h _ _ a) (dpAll_mono h h2 b)
  | _, _, .tup a b => .tup (h2 _ _ a) (dpAll_mono h h2 b)
theorem dpAll_mono {K : PySem.W.Frag} {H H' : Hp} (h : ∀ a xs, SqL K H a xs → SqL K H' a xs) (h2 : ∀ a xs, SqT K H a xs → SqT K H' a xs) : ∀ {vs : List V} {ds : List PyData}, DpAll K H vs ds → DpAll K H' vs ds
  | _, _, .nil => .nil
  | _, _, .cons a b => .cons (dp_mono h h2 a) (dpAll_mono h h2 b)
end
theorem dp_ex {K : PySem.W.Frag} {H H' : Hp} (e : Ex H H') {v : V} {d : PyData} (h : Dp K H v d) : Dp K H' v d := dp_mono (fun _ _ => ex_l e) (fun _ _ => ex_t e) h
theorem dpAll_ex {K : PySem.W.Frag} {H H' : Hp} (e : Ex H H') {v : List V} {d : List PyData} (h : DpAll K H v d) : DpAll K H' v d := dpAll_mono (fun _ _ => ex_l e) (fun _ _ => ex_t e) h
def NiceD (d : PyData) : Prop := d.canLay0 = true ∧ d.depth ≤ 8
/-- v is data, whatever becomes of the object at s -/
def DatV (K : PySem.W.Frag) (H : Hp) (s : Addr) (v : V) : Prop := ∀ H', ExB s H H' → ∃ d, Dp K H' v d ∧ NiceD d
theorem DatV.exB {K : PySem.W.Frag} {H H' : Hp} {s : Addr} {v : V} (h : DatV K H s v) (e : ExB s H H') : DatV K H' s v := fun H2 e2 => h H2 (e.trans e2)
theorem datv_int {K : PySem.W.Frag} {H : Hp} {s : Addr} (i : Int) : DatV K H s (.int i) := fun _ _ => ⟨_, .int i, rfl, Nat.zero_le _⟩
theorem datv_pair {K : PySem.W.Frag} {H : Hp} {s a : Addr} {x y : Int} (h : H a = some (.tup [.int x, .int y])) (n : a ≠ s) : DatV K H s (.ref a) := fun H' e =>
  ⟨_, .tup (SqT.of (e _ _ n h)) (.cons (.int x) (.cons (.int y) .nil)), rfl, Nat.le_of_ble_eq_true rfl⟩
theorem dpAll_ints {K : PySem.W.Frag} {H : Hp} : ∀ ns : List Int, DpAll K H (ns.map V.int) (ns.map PyData.int)
  | [] => .nil
  | n :: r => .cons (.int n) (dpAll_ints r)
theorem canLay_ints : ∀ ns : List Int, PyData.canLayAll0 (ns.map PyData.int) = true
  | [] => rfl
  | n :: r => by
    show (true && PyData.canLayAll0 (r.map PyData.int)) = true
    rw [canLay_ints r]
    rfl
theorem depth_ints : ∀ ns : List Int, PyData.depthAll (ns.map PyData.int) = 0
  | [] => rfl
  | n :: r => by
    show max 0 (PyData.depthAll (r.map PyData.int)) = 0
    rw [depth_ints r]
    rfl
theorem datv_row {K : PySem.W.Frag} {H : Hp} {s a : Addr} {ns : List Int} (h : H a = some (.lst (ns.map V.int))) (n : a ≠ s) : DatV K H s (.ref a) := fun H' e =>
  ⟨_, .lst (SqL.of (e _ _ n h)) (dpAll_ints ns), canLay_ints ns, by
    show PyData.depthAll (ns.map PyData.int) + 1 ≤ 8
    rw [depth_ints]
    decide⟩
theorem dat_all {K : PySem.W.Frag} {H : Hp} {s : Addr} : ∀ {xs : List V}, (∀ v ∈ xs, DatV K H s v) → ∃ ds, DpAll K H xs ds ∧ PyData.canLayAll0 ds = true ∧ PyData.depthAll ds ≤ 8
  | [], _ => ⟨[], .nil, rfl, by decide⟩
  | x :: xs, h => by
    obtain ⟨d, h1, h2, h3⟩ := h x (List.mem_cons_self ..) H (ExB.refl _ _)
    obtain ⟨ds, g1, g2, g3⟩ := dat_all (xs := xs) fun v hv => h v (List.mem_cons_of_mem _ hv)
    refine ⟨d :: ds, .cons h1 g1, ?_, ?_⟩
    · show (d.canLay0 && PyData.canLayAll0 ds) = true
      rw [h2, g2]
      rfl
    · show max d.depth (PyData.depthAll ds) ≤ 8
      omega
theorem shaped_list {ds : List PyData} (h : PyData.canLayAll0 ds = true) (h2 : PyData.depthAll ds ≤ 60) : SeqAt.shaped (.list ds) = true := by
  unfold SeqAt.shaped
  have e1 : (PyData.list ds).canLay0 = true := h
  have e2 : (PyData.list ds).depth ≤ 64 := by
    show PyData.depthAll ds + 1 ≤ 64
    omega
  rw [e1, decide_eq_true e2]
  rfl
theorem eqv_nil (ds : List PyData) : PyData.eqv (.list ds) (.list []) = ds.isEmpty := by
  cases ds <;> rfl
theorem Paired.perm {α β : Type} {R : α → β → Prop} {xs xs' : List α} (hp : xs'.Perm xs) : ∀ {ys : List β}, Paired R xs ys → ∃ ys', ys'.Perm ys ∧ Paired R xs' ys' := by
  induction hp with
  | nil => intro ys h; exact ⟨ys, .refl _, h⟩
  | cons x _ ih =>
    intro ys h
    cases h with
    | cons r t =>
      obtain ⟨ys', p, q⟩ := ih t
      exact ⟨_ :: ys', p.cons _, .cons r q⟩
  | swap x y l =>
    intro ys h
    cases h with
    | cons r t =>
      cases t with
      | cons r2 t2 => exact ⟨_, List.Perm.swap .., .cons r2 (.cons r t2)⟩
  | trans _ _ ih1 ih2 =>
    intro ys h
    obtain ⟨y1, p1, q1⟩ := ih2 h
    obtain ⟨y2, p2, q2⟩ := ih1 q1
    exact ⟨y2, p2.trans p1, q2⟩
theorem fresh_B {s p : Addr} {H H' : Hp} (e : ExB s H H') (hp : H' p = none) (hs : ∃ o, H' s = some o) : H p = none := by
  cases q : H p with
  | none => rfl
  | some o =>
    by_cases h : p = s
    · subst h
      obtain ⟨o', ho'⟩ := hs
      rw [ho'] at hp
      cases hp
    · rw [e p o h q] at hp
      cases hp
theorem SrcAt.ne {H : Hp} {s p : Addr} {n : Int} (h : SrcAt H s n) (hp : H p = none) : p ≠ s := by
  intro e
  subst e
  obtain ⟨o, ho⟩ := h.obj
  rw [ho] at hp
  cases hp
theorem SrcAt.neT {H : Hp} {s p : Addr} {n : Int} {xs : List V} (h : SrcAt H s n) (hp : H p = some (.tup xs)) : p ≠ s := by
  intro e
  subst e
  obtain ⟨_, _, _, ho, _⟩ := h
  rw [ho] at hp
  cases hp
theorem ExB.l {K : PySem.W.Frag} {s a : Addr} {H H' : Hp} {xs : List V} (e : ExB s H H') (n : a ≠ s) (h : SqL K H a xs) : SqL K H' a xs := by
  rcases h with (h | ⟨o, h⟩) | h
  · exact .inl (.inl (e _ _ n h))
  · exact .inl (.inr ⟨o, e _ _ n h⟩)
  · exact .inr h
theorem seqIx {i n : Int} {k : Nat} (h0 : 0 ≤ i) (h1 : i < (k : Int)) : seqIndex? i k = some i.toNat := by
  unfold seqIndex?
  split <;> simp_all <;> omega
theorem erase_perm {α : Type} : ∀ {ls : List α} {k : Nat} {y : α}, ls[k]? = some y → (y :: ls.eraseIdx k).Perm ls
  | [], _, _, h => by simp at h
  | a :: l, 0, y, h => by
    have e := Option.some.inj h
    subst e
    exact .refl _
  | a :: l, k + 1, y, h => (List.Perm.swap a y _).trans ((erase_perm (ls := l) (k := k) h).cons a)
theorem perm_pop {α : Type} {fs ls : List α} {k : Nat} {y : α} (h : ls[k]? = some y) : ((fs ++ [y]) ++ ls.eraseIdx k).Perm (fs ++ ls) := by
  have h1 := erase_perm h
  rw [List.append_assoc]
  exact List.Perm.append_left fs h1
/-- the table at p: its rows at the places as -/
def RowsAt (H : Hp) : List Addr → List (List Int) → Prop := Paired fun a r => H a = some (.lst (r.map V.int))
def Tab (H : Hp) (p : Addr) (as : List Addr) (rows : List (List Int)) : Prop := H p = some (.lst (as.map V.ref)) ∧ RowsAt H as rows
theorem RowsAt.ex {H H' : Hp} (e : Ex H H') : ∀ {as : List Addr} {rows : List (List Int)}, RowsAt H as rows → RowsAt H' as rows
  | _, _, .nil => .nil
  | _, _, .cons h t => .cons (e _ _ h) (RowsAt.ex e t)
theorem Tab.ex {H H' : Hp} {p : Addr} {as : List Addr} {rows : List (List Int)} (h : Tab H p as rows) (e : Ex H H') : Tab H' p as rows := ⟨e _ _ h.1, h.2.ex e⟩
/-! ### edges -/
def EdgesAt (H : Hp) : List Addr → List (Int × Int) → Prop := Paired fun a e => H a = some (.tup [.int e.1, .int e.2])
theorem paired_imp {α β : Type} {R R' : α → β → Prop} (h : ∀ a b, R a b → R' a b) : ∀ {xs : List α} {ys : List β}, Paired R xs ys → Paired R' xs ys
  | _, _, .nil => .nil
  | _, _, .cons r t => .cons (h _ _ r) (paired_imp h t)
theorem EdgesAt.mono {H H' : Hp} {as : List Addr} {es : List (Int × Int)} (h : ∀ a xs, H a = some (.tup xs) → H' a = some (.tup xs)) (x : EdgesAt H as es) : EdgesAt H' as es := paired_imp (fun _ _ r => h _ _ r) x
theorem tups_B {H H' : Hp} {s : Addr} {n : Int} (hs : SrcAt H s n) (e : ExB s H H') : ∀ a xs, H a = some (.tup xs) → H' a = some (.tup xs) := fun a _ h => e a _ (hs.neT h) h
theorem tups_E {H H' : Hp} (e : Ex H H') : ∀ a xs, H a = some (.tup xs) → H' a = some (.tup xs) := fun a _ h => e a _ h
theorem tups_U {H : Hp} {l : Addr} {xs : List V} {o : HO} (h : H l = some (.lst xs)) : ∀ a ys, H a = some (.tup ys) → upd H l o a = some (.tup ys) := fun a ys g => by
  rw [upd_ne (ne_of g h (by intro z; cases z))]
  exact g
def Conn (es : List (Int × Int)) (m : Int) : Prop := ∀ S : Int → Bool, (∀ e ∈ es, S e.1 = S e.2) → ∀ a b, 0 ≤ a → a ≤ m → 0 ≤ b → b ≤ m → S a = S b
theorem Conn.perm {es es' : List (Int × Int)} {m : Int} (h : Conn es m) (p : es'.Perm es) : Conn es' m := fun S hS => h S fun e he => hS e (p.mem_iff.mpr he)
def EdgeTree (pl : List Int) (es : List (Int × Int)) : Prop := ∀ j, j < es.length → ∃ i a b, i ≤ j ∧ pl[i]? = some a ∧ pl[j + 1]? = some b ∧ (es[j]? = some (a, b) ∨ es[j]? = some (b, a))
theorem EdgeTree.more {pl : List Int} {es : List (Int × Int)} {e : Int × Int} {i : Nat} {a b : Int} (h : EdgeTree pl es) (hi : i ≤ es.length) (ha : pl[i]? = some a) (hb : pl[es.length + 1]? = some b) (he : e = (a, b) ∨ e = (b, a)) : EdgeTree pl (es ++ [e]) := by
  intro j hj
  rw [List.length_append] at hj
  have hj' : j < es.length + 1 := hj
  by_cases h1 : j < es.length
  · obtain ⟨i', a', b', x1, x2, x3, x4⟩ := h j h1
    refine ⟨i', a', b', x1, x2, x3, ?_⟩
    rw [List.getElem?_append_left h1]
    exact x4
  · have h2 : j = es.length := by omega
    subst h2
    refine ⟨i, a, b, hi, ha, hb, ?_⟩
    rw [List.getElem?_append_right (Nat.le_refl _), Nat.sub_self]
    rcases he with rfl | rfl
    · exact .inl rfl
    · exact .inr rfl
theorem EdgeTree.conn {pl : List Int} {es : List (Int × Int)} {m : Nat} (h : EdgeTree pl es) (hl : es.length = m) (hp : pl.length = m + 1) (hall : ∀ a : Int, 0 ≤ a → a ≤ m → a ∈ pl) : Conn es m := by
  intro S hS
  have key : ∀ j : Nat, ∀ j' : Nat, j' ≤ j → ∀ a, pl[j']? = some a → ∀ z, pl[0]? = some z → S a = S z := by
    intro j
    induction j with
    | zero =>
      intro j' hj' a ha z hz
      have : j' = 0 := by omega
      subst this
      rw [hz] at ha
      rw [Option.some.inj ha]
    | succ j ih =>
      intro j' hj' a ha z hz
      by_cases h1 : j' ≤ j
      · exact ih j' h1 a ha z hz
      · have h2 : j' = j + 1 := by omega
        subst h2
        have hlt : j + 1 < pl.length := (List.getElem?_eq_some_iff.mp ha).1
        obtain ⟨i, x, y, hi, hx, hy, he⟩ := h j (by omega)
        rw [ha] at hy
        have ey := Option.some.inj hy
        subst ey
        have hSe : S x = S a := by
          rcases he with he | he
          · exact hS (x, a) (List.mem_of_getElem? he)
          · exact (hS (a, x) (List.mem_of_getElem? he)).symm
        rw [← hSe]
        exact ih i hi x hx z hz
  intro a b ha ha' hb hb'
  obtain ⟨i, hi⟩ := List.getElem?_of_mem (hall a ha ha')
  obtain ⟨j, hj⟩ := List.getElem?_of_mem (hall b hb hb')
  have hz : ∃ z, pl[0]? = some z := ⟨_, List.getElem?_eq_getElem (by omega)⟩
  obtain ⟨z, hz⟩ := hz
  rw [key i i (Nat.le_refl _) a hi z hz, key j j (Nat.le_refl _) b hj z hz]
theorem paired_map {α β : Type} {R : α → β → Prop} (f : β → α) (h : ∀ b, R (f b) b) : ∀ ys : List β, Paired R (ys.map f) ys
  | [] => .nil
  | b :: r => .cons (h b) (paired_map f h r)
theorem paired_eq_map {α β : Type} {f : β → α} : ∀ {xs : List α} {ys : List β}, Paired (fun x y => x = f y) xs ys → xs = ys.map f
  | _, _, .nil => rfl
  | _, _, .cons r t => by rw [r, paired_eq_map t]; rfl
theorem perm_ints {ys : List V} {ns : List Int} (h : ys.Perm (ns.map V.int)) : ∃ pl : List Int, ys = pl.map V.int ∧ pl.Perm ns := by
  obtain ⟨pl, p, q⟩ := Paired.perm (R := fun (x : V) y => x = V.int y) h (paired_map V.int (fun _ => rfl) ns)
  exact ⟨pl, paired_eq_map q, p⟩
theorem perm_refs {β : Type} {R : Addr → β → Prop} {ys : List V} {as : List Addr} {es : List β} (h : ys.Perm (as.map V.ref)) (hx : Paired R as es) : ∃ (as' : List Addr) (es' : List β), ys = as'.map V.ref ∧ es'.Perm es ∧ Paired R as' es' ∧ as'.Perm as := by
  obtain ⟨as', p, q⟩ := Paired.perm (R := fun (x : V) y => x = V.ref y) h (paired_map V.ref (fun _ => rfl) as)
  obtain ⟨es', p2, q2⟩ := Paired.perm p hx
  exact ⟨as', es', paired_eq_map q, p2, q2, p⟩
def numsTo (m : Nat) : List Int := (List.range m).map fun i : Nat => (i : Int)
theorem rgV_nums (m : Int) : rgV 0 m = (numsTo m.toNat).map V.int := by
  unfold rgV numsTo
  rw [List.map_map, Int.sub_zero]
  refine List.map_congr_left fun i _ => ?_
  show V.int (0 + (i : Int)) = V.int (i : Int)
  rw [Int.zero_add]
theorem mem_numsTo {m : Nat} {a : Int} : a ∈ numsTo m ↔ 0 ≤ a ∧ a < m := by
  unfold numsTo
  rw [List.mem_map]
  constructor
  · rintro ⟨i, hi, rfl⟩
    have := List.mem_range.mp hi
    omega
  · rintro ⟨h0, h1⟩
    exact ⟨a.toNat, List.mem_range.mpr (by omega), by omega⟩
theorem numsTo_length (m : Nat) : (numsTo m).length = m := by
  unfold numsTo
  rw [List.length_map, List.length_range]
theorem paired_snoc {α β : Type} {R : α → β → Prop} {a : α} {b : β} {xs : List α} {ys : List β} (h : Paired R xs ys) (r : R a b) : Paired R (xs ++ [a]) (ys ++ [b]) := Paired.snoc h r
theorem paired_mem {α β : Type} {R : α → β → Prop} : ∀ {xs : List α} {ys : List β} {x : α}, Paired R xs ys → x ∈ xs → ∃ y, y ∈ ys ∧ R x y
  | _, _, _, .nil, h => by simp at h
  | _, _, x, .cons (a := a) r t, h => by
    rcases List.mem_cons.mp h with e | h
    · subst e
      exact ⟨_, List.mem_cons_self .., r⟩
    · obtain ⟨y, hy, hr⟩ := paired_mem t h
      exact ⟨y, List.mem_cons_of_mem _ hy, hr⟩
/-! ### loops and comprehensions over more -/
theorem for_enum {K : PySem.W.Frag} {a : Addr} {xs : List V} {g : TG} {tb : TS} {D : Ends} {σ : L2.St} {H : Hp} (Pv : Nat → L2.St → Hp → Prop) (h0 : Pv 0 σ H) (hq : ∀ i σ H, Pv i σ H → SqL K H a xs)
    (hs : ∀ (i : Nat) (x : V) (T : Addr) (σ : L2.St) (H : Hp), xs[i]? = some x → Pv i σ H → H T = none → g (.ref T) σ (upd H T (.tup [.int (i : Nat), x])) fun σ2 H2 => tb { D with nx := Pv (i + 1), ct := Pv (i + 1), bk := D.nx } σ2 H2) (hd : ∀ σ H, Pv xs.length σ H → D.nx σ H) :
    ∃ W : Nat → Nat → L2.St → Hp → Prop, (∃ m, W 0 m σ H) ∧ ∀ i m σ H, W i m σ H →
      ((Ite K a).stop i H ∧ D.nx σ H) ∨ ((Ite K a).go i H ∧ ∃ N : L2.St → Hp → Prop, (∀ σ' H', N σ' H' → ∃ m', m' < m ∧ W (i + 1) m' σ' H') ∧ ∀ v H', (Ite K a).yld i H v H' → g v σ H' fun σ2 H2 => tb { D with nx := N, ct := N, bk := D.nx } σ2 H2) := by
  refine ⟨fun i m σ H => m = xs.length - i ∧ i ≤ xs.length ∧ Pv i σ H, ⟨xs.length, rfl, Nat.zero_le _, h0⟩, ?_⟩
  rintro i m σ H ⟨rfl, hi, p⟩
  have qx := hq i σ H p
  by_cases hlt : i < xs.length
  · have hx : xs[i]? = some xs[i] := List.getElem?_eq_getElem hlt
    refine .inr ⟨⟨xs, _, qx, hx⟩, Pv (i + 1), fun σ' H' p' => ⟨xs.length - (i + 1), by omega, rfl, hlt, p'⟩, fun v H' y => ?_⟩
    obtain ⟨T, x', rfl, hT, rfl, f1⟩ := y
    exact hs i x' T σ H (f1 xs qx) p hT
  · have e : i = xs.length := by omega
    subst e
    exact .inl ⟨⟨xs, qx, Nat.le_refl _⟩, hd σ H p⟩
theorem lc_zip {K : PySem.W.Frag} {a b : Addr} {xs ys : List V} {g : TG} {tt : TT} {te : TE} {vs : List Nat} {σ : L2.St} {H1 : Hp} {D : Addr} {Qd : Hp → Prop} (hl : xs.length = ys.length) (Pv : Nat → Hp → Prop) (h0 : Pv 0 (upd H1 D (.lst []))) (hq : ∀ i H, Pv i H → SqL K H a xs ∧ SqL K H b ys)
    (hs : ∀ (i : Nat) (x y : V) (T : Addr) (H : Hp), xs[i]? = some x → ys[i]? = some y → Pv i H → H T = none → g (.ref T) (wipe σ vs) (upd H T (.tup [x, y])) fun σ2 H2 => wipe σ2 vs = wipe σ vs ∧ tt σ2 H2 fun b H3 =>
      if b = true then te σ2 H3 fun y H4 => ∃ acc, H4 D = some (.lst acc) ∧ acc.length < sizeLine ∧ Pv (i + 1) (upd H4 D (.lst (acc ++ [y]))) else Pv (i + 1) H3) (hd : ∀ H, Pv xs.length H → Qd H) :
    ∃ W : Nat → Nat → Hp → Prop, (∃ m, W 0 m (upd H1 D (.lst []))) ∧ ∀ i m H, W i m H →
      ((Itz K a b).stop i H ∧ Qd H) ∨ ((Itz K a b).go i H ∧ ∃ Nx : Hp → Prop, (∀ H', Nx H' → ∃ m', m' < m ∧ W (i + 1) m' H') ∧ ∀ x H', (Itz K a b).yld i H x H' → g x (wipe σ vs) H' fun σ2 H2 => wipe σ2 vs = wipe σ vs ∧ tt σ2 H2 fun b H3 =>
        if b = true then te σ2 H3 fun y H4 => ∃ acc, H4 D = some (.lst acc) ∧ acc.length < sizeLine ∧ Nx (upd H4 D (.lst (acc ++ [y]))) else Nx H3) := by
  refine ⟨fun i m H => m = xs.length - i ∧ i ≤ xs.length ∧ Pv i H, ⟨xs.length, rfl, Nat.zero_le _, h0⟩, ?_⟩
  rintro i m H ⟨rfl, hi, p⟩
  obtain ⟨qx, qy⟩ := hq i H p
  by_cases hlt : i < xs.length
  · have hx : xs[i]? = some xs[i] := List.getElem?_eq_getElem hlt
    have hlt2 : i < ys.length := by omega
    have hy : ys[i]? = some ys[i] := List.getElem?_eq_getElem hlt2
    refine .inr ⟨⟨xs, ys, _, _, qx, qy, hx, hy⟩, Pv (i + 1), fun H' p' => ⟨xs.length - (i + 1), by omega, rfl, hlt, p'⟩, fun v H' y => ?_⟩
    obtain ⟨T, x', y', rfl, hT, rfl, f1, f2⟩ := y
    exact hs i x' y' T H (f1 xs qx) (f2 ys qy) p hT
  · have e : i = xs.length := by omega
    subst e
    exact .inl ⟨⟨xs, ys, qx, qy, Or.inl (Nat.le_refl _)⟩, hd H p⟩
abbrev g2 (K : PySem.W.Frag) (j1 j2 : Nat) : TG := gTup K 2 (gCons (gName j1) (gCons (gName j2) gNil))
theorem take_snoc {α : Type} {l : List α} {i : Nat} {x : α} (h : l[i]? = some x) : l.take (i + 1) = l.take i ++ [x] := by
  rw [List.take_add_one, h]
  rfl
/-- [f(x, y) for x, y in zip(xs, ys)] -/
theorem el_zip {K : PySem.W.Frag} {ta : TA} {te : TE} {vs : List Nat} {j1 j2 : Nat} {σ : L2.St} {H : Hp} {a b : Addr} {xs ys : List Int} (f : Int → Int → Int) (h : EvA ta σ H [.ref a, .ref b]) (hx : SqL K H a (xs.map V.int)) (hy : SqL K H b (ys.map V.int)) (hl : xs.length = ys.length) (hz : xs.length ≤ 1000)
    (hw : ∀ u v, wipe (((wipe σ vs).set j1 (some u)).set j2 (some v)) vs = wipe σ vs)
    (he : ∀ x y H1, x ∈ xs → y ∈ ys → Ex H H1 → Ev te (((wipe σ vs).set j1 (some (.int x))).set j2 (some (.int y))) H1 (.int (f x y))) : EvL (tLc (iZip K ta) (g2 K j1 j2) tYes te vs) σ H ((List.zipWith f xs ys).map V.int) := fun H0 e Q q => h H0 e _ fun H1 e1 => by
  have hx1 := ex_l (e.trans e1) hx
  have hy1 := ex_l (e.trans e1) hy
  refine ⟨a, b, _, _, rfl, hx1, hy1, fun D hD => ?_⟩
  refine lc_zip (xs := xs.map V.int) (ys := ys.map V.int) (by rw [List.length_map, List.length_map]; exact hl) (fun i H' => Ex H1 H' ∧ H' D = some (.lst (((List.zipWith f xs ys).take i).map V.int))) ⟨Ex.new hD, upd_same⟩ (fun i H' p => ⟨ex_l p.1 hx1, ex_l p.1 hy1⟩) (fun i x y T H' gx gy p nT => ?_) (fun H' p => ?_)
  · obtain ⟨p1, p2⟩ := p
    rw [List.getElem?_map] at gx gy
    obtain ⟨x', hx', rfl⟩ := Option.map_eq_some_iff.mp gx
    obtain ⟨y', hy', rfl⟩ := Option.map_eq_some_iff.mp gy
    refine ⟨T, _, rfl, SqT.of upd_same, rfl, _, _, rfl, _, _, rfl, rfl, hw _ _, ?_⟩
    show te _ _ _
    have xT : Ex H' (upd H' T (.tup [.int x', .int y'])) := Ex.new nT
    refine he x' y' H (List.mem_of_getElem? hx') (List.mem_of_getElem? hy') (Ex.refl H) _ ((e.trans e1).trans (p1.trans xT)) _ fun H4 e4 => ?_
    refine ⟨_, e4 _ _ (xT _ _ p2), ?_, Ex.mut ((p1.trans xT).trans e4) hD, ?_⟩
    · rw [List.length_map, List.length_take]
      have := (List.getElem?_eq_some_iff.mp hx').1
      exact small1000 (by omega)
    · have hzz : (List.zipWith f xs ys)[i]? = some (f x' y') := by
        rw [List.getElem?_zipWith, hx', hy']
      rw [upd_same, take_snoc hzz, List.map_append]
      rfl
  · obtain ⟨p1, p2⟩ := p
    rw [List.take_of_length_le (by rw [List.length_zipWith, List.length_map]; omega)] at p2
    exact q D H' (fresh_back e1 hD) (e1.trans p1) p2
/-- [g(x, y) for x, y in qs], qs a list of pairs -/
theorem el_pairs {K : PySem.W.Frag} {n : Nat} {te : TE} {vs : List Nat} {j1 j2 : Nat} {σ : L2.St} {H : Hp} {a : Addr} {bs : List Addr} {qs : List (Int × Int)} (f : Int × Int → Int) (hσ : σ[n]? = some (some (.ref a))) (hx : H a = some (.lst (bs.map V.ref))) (hE : EdgesAt H bs qs) (hz : qs.length ≤ 1000)
    (hw : ∀ u v, wipe (((wipe σ vs).set j1 (some u)).set j2 (some v)) vs = wipe σ vs)
    (he : ∀ e H1, e ∈ qs → Ex H H1 → Ev te (((wipe σ vs).set j1 (some (.int e.1))).set j2 (some (.int e.2))) H1 (.int (f e))) : EvL (tLc (iList K (tVar n)) (g2 K j1 j2) tYes te vs) σ H ((qs.map f).map V.int) := fun H1 e1 Q q => by
  have hx1 := e1 _ _ hx
  have el : bs.length = qs.length := Paired.length hE
  refine ⟨_, hσ, a, rfl, ⟨_, SqL.of hx1⟩, fun D hD => ?_⟩
  refine lc_list (K := K) (a := a) (xs := bs.map V.ref) (fun i H' => Ex H1 H' ∧ H' D = some (.lst (((qs.map f).take i).map V.int))) ⟨Ex.new hD, upd_same⟩ (fun i H' _ p => SqL.of (p.1 _ _ hx1)) (fun i x H' gx p => ?_) (fun H' p => ?_)
  · obtain ⟨p1, p2⟩ := p
    rw [List.getElem?_map] at gx
    obtain ⟨b, hb, rfl⟩ := Option.map_eq_some_iff.mp gx
    obtain ⟨ed, hed, hr⟩ := paired_get hE hb
    refine ⟨b, _, rfl, SqT.of ((e1.trans p1) _ _ hr), rfl, _, _, rfl, _, _, rfl, rfl, hw _ _, ?_⟩
    show te _ _ _
    refine he ed H (List.mem_of_getElem? hed) (Ex.refl H) _ (e1.trans p1) _ fun H4 e4 => ?_
    refine ⟨_, e4 _ _ p2, ?_, Ex.mut (p1.trans e4) hD, ?_⟩
    · rw [List.length_map, List.length_take, List.length_map]
      exact small1000 (by omega)
    · have hzz : (qs.map f)[i]? = some (f ed) := by rw [List.getElem?_map, hed]; rfl
      rw [upd_same, take_snoc hzz, List.map_append]
      rfl
  · obtain ⟨p1, p2⟩ := p
    rw [List.take_of_length_le (by rw [List.length_map, List.length_map]; omega)] at p2
    exact q D H' hD p1 p2
/-- [[..] for i in range(m)]: new rows -/
theorem lc_rows {ta : TA} {te : TE} {vs : List Nat} {j : Nat} {σ : L2.St} {H : Hp} {Q : VK} {m : Nat} (F : Nat → List Int) (h : EvA ta σ H [.int (m : Int)]) (hm : m ≤ 1000) (hw : ∀ u, wipe ((wipe σ vs).set j (some u)) vs = wipe σ vs)
    (he : ∀ i H1, Ex H H1 → i < m → EvL te ((wipe σ vs).set j (some (.int (i : Int)))) H1 ((F i).map V.int))
    (k : ∀ p as H2, H p = none → (∀ a ∈ as, H a = none) → as.Nodup → p ∉ as → Ex H H2 → Tab H2 p as ((List.range m).map F) → Q (.ref p) H2) : tLc (iRng1 ta) (gName j) tYes te vs σ H Q := by
  refine h H (Ex.refl H) _ fun H1 e1 => ⟨(m : Int), rfl, by omega, by omega, fun D hD => ?_⟩
  have hDH : H D = none := fresh_back e1 hD
  refine lc_range (lo := 0) (n := (m : Int).toNat) (fun i H' => ∃ as, Ex H1 H' ∧ H' D = some (.lst (as.map V.ref)) ∧ RowsAt H' as ((List.range i).map F) ∧ (∀ a ∈ as, H a = none) ∧ as.Nodup ∧ D ∉ as) ⟨[], Ex.new hD, upd_same, .nil, fun a ha => by simp at ha, List.nodup_nil, by simp⟩ (fun i H' hi p => ?_) (fun H' p => ?_)
  · obtain ⟨as, p1, p2, p3, p4, p5, p6⟩ := p
    have el : as.length = i := by rw [Paired.length p3, List.length_map, List.length_range]
    have e0 : (0 : Int) + (i : Int) = (i : Int) := Int.zero_add _
    refine ⟨hw _, ?_⟩
    show te ((wipe σ vs).set j (some (.int ((0 : Int) + (i : Int))))) H' _
    rw [e0]
    refine he i H' (e1.trans p1) (by omega) H' (Ex.refl _) _ fun r H4 nr e4 hr => ?_
    have nrD : r ≠ D := fun z => by
      rw [z, p2] at nr
      cases nr
    refine ⟨_, e4 _ _ p2, ?_, as ++ [r], Ex.mut (p1.trans e4) hD, ?_, ?_, ?_, ?_, ?_⟩
    · rw [List.length_map, el]
      exact small1000 (by omega)
    · rw [upd_same, List.map_append]
      rfl
    · rw [List.range_succ, List.map_append]
      have st : ∀ a (l : List Int), a ≠ D → H4 a = some (.lst (l.map V.int)) → upd H4 D (.lst (as.map V.ref ++ [.ref r])) a = some (.lst (l.map V.int)) := fun a l n g => by
        rw [upd_ne n]
        exact g
      refine paired_snoc ?_ (st r _ nrD hr)
      have aux : ∀ {as' : List Addr} {rs : List (List Int)}, D ∉ as' → RowsAt H' as' rs → RowsAt (upd H4 D (.lst (as.map V.ref ++ [.ref r]))) as' rs := by
        intro as' rs hn hp
        induction hp with
        | nil => exact .nil
        | cons g t ih => exact .cons (st _ _ (fun z => hn (by rw [z]; exact List.mem_cons_self ..)) (e4 _ _ g)) (ih fun z => hn (List.mem_cons_of_mem _ z))
      exact aux p6 p3
    · intro a ha
      rcases List.mem_append.mp ha with h | h
      · exact p4 a h
      · have : a = r := by simpa using h
        rw [this]
        exact fresh_back (e1.trans p1) nr
    · refine List.nodup_append.mpr ⟨p5, by simp, fun a ha b hb => ?_⟩
      have : b = r := by simpa using hb
      rw [this]
      intro z
      rw [z] at ha
      obtain ⟨x, _, hx⟩ := paired_mem p3 ha
      rw [nr] at hx
      cases hx
    · intro ha
      rcases List.mem_append.mp ha with h | h
      · exact p6 h
      · exact nrD (by simpa using h : D = r).symm
  · obtain ⟨as, p1, p2, p3, p4, p5, p6⟩ := p
    have em : (m : Int).toNat = m := by omega
    rw [em] at p3
    exact k D as H' hDH p4 p5 p6 (e1.trans p1) ⟨p2, p3⟩
/-! ### a dict of rows by places -/
theorem nodup_sub {α : Type} [DecidableEq α] : ∀ {l1 l2 : List α}, l1.Nodup → (∀ x ∈ l1, x ∈ l2) → l1.length ≤ l2.length
  | [], _, _, _ => Nat.zero_le _
  | a :: t, l2, hn, hs => by
    have h1 := List.nodup_cons.mp hn
    have ha := hs a (List.mem_cons_self ..)
    have ih := nodup_sub (l1 := t) (l2 := l2.erase a) h1.2 fun x hx => (List.mem_erase_of_ne (fun z => h1.1 (by rw [← z]; exact hx))).mpr (hs x (List.mem_cons_of_mem _ hx))
    rw [List.length_erase_of_mem ha] at ih
    have := List.length_pos_of_mem ha
    simp only [List.length_cons]
    omega
theorem rep_flat : ∀ m : Nat, (List.replicate m [V.int 0]).flatten = (List.replicate m 0).map V.int
  | 0 => rfl
  | m + 1 => by
    rw [List.replicate_succ, List.flatten_cons, rep_flat m]
    rfl
theorem nodup_nums (m : Nat) : (numsTo m).Nodup := by
  unfold numsTo
  exact List.Pairwise.map _ (fun a b h z => h (by omega)) List.nodup_range
theorem val_mem : ∀ {kvs : List (Key × V)} {L : List Int} {x : Int}, kvs.map (·.1) = L.map Sum.inl → ((valV kvs (Sum.inl x : Key)).isSome = true ↔ x ∈ L)
  | [], L, x, h => by
    cases L with
    | nil => simp [valV]
    | cons a l => simp at h
  | kv :: r, L, x, h => by
    cases L with
    | nil => simp at h
    | cons a l =>
      have h1 : kv.1 = Sum.inl a ∧ r.map (·.1) = l.map Sum.inl := by
        have := List.cons.inj h
        exact ⟨this.1, this.2⟩
      have ih := val_mem (kvs := r) (L := l) (x := x) h1.2
      by_cases e : x = a
      · subst e
        rw [valV_pos h1.1]
        simp
      · have ne : ¬ kv.1 = Sum.inl x := by
          rw [h1.1]
          intro z
          exact e (Sum.inl.inj z).symm
        have e2 : valV (kv :: r) (Sum.inl x : Key) = valV r (Sum.inl x : Key) := by
          simp [valV, List.find?_cons, ne]
        rw [e2, ih, List.mem_cons]
        exact ⟨Or.inr, fun z => z.resolve_left e⟩
/-- the dict at d: rows of m whole numbers by the places L -/
structure FarOk (H : Hp) (d : Addr) (m : Nat) (kvs : List (Key × V)) (L : List Int) : Prop where
  at_ : H d = some (.dK kvs)
  keys : kvs.map (·.1) = L.map Sum.inl
  nd : L.Nodup
  inn : ∀ x ∈ L, 0 ≤ x ∧ x ≤ m
  row : ∀ x v, valV kvs (Sum.inl x : Key) = some v → ∃ (a : Addr) (ns : List Int), v = .ref a ∧ H a = some (.lst (ns.map V.int)) ∧ ns.length = m ∧ ∀ y ∈ ns, y.natAbs ≤ L.length
theorem FarOk.len {H : Hp} {d : Addr} {m : Nat} {kvs : List (Key × V)} {L : List Int} (h : FarOk H d m kvs L) : kvs.length = L.length := by
  rw [← List.length_map (f := (·.1)), h.keys, List.length_map]
theorem FarOk.le {H : Hp} {d : Addr} {m : Nat} {kvs : List (Key × V)} {L : List Int} (h : FarOk H d m kvs L) : L.length ≤ m + 1 := by
  have := nodup_sub (l2 := numsTo (m + 1)) h.nd fun x hx => mem_numsTo.mpr (by have := h.inn x hx; omega)
  rw [numsTo_length] at this
  exact this
theorem FarOk.all {H : Hp} {d : Addr} {m : Nat} {kvs : List (Key × V)} {L : List Int} (h : FarOk H d m kvs L) (hl : m < L.length) : ∀ x : Int, 0 ≤ x → x ≤ m → x ∈ L := by
  intro x h0 h1
  by_cases hx : x ∈ L
  · exact hx
  · have h2 := nodup_sub (l1 := x :: L) (l2 := numsTo (m + 1)) (List.nodup_cons.mpr ⟨hx, h.nd⟩) fun y hy => mem_numsTo.mpr (by
      rcases List.mem_cons.mp hy with rfl | hy
      · omega
      · have := h.inn y hy
        omega)
    rw [numsTo_length, List.length_cons] at h2
    omega
theorem FarOk.ex {H H' : Hp} {d : Addr} {m : Nat} {kvs : List (Key × V)} {L : List Int} (h : FarOk H d m kvs L) (e : Ex H H') : FarOk H' d m kvs L :=
  ⟨e _ _ h.at_, h.keys, h.nd, h.inn, fun x v hv => by
    obtain ⟨a, ns, h1, h2, h3, h4⟩ := h.row x v hv
    exact ⟨a, ns, h1, e _ _ h2, h3, h4⟩⟩
theorem FarOk.get {H : Hp} {d : Addr} {m : Nat} {kvs : List (Key × V)} {L : List Int} (h : FarOk H d m kvs L) {x : Int} (hx : x ∈ L) : ∃ (a : Addr) (ns : List Int), valV kvs (Sum.inl x : Key) = some (.ref a) ∧ H a = some (.lst (ns.map V.int)) ∧ ns.length = m ∧ ∀ y ∈ ns, y.natAbs ≤ L.length := by
  have hs := (val_mem h.keys).mpr hx
  obtain ⟨v, hv⟩ := Option.isSome_iff_exists.mp hs
  obtain ⟨a, ns, h1, h2, h3, h4⟩ := h.row x v hv
  subst h1
  exact ⟨a, ns, hv, h2, h3, h4⟩
theorem FarOk.no {H : Hp} {d : Addr} {m : Nat} {kvs : List (Key × V)} {L : List Int} (h : FarOk H d m kvs L) {x : Int} (hx : x ∉ L) : valV kvs (Sum.inl x : Key) = none := by
  cases q : valV kvs (Sum.inl x : Key) with
  | none => rfl
  | some v => exact absurd ((val_mem h.keys).mp (by rw [q]; rfl)) hx
theorem FarOk.some_ {H : Hp} {d : Addr} {m : Nat} {kvs : List (Key × V)} {L : List Int} (h : FarOk H d m kvs L) (x : Int) : (valV kvs (Sum.inl x : Key)).isSome = decide (x ∈ L) := by
  rw [Bool.eq_iff_iff, val_mem h.keys, decide_eq_true_iff]
theorem FarOk.put {H : Hp} {d : Addr} {m : Nat} {kvs : List (Key × V)} {L : List Int} {x : Int} {a : Addr} {ns : List Int} (h : FarOk H d m kvs L) (hx : x ∉ L) (h0 : 0 ≤ x ∧ x ≤ m) (ha : H a = some (.lst (ns.map V.int))) (hl : ns.length = m) (hb : ∀ y ∈ ns, y.natAbs ≤ L.length + 1) :
    FarOk (upd H d (.dK (putK kvs (Sum.inl x) (.ref a)))) d m (putK kvs (Sum.inl x) (.ref a)) (L ++ [x]) := by
  have hn := h.no hx
  have ne : ∀ b (l : List V), H b = some (.lst l) → b ≠ d := fun b l g => ne_of g h.at_ (by intro z; cases z)
  refine ⟨upd_same, ?_, ?_, ?_, ?_⟩
  · rw [putK_new _ hn, List.map_append, List.map_append, h.keys]
    rfl
  · refine List.nodup_append.mpr ⟨h.nd, by simp, fun y hy z hz => ?_⟩
    have : z = x := by simpa using hz
    rw [this]
    intro e
    exact hx (e ▸ hy)
  · intro y hy
    rcases List.mem_append.mp hy with q | q
    · exact h.inn y q
    · have : y = x := by simpa using q
      rw [this]
      exact h0
  · intro y v hv
    rw [valV_put] at hv
    rw [List.length_append]
    by_cases e : (Sum.inl y : Key) = Sum.inl x
    · rw [if_pos e] at hv
      have ev := Option.some.inj hv
      subst ev
      refine ⟨a, ns, rfl, ?_, hl, hb⟩
      rw [upd_ne (ne a _ ha)]
      exact ha
    · rw [if_neg e] at hv
      obtain ⟨b, l, h1, h2, h3, h4⟩ := h.row y v hv
      refine ⟨b, l, h1, ?_, h3, fun z hz => Nat.le_succ_of_le (h4 z hz)⟩
      rw [upd_ne (ne b _ h2)]
      exact h2
theorem ev_dget {σ : L2.St} {H : Hp} {i j : Nat} {d : Addr} {x : Int} {kvs : List (Key × V)} {v : V} (h1 : σ[i]? = some (some (.ref d))) (h2 : σ[j]? = some (some (.int x))) (hd : H d = some (.dK kvs)) (hv : valV kvs (Sum.inl x : Key) = some v) : Ev (tDGet (tVar i) (tVar j)) σ H v := fun H1 e Q q =>
  ⟨_, h1, _, h2, d, v, rfl, by rw [← hv]; exact DGet.k (k := Sum.inl x) (e _ _ hd), q H1 (Ex.refl _)⟩
/-- the kk-th number of the row that stands by x -/
def rowOf : Option HO → List Int
  | some (.lst xs) => xs.map fun v => match v with | .int i => i | _ => 0
  | _ => []
theorem rowOf_ints (ns : List Int) : rowOf (some (.lst (ns.map V.int))) = ns := by
  show (ns.map V.int).map (fun v => match v with | V.int i => i | _ => 0) = ns
  rw [List.map_map]
  exact List.map_id' ns
def valN (H : Hp) (kvs : List (Key × V)) (x : Int) (kk : Nat) : Int :=
  match valV kvs (Sum.inl x : Key) with
  | some (.ref a) => (rowOf (H a))[kk]?.getD 0
  | _ => 0
theorem valN_eq {H : Hp} {kvs : List (Key × V)} {x : Int} {kk : Nat} {a : Addr} {ns : List Int} (h : valV kvs (Sum.inl x : Key) = some (.ref a)) (g : H a = some (.lst (ns.map V.int))) : valN H kvs x kk = ns[kk]?.getD 0 := by
  unfold valN
  rw [h]
  show (rowOf (H a))[kk]?.getD 0 = _
  rw [g, rowOf_ints]
theorem atI_row {ns : List Int} {kk : Nat} (h : kk < ns.length) : atI (ns.map V.int) (kk : Int) = some (.int (ns[kk]?.getD 0)) := by
  refine atI_nat ?_
  rw [List.getElem?_map, List.getElem?_eq_getElem h]
  rfl
/-- a new table (new since H): m rows of w numbers, none greater than B -/
structure NewTab (H H' : Hp) (p : Addr) (as : List Addr) (rows : List (List Int)) (w B : Nat) : Prop where
  p0 : H p = none
  a0 : ∀ a ∈ as, H a = none
  nd : as.Nodup
  np : p ∉ as
  tab : Tab H' p as rows
  ok : ∀ r ∈ rows, r.length = w ∧ ∀ y ∈ r, y.natAbs ≤ B
theorem NewTab.ex {H H' H2 : Hp} {p : Addr} {as : List Addr} {rows : List (List Int)} {w B : Nat} (h : NewTab H H' p as rows w B) (e : Ex H' H2) : NewTab H H2 p as rows w B := ⟨h.p0, h.a0, h.nd, h.np, h.tab.ex e, h.ok⟩
theorem rows_but {H H' : Hp} : ∀ {as : List Addr} {rows : List (List Int)}, RowsAt H as rows → (∀ a ∈ as, ∀ o, H a = some o → H' a = some o) → RowsAt H' as rows
  | _, _, .nil, _ => .nil
  | _, _, .cons g t, h => .cons (h _ (List.mem_cons_self ..) _ g) (rows_but t fun a ha => h a (List.mem_cons_of_mem _ ha))
theorem NewTab.exB {H H' H2 : Hp} {s p : Addr} {as : List Addr} {rows : List (List Int)} {w B : Nat} (h : NewTab H H' p as rows w B) (e : ExB s H' H2) (hs : ∃ o, H s = some o) : NewTab H H2 p as rows w B := by
  obtain ⟨o, ho⟩ := hs
  have n1 : p ≠ s := fun z => by
    have := h.p0
    rw [z, ho] at this
    cases this
  have n2 : ∀ a ∈ as, a ≠ s := fun a ha z => by
    have := h.a0 a ha
    rw [z, ho] at this
    cases this
  exact ⟨h.p0, h.a0, h.nd, h.np, ⟨e _ _ n1 h.tab.1, rows_but h.tab.2 fun a ha o' g => e a o' (n2 a ha) g⟩, h.ok⟩
theorem NewTab.back {H0 H H' : Hp} {s p : Addr} {as : List Addr} {rows : List (List Int)} {w B : Nat} (h : NewTab H H' p as rows w B) (e : ExB s H0 H) (hs : ∃ o, H s = some o) : NewTab H0 H' p as rows w B :=
  ⟨fresh_B e h.p0 hs, fun a ha => fresh_B e (h.a0 a ha) hs, h.nd, h.np, h.tab, h.ok⟩
theorem NewTab.mono {H H' : Hp} {p : Addr} {as : List Addr} {rows : List (List Int)} {w B B' : Nat} (h : NewTab H H' p as rows w B) (hb : B ≤ B') : NewTab H H' p as rows w B' :=
  ⟨h.p0, h.a0, h.nd, h.np, h.tab, fun r hr => ⟨(h.ok r hr).1, fun y hy => Nat.le_trans ((h.ok r hr).2 y hy) hb⟩⟩
/-- found.append(a new row) -/
theorem NewTab.app {H H' H2 : Hp} {p r : Addr} {as : List Addr} {rows : List (List Int)} {row : List Int} {w B : Nat} (h : NewTab H H' p as rows w B) (e0 : ∀ a, H' a = none → H a = none) (e : Ex H' H2) (nr : H' r = none) (hr : H2 r = some (.lst (row.map V.int))) (hl : row.length = w) (hb : ∀ y ∈ row, y.natAbs ≤ B) :
    NewTab H (upd H2 p (.lst (as.map V.ref ++ [.ref r]))) p (as ++ [r]) (rows ++ [row]) w B := by
  have nrp : r ≠ p := fun z => by
    rw [z, h.tab.1] at nr
    cases nr
  have nra : r ∉ as := fun ha => by
    obtain ⟨x, _, hx⟩ := paired_mem h.tab.2 ha
    rw [nr] at hx
    cases hx
  refine ⟨h.p0, fun a ha => ?_, ?_, ?_, ⟨?_, ?_⟩, fun x hx => ?_⟩
  · rcases List.mem_append.mp ha with q | q
    · exact h.a0 a q
    · have : a = r := by simpa using q
      rw [this]
      exact e0 r nr
  · refine List.nodup_append.mpr ⟨h.nd, by simp, fun a ha b hb z => ?_⟩
    have : b = r := by simpa using hb
    exact nra (by rw [← this, ← z]; exact ha)
  · intro ha
    rcases List.mem_append.mp ha with q | q
    · exact h.np q
    · exact nrp (by simpa using q : p = r).symm
  · rw [upd_same, List.map_append]
    rfl
  · refine paired_snoc (rows_but h.tab.2 fun a ha o g => ?_) ?_
    · rw [upd_ne (fun z => h.np (by rw [← z]; exact ha))]
      exact e a o g
    · rw [upd_ne nrp]
      exact hr
  · rcases List.mem_append.mp hx with q | q
    · exact h.ok x q
    · have : x = row := by simpa using q
      rw [this]
      exact ⟨hl, hb⟩
theorem NewTab.new {H : Hp} {H1 : Hp} {p : Addr} {w B : Nat} (h : H p = none) (h1 : H1 p = some (.lst [])) : NewTab H H1 p [] [] w B := ⟨h, fun a ha => by simp at ha, List.nodup_nil, by simp, ⟨h1, .nil⟩, fun r hr => by simp at hr⟩
theorem noneB {s : Addr} {H H' : Hp} (e : ExB s H H') (hs : ∃ o, H' s = some o) : ∀ a, H' a = none → H a = none := fun a h => fresh_B e h hs
theorem ev_chain {r r' : R2} {ta tb tc : TE} {σ : L2.St} {H : Hp} {x y z : V} {b c : Bool} (ha : Ev ta σ H x) (hb : Ev tb σ H y) (hc : Ev tc σ H z) (h1 : RV r x y H (.bl b)) (h2 : RV r' y z H (.bl c)) : Ev (tChain r r' ta tb tc) σ H (.bl (b && c)) := fun H1 e Q q =>
  ha H1 e _ fun H2 e2 => hb H2 (e.trans e2) _ fun H3 e3 => h1 H3 ((e.trans e2).trans e3) _ fun H4 e4 => ⟨b, rfl, by
    cases b with
    | true =>
      show tc σ H4 _
      exact hc H4 (((e.trans e2).trans e3).trans e4) _ fun H5 e5 => h2 H5 ((((e.trans e2).trans e3).trans e4).trans e5) Q fun H6 e6 => q H6 ((((e2.trans e3).trans e4).trans e5).trans e6)
    | false =>
      show Q (.bl false) H4
      exact q H4 ((e2.trans e3).trans e4)⟩
theorem ev_int1 {ta : TE} {σ : L2.St} {H : Hp} {b : Bool} (h : Ev ta σ H (.bl b)) : Ev (tCB (fun xs H Q => (∃ i, xs = [V.int i] ∧ Q (V.int i) H) ∨ ∃ k, xs = [V.bl k] ∧ Q (V.int (if k = true then 1 else 0)) H) (tCons ta tNil)) σ H (.int (if b = true then 1 else 0)) := fun H1 e Q q =>
  h H1 e _ fun H2 e2 => .inr ⟨b, rfl, q H2 e2⟩
/-- [e for i in range(m)], e whole numbers -/
theorem el_rng {ta : TA} {te : TE} {vs : List Nat} {j m : Nat} {σ : L2.St} {H : Hp} (f : Nat → Int) (h : EvA ta σ H [.int (m : Int)]) (hm : m ≤ 1000) (hw : ∀ x, wipe ((wipe σ vs).set j (some x)) vs = wipe σ vs)
    (he : ∀ (i : Nat) H1, Ex H H1 → i < m → Ev te ((wipe σ vs).set j (some (.int (i : Int)))) H1 (.int (f i))) : EvL (tLc (iRng1 ta) (gName j) tYes te vs) σ H (((List.range m).map f).map V.int) := by
  have g := el_lcR1 (t := tYes) (te := te) (j := j) (vs := vs) (σ := σ) (H := H) (n := (m : Int)) (ta := ta) (fun _ => true) (fun o => .int (f o)) h (by omega) hw (fun o H1 e ho Hx ex Qx qx => qx Hx (Ex.refl _)) (fun o H1 e ho hf => he o H1 e (by omega))
  have eg : given (m : Int).toNat (fun _ => true) (fun o => V.int (f o)) = ((List.range m).map f).map V.int := by
    unfold given
    rw [Int.toNat_natCast, List.filter_eq_self.mpr (fun _ _ => rfl), List.map_map]
    rfl
  rw [eg] at g
  exact g
/-- [f(row) for row in rows] -/
theorem el_col {K : PySem.W.Frag} {n : Nat} {te : TE} {vs : List Nat} {j : Nat} {σ : L2.St} {H : Hp} {a : Addr} {bs : List Addr} {qs : List (List Int)} (f : List Int → Int) (hσ : σ[n]? = some (some (.ref a))) (hx : H a = some (.lst (bs.map V.ref))) (hE : RowsAt H bs qs) (hz : qs.length ≤ 1000)
    (hw : ∀ u, wipe ((wipe σ vs).set j (some u)) vs = wipe σ vs)
    (he : ∀ b r H1, r ∈ qs → H b = some (.lst (r.map V.int)) → Ex H H1 → Ev te ((wipe σ vs).set j (some (.ref b))) H1 (.int (f r))) : EvL (tLc (iList K (tVar n)) (gName j) tYes te vs) σ H ((qs.map f).map V.int) := fun H1 e1 Q q => by
  have hx1 := e1 _ _ hx
  have el : bs.length = qs.length := Paired.length hE
  refine ⟨_, hσ, a, rfl, ⟨_, SqL.of hx1⟩, fun D hD => ?_⟩
  refine lc_list (K := K) (a := a) (xs := bs.map V.ref) (fun i H' => Ex H1 H' ∧ H' D = some (.lst (((qs.map f).take i).map V.int))) ⟨Ex.new hD, upd_same⟩ (fun i H' _ p => SqL.of (p.1 _ _ hx1)) (fun i x H' gx p => ?_) (fun H' p => ?_)
  · obtain ⟨p1, p2⟩ := p
    rw [List.getElem?_map] at gx
    obtain ⟨b, hb, rfl⟩ := Option.map_eq_some_iff.mp gx
    obtain ⟨ed, hed, hr⟩ := paired_get hE hb
    refine ⟨hw _, ?_⟩
    show te _ _ _
    refine he b ed H (List.mem_of_getElem? hed) hr (Ex.refl H) _ (e1.trans p1) _ fun H4 e4 => ?_
    refine ⟨_, e4 _ _ p2, ?_, Ex.mut (p1.trans e4) hD, ?_⟩
    · rw [List.length_map, List.length_take, List.length_map]
      exact small1000 (by omega)
    · have hzz : (qs.map f)[i]? = some (f ed) := by rw [List.getElem?_map, hed]; rfl
      rw [upd_same, take_snoc hzz, List.map_append]
      rfl
  · obtain ⟨p1, p2⟩ := p
    rw [List.take_of_length_le (by rw [List.length_map, List.length_map]; omega)] at p2
    exact q D H' hD p1 p2
/-- [a number drawn for i in range(m)] -/
theorem lc_draw {ta : TA} {te : TE} {vs : List Nat} {j m : Nat} {σ : L2.St} {H : Hp} {Q : VK} {s : Addr} {n : Int} (P : Int → Prop) (h : EvA ta σ H [.int (m : Int)]) (hm : m ≤ 1000) (hs : SrcAt H s n) (hw : ∀ u, wipe ((wipe σ vs).set j (some u)) vs = wipe σ vs)
    (he : ∀ (i : Nat) H1, ExB s H H1 → i < m → SrcAt H1 s (n + i) → ∀ Q1 : VK, (∀ x H2, P x → ExB s H1 H2 → SrcAt H2 s (n + i + 1) → Q1 (.int x) H2) → te ((wipe σ vs).set j (some (.int (i : Int)))) H1 Q1)
    (k : ∀ (D : Addr) (ns : List Int) (H2 : Hp), H D = none → ExB s H H2 → SrcAt H2 s (n + m) → H2 D = some (.lst (ns.map V.int)) → ns.length = m → (∀ x ∈ ns, P x) → Q (.ref D) H2) : tLc (iRng1 ta) (gName j) tYes te vs σ H Q := by
  refine h H (Ex.refl H) _ fun H1 e1 => ⟨(m : Int), rfl, by omega, by omega, fun D hD => ?_⟩
  have hDH : H D = none := fresh_back e1 hD
  have hDs : D ≠ s := (hs.ex e1).ne hD
  refine lc_range (lo := 0) (n := (m : Int).toNat) (fun i H' => ∃ ns, ExB s H H' ∧ SrcAt H' s (n + i) ∧ H' D = some (.lst (ns.map V.int)) ∧ ns.length = i ∧ ∀ x ∈ ns, P x) ⟨[], ExB.of (e1.trans (Ex.new hD)), (hs.ex (e1.trans (Ex.new hD))).le (by omega), upd_same, rfl, fun x hx => by simp at hx⟩ (fun i H' hi p => ?_) (fun H' p => ?_)
  · obtain ⟨ns, p1, p2, p3, p4, p5⟩ := p
    have e0 : (0 : Int) + (i : Int) = (i : Int) := Int.zero_add _
    refine ⟨hw _, ?_⟩
    show te ((wipe σ vs).set j (some (.int ((0 : Int) + (i : Int))))) H' _
    rw [e0]
    refine he i H' p1 (by omega) p2 _ fun x H2 hx e2 s2 => ?_
    refine ⟨_, e2 _ _ hDs p3, small1000 (by rw [List.length_map]; omega), ns ++ [x], ?_, ?_, ?_, ?_, ?_⟩
    · refine fun b o nb hb => ?_
      rw [upd_ne (ne_of_none hb hDH)]
      exact e2 _ _ nb (p1 _ _ nb hb)
    · obtain ⟨a1, a2, a3, a4, a5, a6, a7, a8⟩ := s2
      exact ⟨a1, a2, a3, by rw [upd_ne hDs.symm]; exact a4, a5, a6, a7, by omega⟩
    · rw [upd_same, List.map_append]
      rfl
    · rw [List.length_append, p4]
      rfl
    · intro y hy
      rcases List.mem_append.mp hy with q | q
      · exact p5 y q
      · have : y = x := by simpa using q
        rw [this]
        exact hx
  · obtain ⟨ns, p1, p2, p3, p4, p5⟩ := p
    have em : (m : Int).toNat = m := by omega
    rw [em] at p4 p2
    exact k D ns H' hDH p1 p2 p3 p4 p5
/-- the same over a list of whole numbers -/
theorem lc_drawL {K : PySem.W.Frag} {tl te : TE} {vs : List Nat} {j : Nat} {σ : L2.St} {H : Hp} {Q : VK} {s a : Addr} {n : Int} {xs : List Int} (P : Int → Prop) (h : Ev tl σ H (.ref a)) (hx : H a = some (.lst (xs.map V.int))) (has : a ≠ s) (hm : xs.length ≤ 1000) (hs : SrcAt H s n) (hw : ∀ u, wipe ((wipe σ vs).set j (some u)) vs = wipe σ vs)
    (he : ∀ (i : Nat) (y : Int) H1, ExB s H H1 → i < xs.length → SrcAt H1 s (n + i) → ∀ Q1 : VK, (∀ x H2, P x → ExB s H1 H2 → SrcAt H2 s (n + i + 1) → Q1 (.int x) H2) → te ((wipe σ vs).set j (some (.int y))) H1 Q1)
    (k : ∀ (D : Addr) (ns : List Int) (H2 : Hp), H D = none → ExB s H H2 → SrcAt H2 s (n + xs.length) → H2 D = some (.lst (ns.map V.int)) → ns.length = xs.length → (∀ x ∈ ns, P x) → Q (.ref D) H2) : tLc (iList K tl) (gName j) tYes te vs σ H Q := by
  refine h H (Ex.refl H) _ fun H1 e1 => ⟨a, rfl, ⟨_, SqL.of (e1 _ _ hx)⟩, fun D hD => ?_⟩
  have hDH : H D = none := fresh_back e1 hD
  have hDs : D ≠ s := (hs.ex e1).ne hD
  refine lc_list (K := K) (a := a) (xs := xs.map V.int) (fun i H' => ∃ ns, ExB s H H' ∧ SrcAt H' s (n + i) ∧ H' D = some (.lst (ns.map V.int)) ∧ ns.length = i ∧ ∀ x ∈ ns, P x) ⟨[], ExB.of (e1.trans (Ex.new hD)), (hs.ex (e1.trans (Ex.new hD))).le (by omega), upd_same, rfl, fun x hx => by simp at hx⟩ (fun i H' _ ⟨_, p1, _⟩ => SqL.of (p1 _ _ has hx)) (fun i y H' gy p => ?_) (fun H' p => ?_)
  · obtain ⟨ns, p1, p2, p3, p4, p5⟩ := p
    rw [List.getElem?_map] at gy
    obtain ⟨y', hy', rfl⟩ := Option.map_eq_some_iff.mp gy
    have hi := (List.getElem?_eq_some_iff.mp hy').1
    refine ⟨hw _, ?_⟩
    show te _ H' _
    refine he i y' H' p1 hi p2 _ fun x H2 hx' e2 s2 => ?_
    refine ⟨_, e2 _ _ hDs p3, small1000 (by rw [List.length_map]; omega), ns ++ [x], ?_, ?_, ?_, ?_, ?_⟩
    · refine fun b o nb hb => ?_
      rw [upd_ne (ne_of_none hb hDH)]
      exact e2 _ _ nb (p1 _ _ nb hb)
    · obtain ⟨a1, a2, a3, a4, a5, a6, a7, a8⟩ := s2
      exact ⟨a1, a2, a3, by rw [upd_ne hDs.symm]; exact a4, a5, a6, a7, by omega⟩
    · rw [upd_same, List.map_append]
      rfl
    · rw [List.length_append, p4]
      rfl
    · intro z hz
      rcases List.mem_append.mp hz with q | q
      · exact p5 z q
      · have : z = x := by simpa using q
        rw [this]
        exact hx'
  · obtain ⟨ns, p1, p2, p3, p4, p5⟩ := p
    rw [List.length_map] at p4 p2
    exact k D ns H' hDH p1 p2 p3 p4 p5
theorem rows_set {H : Hp} {v : List V} {x : Addr} : ∀ {as : List Addr} {rows : List (List Int)} {k : Nat} {row : List Int}, RowsAt H as rows → as.Nodup → as[k]? = some x → v = row.map V.int → RowsAt (upd H x (.lst v)) as (rows.set k row)
  | _, _, _, _, .nil, _, h, _ => by simp at h
  | a :: as, r :: rows, 0, row, .cons g t, nd, h, hv => by
    have e : a = x := Option.some.inj h
    subst e
    have h1 := List.nodup_cons.mp nd
    refine .cons (by rw [upd_same, hv]) (rows_but t fun b hb o q => ?_)
    rw [upd_ne (fun z => h1.1 (by rw [← z]; exact hb))]
    exact q
  | a :: as, r :: rows, k + 1, row, .cons g t, nd, h, hv => by
    have h1 := List.nodup_cons.mp nd
    have hx : as[k]? = some x := h
    refine .cons ?_ (rows_set t h1.2 hx hv)
    rw [upd_ne (fun z => h1.1 (by rw [z]; exact List.mem_of_getElem? hx))]
    exact g
theorem NewTab.set {H H' : Hp} {p x : Addr} {as : List Addr} {rows : List (List Int)} {w B k j : Nat} {row : List Int} {y : Int} (h : NewTab H H' p as rows w B) (hx : as[k]? = some x) (hr : rows[k]? = some row) (hy : y.natAbs ≤ B) : NewTab H (upd H' x (.lst ((row.map V.int).set j (.int y)))) p as (rows.set k (row.set j y)) w B := by
  have npx : p ≠ x := fun z => h.np (by rw [z]; exact List.mem_of_getElem? hx)
  have o := h.ok row (List.mem_of_getElem? hr)
  refine ⟨h.p0, h.a0, h.nd, h.np, ⟨?_, rows_set h.tab.2 h.nd hx (by rw [List.map_set])⟩, fun r hr' => ?_⟩
  · rw [upd_ne npx]
    exact h.tab.1
  · rcases List.mem_or_eq_of_mem_set hr' with q | q
    · exact h.ok r q
    · rw [q]
      refine ⟨by rw [List.length_set]; exact o.1, fun z hz => ?_⟩
      rcases List.mem_or_eq_of_mem_set hz with q2 | q2
      · exact o.2 z q2
      · rw [q2]
        exact hy
section
variable {prog : Program} {w : World} {A : Around} {E : Value → Shared → Prop} {s : Shared}
theorem slice_rev2 {sl : Addr} {vl vu vs : Value} {Q : Int × Int × Nat → Shared → Prop} (hs : s.heap.IsSliceOf sl vl vu vs) (pl : IsPart vl none) (pu : IsPart vu none) (ps : IsPart vs (some (-1)))
    (h : Q (1, -1, 2) s) : wpAny (model prog w) A (Builtin.Slice.sliceApplied (.ref sl) (pure ((2 : Nat) : Int))) Q E s := by
  obtain ⟨os, hos, hcs, hds⟩ := id hs
  unfold Builtin.Slice.sliceApplied Builtin.Slice.sliceFields
  refine wpAny_bind (wpAny_bind (wpAny_field hos hds (x := vl) rfl (wpAny_bind (wpAny_field hos hds (x := vu) rfl (wpAny_bind (wpAny_field hos hds (x := vs) rfl (wpAny_pure ?_)))))))
  refine wpAny_bind (slicePart_ ps ?_)
  show wpAny _ _ (if ((-1 : Int) == 0) = true then _ else _) _ _ s
  rw [if_neg (by decide)]
  refine wpAny_bind (slicePart_ pl (wpAny_bind (slicePart_ pu (wpAny_bind (wpAny_pure ?_)))))
  exact wpAny_pure h
theorem item_rev2 {t sl : Addr} {x y vl vu vs : Value} {Q : Value → Shared → Prop} (ht : IsTup s.heap t #[x, y]) (hs : s.heap.IsSliceOf sl vl vu vs) (pl : IsPart vl none) (pu : IsPart vu none) (ps : IsPart vs (some (-1)))
    (h : Q (.ref s.heap.objs.size) { s with heap := s.heap.push { cls := .type "tuple", data := .seq #[y, x] } }) : wpAny (model prog w) A (getItem (.ref t) (.ref sl)) Q E s := by
  have htake : sizeOk (.seq (#[y, x] : Array Value)) := by
    show 2 ≤ sizeLine
    decide
  obtain ⟨os, hos, hcs, hds⟩ := id hs
  have hTs : s.TypeIs (.ref sl) "slice" := ⟨os, hos, hcs⟩
  unfold getItem
  try with_reducible refine wpAny_holding ?_
  first | refine wpAny_bind (wpAny_pure ?_) | skip
  refine wpAny_bind (wpAny_sequenceKey ht.typeIs (by decide) ?_)
  refine wpAny_bind (wpAny_callSpecial?_slot (name := Str.ofString "__getitem__") ht.typeIs PyProof.Rows.slot_tuple_getitem
    (wpAny_call_entry PyProof.Rows.slot_tuple_getitem ht.typeIs entry_tuple_getitem ?_ (args_tuple_getitem _ _)))
  show wpAny _ _ (Builtin.Tuple.tupleItemsOf (.ref t) >>= _) _ _ s
  refine wpAny_bind (tupleItemsOf_ ht ?_)
  refine wpAny_bind (wpAny_typeOf hTs ?_)
  rw [if_pos (by decide)]
  refine wpAny_bind (slice_rev2 hs pl pu ps ?_)
  show wpAny _ _ (if (((1 : Int) == 0 && (-1 : Int) == 1 && (2 : Nat) == 2) = true) then _ else _) _ _ s
  rw [if_neg (by decide)]
  first
    | exact wpAny_bind (m := Builtin.Tuple.tupleExact _) (wpAny_newObj_type (wpAny_pure ⟨_, rfl, wpAny_pure h⟩) htake)
    | exact wpAny_bind (m := Builtin.Tuple.tupleExact _) (wpAny_newObj_type (wpAny_bind (wpAny_pure (wpAny_pure ⟨_, rfl, wpAny_pure h⟩))) htake)
    | exact wpAny_bind (wpAny_bind (m := Builtin.Tuple.tupleExact _) (wpAny_newObj_type (wpAny_pure (wpAny_pure ⟨_, rfl, wpAny_pure h⟩)) htake))
    | exact wpAny_bind (wpAny_bind (m := Builtin.Tuple.tupleExact _) (wpAny_newObj_type (wpAny_pure ⟨_, rfl, wpAny_pure h⟩) htake))
end
section
variable {X : Cx}
/-- t[::-1], t a pair -/
def tRevT (K : PySem.W.Frag) (te : TE) : TE := fun σ H Q => te σ H fun v H1 => ∃ a x y, v = .ref a ∧ SqT K H1 a [x, y] ∧ ∀ p, H1 p = none → Q (.ref p) (upd H1 p (.tup [y, x]))
theorem pe_revT {e : Expr} {te : TE} {k : Nat} {p1 p2 p3 pos : Pos} (he : PE X e te) : PE X (.Subscript e (.Slice none none (some (.UnaryOp .USub (.Constant (.int 1) k p1) p2)) p3) pos) (tRevT X.K te) := by
  refine ⟨fun pins s σ H Q I h => ?_⟩
  refine Subscript_ (thn (he.run pins s σ H _ I h) fun v s1 ⟨z, H1, I1, r1, q1⟩ => ?_)
  obtain ⟨a, x, y, ex, hx, q⟩ := q1
  subst ex
  cases r1
  have hst : PO X (some (.UnaryOp .USub (.Constant (.int 1) k p1) p2)) (tPart (tUn (rU fun i => .int (-i)) (tC (.int 1)))) := po_some (pe_un un_neg pe_int)
  refine wpAny_Slice (thn (po_none.run pins s1 σ H1 (fun o H2 => o = none ∧ H2 = H1) I1 ⟨rfl, rfl⟩) fun vl s2 ⟨l, H2, I2, pl, el, e2⟩ => ?_)
  subst el e2
  refine thn (po_none.run pins s2 σ H2 (fun o H3 => o = none ∧ H3 = H2) I2 ⟨rfl, rfl⟩) fun vu s3 ⟨u, H3, I3, pu, eu, e3⟩ => ?_
  subst eu e3
  refine thn (hst.run pins s3 σ H3 (fun o H4 => o = some (-1) ∧ H4 = H3) I3 ⟨1, rfl, -1, rfl, rfl, rfl⟩) fun vs s4 ⟨o, H4, I4, ps, eo, e4⟩ => ?_
  subst eo e4
  have I5 : Inv X pins σ H4 { s4 with heap := s4.heap.push { cls := .type "slice", data := .fields #[vl, vu, vs] } } := I4.kept (t' := s4.toks) fun b ob q => Heap.get?_push_of_some _ q
  obtain ⟨its, r, ht, hz⟩ := I5.tuple hx
  obtain ⟨ua, ub, rfl, ra, rb⟩ := vals2 r
  show wpAny (model X.prog X.w) X.A (subscriptTail e (.Slice none none (some (.UnaryOp .USub (.Constant (.int 1) k p1) p2)) p3) (.ref a) (.ref s4.heap.objs.size)) (EP X pins σ Q) X.xe { s4 with heap := s4.heap.push { cls := .type "slice", data := .fields #[vl, vu, vs] } }
  refine tail_any (ops := [.ref a, .ref s4.heap.objs.size]) ht.typeIs (PyProof.Rows.slot_tuple_getitem.lookup) ?_ (by with_unfolding_all rfl)
  refine item_rev2 ht (Heap.IsSliceOf.new _ vl vu vs) pl pu ps ?_
  refine ⟨.ref _, _, I5.laid (t' := s4.toks) (o := .tup [y, x]) (fun b ob q => Heap.get?_push_of_some _ q) (Nat.le_refl _) ?_, rfl, q _ (I5.hok.fresh (Nat.le_refl _))⟩
  exact ⟨by show 2 ≤ sizeLine; decide, [ub, ua], .cons rb (.cons ra .nil), IsTup.new _ _⟩
end

theorem mem_dims {rows : List (List Int)} {w B : Nat} (h : ∀ r ∈ rows, r.length = w ∧ ∀ y ∈ r, y.natAbs ≤ B) {r : List Int} (hr : r ∈ rows) : r.length = w := (h r hr).1
/-- a table as the program takes it: 1 to 8 rows of 1 to 8 -/
structure TabOk (H : Hp) (p : Addr) (as : List Addr) (rows : List (List Int)) (m w : Nat) : Prop where
  tab : Tab H p as rows
  m_ : rows.length = m
  w_ : ∀ r ∈ rows, r.length = w
  b : 1 ≤ m ∧ m ≤ 8 ∧ 1 ≤ w ∧ w ≤ 8
theorem TabOk.ex {H H' : Hp} {p : Addr} {as : List Addr} {rows : List (List Int)} {m w : Nat} (h : TabOk H p as rows m w) (e : Ex H H') : TabOk H' p as rows m w := ⟨h.tab.ex e, h.m_, h.w_, h.b⟩
theorem TabOk.al {H : Hp} {p : Addr} {as : List Addr} {rows : List (List Int)} {m w : Nat} (h : TabOk H p as rows m w) : as.length = m := by rw [Paired.length h.tab.2, h.m_]
theorem TabOk.row0 {H : Hp} {p : Addr} {as : List Addr} {rows : List (List Int)} {m w : Nat} (h : TabOk H p as rows m w) : ∃ a0 r0, as[0]? = some a0 ∧ rows[0]? = some r0 ∧ H a0 = some (.lst (r0.map V.int)) ∧ r0.length = w ∧ atI (as.map V.ref) 0 = some (.ref a0) := by
  have hb := h.b
  have hl := h.al
  obtain ⟨a0, ha0⟩ : ∃ a0, as[0]? = some a0 := ⟨_, List.getElem?_eq_getElem (by omega)⟩
  obtain ⟨r0, hr0, hh⟩ := paired_get h.tab.2 ha0
  exact ⟨a0, r0, ha0, hr0, hh, h.w_ r0 (List.mem_of_getElem? hr0), atI_nat (j := 0) (by rw [List.getElem?_map, ha0]; rfl)⟩
theorem all_true (n : Nat) : (List.replicate n true).all id = true := by
  induction n with
  | zero => rfl
  | succ n ih => rw [List.replicate_succ, List.all_cons, ih]; rfl
/-- [f(x) for x in xs], each True -/
theorem el_yes {K : PySem.W.Frag} {n j : Nat} {a : Addr} {xs : List V} {te : TE} {vs : List Nat} {σ : L2.St} {H : Hp} (hσ : σ[n]? = some (some (.ref a))) (hx : H a = some (.lst xs)) (hl : xs.length ≤ 1000)
    (hs : ∀ x H', x ∈ xs → Ex H H' → Ev te ((wipe σ vs).set j (some x)) H' (.bl true)) (hw : ∀ x, wipe ((wipe σ vs).set j (some x)) vs = wipe σ vs) : EvL (tLc (iList K (tVar n)) (gName j) tYes te vs) σ H ((List.replicate xs.length true).map V.bl) := by
  intro H0 e0 Q0 q0
  have hx0 := e0 _ _ hx
  refine ⟨_, hσ, a, rfl, ⟨_, SqL.of hx0⟩, fun D hD => ?_⟩
  refine lc_list (K := K) (a := a) (xs := xs) (fun i H' => Ex H0 H' ∧ H' D = some (.lst ((List.replicate i true).map V.bl))) ⟨Ex.new hD, upd_same⟩ (fun i H' _ p => SqL.of (p.1 _ _ hx0)) (fun i x H' gx p => ?_) (fun H' p => ?_)
  · obtain ⟨p1, p2⟩ := p
    have hi := (List.getElem?_eq_some_iff.mp gx).1
    refine ⟨hw _, ?_⟩
    show te _ _ _
    refine hs x H (List.mem_of_getElem? gx) (Ex.refl H) _ (e0.trans p1) _ fun H4 e4 => ?_
    refine ⟨_, e4 _ _ p2, ?_, Ex.mut (p1.trans e4) hD, ?_⟩
    · rw [List.length_map, List.length_replicate]
      exact small1000 (by omega)
    · rw [upd_same, List.replicate_succ', List.map_append]
      rfl
  · obtain ⟨p1, p2⟩ := p
    exact q0 D H' hD p1 p2
theorem ev_all {K : PySem.W.Frag} {ta : TE} {n : Nat} {σ : L2.St} {H : Hp} (h : EvL ta σ H ((List.replicate n true).map V.bl)) : Ev (tCB (rAll K) (tCons ta tNil)) σ H (.bl true) := fun H1 e Q q =>
  h H1 e _ fun p H2 _ e2 hp => ⟨p, _, rfl, SqL.of hp, by rw [all_true]; exact q H2 e2⟩
theorem ev_fn {sp : Sp} {E : XK} {ta : TA} {σ : L2.St} {H : Hp} {vs : List V} {z : V} (h : EvA ta σ H vs) (hs : ∀ H1, Ex H H1 → ∀ Q : VK, (∀ H2, Ex H1 H2 → Q z H2) → sp vs H1 Q E) : Ev (tCall sp [] E ta) σ H z := fun H1 e Q q =>
  h H1 e _ fun H2 e2 => by
    rw [List.append_nil]
    exact hs H2 (e.trans e2) Q fun H3 e3 => q H3 (e2.trans e3)
theorem ev_isi {K : PySem.W.Frag} {ta tb : TE} {σ : L2.St} {H : Hp} {x : V} {n : String} {t : String} {b : Bool} (ha : Ev ta σ H x) (hb : Ev tb σ H (.ty n)) (ht : ∀ H1, Ex H H1 → TyX K H1 x (.type t)) (hk : kitB t n = some b) : Ev (tCB (rIsi K) (tCons ta (tCons tb tNil))) σ H (.bl b) := fun H1 e Q q =>
  ha H1 e _ fun H2 e2 => hb H2 (e.trans e2) _ fun H3 e3 => ⟨x, .ty n, _, _, b, rfl, .ty n, ht H3 ((e.trans e2).trans e3), kit_ty hk, q H3 (e2.trans e3)⟩
theorem rv_le {i j : Int} {H : Hp} : RV (rI0 fun i j => .bl (decide (i ≤ j))) (.int i) (.int j) H (.bl (decide (i ≤ j))) := rv_I0
/-- a rising list of places below n -/
def Rising (n : Int) (ns : List Int) : Prop := (∀ x ∈ ns, 0 ≤ x ∧ x < n) ∧ ns.Pairwise (· < ·)

/-- [[..] for y in ys], ys whole numbers: new rows -/
theorem lc_rowsL {K : PySem.W.Frag} {nn : Nat} {te : TE} {vs : List Nat} {j : Nat} {σ : L2.St} {H : Hp} {Q : VK} {a : Addr} {ys : List Int} (F : Int → List Int) (hσ : σ[nn]? = some (some (.ref a))) (hx : H a = some (.lst (ys.map V.int))) (hm : ys.length ≤ 1000) (hw : ∀ u, wipe ((wipe σ vs).set j (some u)) vs = wipe σ vs)
    (he : ∀ y H1, y ∈ ys → Ex H H1 → EvL te ((wipe σ vs).set j (some (.int y))) H1 ((F y).map V.int))
    (k : ∀ p as H2, H p = none → (∀ a ∈ as, H a = none) → as.Nodup → p ∉ as → Ex H H2 → Tab H2 p as (ys.map F) → Q (.ref p) H2) : tLc (iList K (tVar nn)) (gName j) tYes te vs σ H Q := by
  refine ⟨_, hσ, a, rfl, ⟨_, SqL.of hx⟩, fun D hD => ?_⟩
  refine lc_list (K := K) (a := a) (xs := ys.map V.int) (fun i H' => ∃ as, Ex H H' ∧ H' D = some (.lst (as.map V.ref)) ∧ RowsAt H' as ((ys.take i).map F) ∧ (∀ a ∈ as, H a = none) ∧ as.Nodup ∧ D ∉ as) ⟨[], Ex.new hD, upd_same, .nil, fun a ha => by simp at ha, List.nodup_nil, by simp⟩ (fun i H' _ ⟨_, p1, _⟩ => SqL.of (p1 _ _ hx)) (fun i x H' gx p => ?_) (fun H' p => ?_)
  · obtain ⟨as, p1, p2, p3, p4, p5, p6⟩ := p
    rw [List.getElem?_map] at gx
    obtain ⟨y, hy, rfl⟩ := Option.map_eq_some_iff.mp gx
    have hi := (List.getElem?_eq_some_iff.mp hy).1
    have el : as.length = i := by rw [Paired.length p3, List.length_map, List.length_take]; omega
    refine ⟨hw _, ?_⟩
    show te _ H' _
    refine he y H' (List.mem_of_getElem? hy) p1 H' (Ex.refl _) _ fun r H4 nr e4 hr => ?_
    have nrD : r ≠ D := fun z => by
      rw [z, p2] at nr
      cases nr
    refine ⟨_, e4 _ _ p2, ?_, as ++ [r], Ex.mut (p1.trans e4) hD, ?_, ?_, ?_, ?_, ?_⟩
    · rw [List.length_map, el]
      exact small1000 (by omega)
    · rw [upd_same, List.map_append]
      rfl
    · rw [take_snoc hy, List.map_append]
      refine paired_snoc (rows_but p3 fun b hb o g => ?_) ?_
      · rw [upd_ne (fun z => p6 (by rw [← z]; exact hb))]
        exact e4 _ _ g
      · rw [upd_ne nrD]
        exact hr
    · intro b hb
      rcases List.mem_append.mp hb with h | h
      · exact p4 b h
      · rw [show b = r by simpa using h]
        exact fresh_back p1 nr
    · refine List.nodup_append.mpr ⟨p5, by simp, fun b hb c hc z => ?_⟩
      have : c = r := by simpa using hc
      have hb' : r ∈ as := by rw [← this, ← z]; exact hb
      obtain ⟨x, _, hx'⟩ := paired_mem p3 hb'
      rw [nr] at hx'
      cases hx'
    · intro hb
      rcases List.mem_append.mp hb with h | h
      · exact p6 h
      · exact nrD (by simpa using h : D = r).symm
  · obtain ⟨as, p1, p2, p3, p4, p5, p6⟩ := p
    rw [List.length_map, List.take_length] at p3
    exact k D as H' hD p4 p5 p6 p1 ⟨p2, p3⟩
/-- [f(y) for y in ys], ys whole numbers -/
theorem el_mapI {K : PySem.W.Frag} {n : Nat} {te : TE} {vs : List Nat} {j : Nat} {σ : L2.St} {H : Hp} {a : Addr} {qs : List Int} (f : Int → Int) (hσ : σ[n]? = some (some (.ref a))) (hx : H a = some (.lst (qs.map V.int))) (hz : qs.length ≤ 1000)
    (hw : ∀ u, wipe ((wipe σ vs).set j (some u)) vs = wipe σ vs)
    (he : ∀ y H1, y ∈ qs → Ex H H1 → Ev te ((wipe σ vs).set j (some (.int y))) H1 (.int (f y))) : EvL (tLc (iList K (tVar n)) (gName j) tYes te vs) σ H ((qs.map f).map V.int) := fun H1 e1 Q q => by
  have hx1 := e1 _ _ hx
  refine ⟨_, hσ, a, rfl, ⟨_, SqL.of hx1⟩, fun D hD => ?_⟩
  refine lc_list (K := K) (a := a) (xs := qs.map V.int) (fun i H' => Ex H1 H' ∧ H' D = some (.lst (((qs.map f).take i).map V.int))) ⟨Ex.new hD, upd_same⟩ (fun i H' _ p => SqL.of (p.1 _ _ hx1)) (fun i x H' gx p => ?_) (fun H' p => ?_)
  · obtain ⟨p1, p2⟩ := p
    rw [List.getElem?_map] at gx
    obtain ⟨b, hb, rfl⟩ := Option.map_eq_some_iff.mp gx
    refine ⟨hw _, ?_⟩
    show te _ _ _
    refine he b H (List.mem_of_getElem? hb) (Ex.refl H) _ (e1.trans p1) _ fun H4 e4 => ?_
    refine ⟨_, e4 _ _ p2, ?_, Ex.mut (p1.trans e4) hD, ?_⟩
    · rw [List.length_map, List.length_take, List.length_map]
      exact small1000 (by omega)
    · have hzz : (qs.map f)[i]? = some (f b) := by rw [List.getElem?_map, hb]; rfl
      rw [upd_same, take_snoc hzz, List.map_append]
      rfl
  · obtain ⟨p1, p2⟩ := p
    rw [List.take_of_length_le (by rw [List.length_map, List.length_map]; omega)] at p2
    exact q D H' hD p1 p2
theorem TabOk.row {H : Hp} {p : Addr} {as : List Addr} {rows : List (List Int)} {m w : Nat} (h : TabOk H p as rows m w) {i : Int} (h0 : 0 ≤ i) (h1 : i < m) : ∃ a r, atI (as.map V.ref) i = some (.ref a) ∧ rows[i.toNat]? = some r ∧ H a = some (.lst (r.map V.int)) ∧ r.length = w := by
  have hl := h.al
  obtain ⟨a, ha⟩ : ∃ a, as[i.toNat]? = some a := ⟨_, List.getElem?_eq_getElem (by omega)⟩
  obtain ⟨r, hr, hh⟩ := paired_get h.tab.2 ha
  exact ⟨a, r, at_of (j := i.toNat) (by omega) (by rw [List.getElem?_map, ha]; rfl), hr, hh, h.w_ r (List.mem_of_getElem? hr)⟩
theorem atI_rowI {ns : List Int} {i : Int} (h0 : 0 ≤ i) (h : i < ns.length) : atI (ns.map V.int) i = some (.int (ns[i.toNat]?.getD 0)) := by
  have e : i = ((i.toNat : Nat) : Int) := by omega
  have h2 := atI_row (ns := ns) (kk := i.toNat) (by omega)
  rw [← e] at h2
  exact h2

/-- [[..] for x, row in zip(xs, rows)]: new rows -/
theorem lc_rowsZ {K : PySem.W.Frag} {ta : TA} {te : TE} {vs : List Nat} {j1 j2 : Nat} {σ : L2.St} {H : Hp} {Q : VK} {a b : Addr} {xs : List Int} {as : List Addr} {rows : List (List Int)} (F : Int → List Int → List Int) (h : EvA ta σ H [.ref a, .ref b]) (hx : H a = some (.lst (xs.map V.int))) (ht : Tab H b as rows) (hl : xs.length = rows.length) (hz : xs.length ≤ 1000)
    (hw : ∀ u v, wipe (((wipe σ vs).set j1 (some u)).set j2 (some v)) vs = wipe σ vs)
    (he : ∀ x c r H1, x ∈ xs → r ∈ rows → H c = some (.lst (r.map V.int)) → Ex H H1 → EvL te (((wipe σ vs).set j1 (some (.int x))).set j2 (some (.ref c))) H1 ((F x r).map V.int))
    (k : ∀ p bs H2, H p = none → (∀ a ∈ bs, H a = none) → bs.Nodup → p ∉ bs → Ex H H2 → Tab H2 p bs (List.zipWith F xs rows) → Q (.ref p) H2) : tLc (iZip K ta) (g2 K j1 j2) tYes te vs σ H Q := by
  refine h H (Ex.refl H) _ fun H1 e1 => ⟨a, b, _, _, rfl, SqL.of (e1 _ _ hx), SqL.of (e1 _ _ ht.1), fun D hD => ?_⟩
  have hDH : H D = none := fresh_back e1 hD
  have el0 : as.length = rows.length := Paired.length ht.2
  refine lc_zip (xs := xs.map V.int) (ys := as.map V.ref) (by rw [List.length_map, List.length_map, el0]; exact hl) (fun i H' => ∃ bs, Ex H1 H' ∧ H' D = some (.lst (bs.map V.ref)) ∧ RowsAt H' bs ((List.zipWith F xs rows).take i) ∧ (∀ a ∈ bs, H a = none) ∧ bs.Nodup ∧ D ∉ bs) ⟨[], Ex.new hD, upd_same, .nil, fun a ha => by simp at ha, List.nodup_nil, by simp⟩ (fun i H' ⟨_, p1, _⟩ => ⟨SqL.of ((e1.trans p1) _ _ hx), SqL.of ((e1.trans p1) _ _ ht.1)⟩) (fun i x y T H' gx gy p nT => ?_) (fun H' p => ?_)
  · obtain ⟨bs, p1, p2, p3, p4, p5, p6⟩ := p
    rw [List.getElem?_map] at gx gy
    obtain ⟨x', hx', rfl⟩ := Option.map_eq_some_iff.mp gx
    obtain ⟨c, hc, rfl⟩ := Option.map_eq_some_iff.mp gy
    obtain ⟨r, hr, hh⟩ := paired_get ht.2 hc
    have hi := (List.getElem?_eq_some_iff.mp hx').1
    have el : bs.length = i := by rw [Paired.length p3, List.length_take, List.length_zipWith]; omega
    have xT : Ex H' (upd H' T (.tup [.int x', .ref c])) := Ex.new nT
    refine ⟨T, _, rfl, SqT.of upd_same, rfl, _, _, rfl, _, _, rfl, rfl, hw _ _, ?_⟩
    show te _ _ _
    refine he x' c r H (List.mem_of_getElem? hx') (List.mem_of_getElem? hr) hh (Ex.refl H) _ ((e1.trans p1).trans xT) _ fun q H4 nq e4 hq => ?_
    have nqD : q ≠ D := fun z => by
      rw [z, xT _ _ p2] at nq
      cases nq
    have nqH' : H' q = none := fresh_back xT nq
    refine ⟨_, e4 _ _ (xT _ _ p2), ?_, bs ++ [q], Ex.mut ((p1.trans xT).trans e4) hD, ?_, ?_, ?_, ?_, ?_⟩
    · rw [List.length_map, el]
      exact small1000 (by omega)
    · rw [upd_same, List.map_append]
      rfl
    · have hzz : (List.zipWith F xs rows)[i]? = some (F x' r) := by rw [List.getElem?_zipWith, hx', hr]
      rw [take_snoc hzz]
      refine paired_snoc (rows_but p3 fun b hb o g => ?_) ?_
      · rw [upd_ne (fun z => p6 (by rw [← z]; exact hb))]
        exact e4 _ _ (xT _ _ g)
      · rw [upd_ne nqD]
        exact hq
    · intro b hb
      rcases List.mem_append.mp hb with h | h
      · exact p4 b h
      · rw [show b = q by simpa using h]
        exact fresh_back (e1.trans p1) nqH'
    · refine List.nodup_append.mpr ⟨p5, by simp, fun b hb c' hc' z => ?_⟩
      have : c' = q := by simpa using hc'
      have hb' : q ∈ bs := by rw [← this, ← z]; exact hb
      obtain ⟨y, _, hy⟩ := paired_mem p3 hb'
      rw [nqH'] at hy
      cases hy
    · intro hb
      rcases List.mem_append.mp hb with h | h
      · exact p6 h
      · exact nqD (by simpa using h : D = q).symm
  · obtain ⟨bs, p1, p2, p3, p4, p5, p6⟩ := p
    rw [List.take_of_length_le (by rw [List.length_zipWith, List.length_map]; omega)] at p3
    exact k D bs H' hDH p4 p5 p6 (e1.trans p1) ⟨p2, p3⟩
theorem flat_ints (ns : List Int) : (ns.map V.int).all flatV = true := by
  rw [List.all_eq_true]
  intro x hx
  obtain ⟨i, _, rfl⟩ := List.mem_map.mp hx
  rfl
/-- -1 at the picked places, else 1 -/
def sgnAt (ns : List Int) (kk : Nat) : Int := if inV (.int (kk : Int)) (ns.map V.int) = true then -1 else 1
theorem sgnAt_two (ns : List Int) (kk : Nat) : sgnAt ns kk = 1 ∨ sgnAt ns kk = -1 := by
  unfold sgnAt
  split
  · exact .inr rfl
  · exact .inl rfl
def sgns (ns : List Int) (m : Nat) : List Int := (List.range m).map (sgnAt ns)
theorem sgns_mem {ns : List Int} {m : Nat} {x : Int} (h : x ∈ sgns ns m) : x = 1 ∨ x = -1 := by
  obtain ⟨kk, _, rfl⟩ := List.mem_map.mp h
  exact sgnAt_two ns kk
def signedOf (rows : List (List Int)) (ris cis : List Int) (m w : Nat) : List (List Int) := List.zipWith (fun s r => List.zipWith (fun c y => s * c * y) (sgns cis w) r) (sgns ris m) rows
theorem bd_sgn {x : Int} (h : x = 1 ∨ x = -1) : Bd 2 x := by
  rcases h with rfl | rfl <;> (unfold Bd; decide)
/-! ### fractions -/
def gcdI (t b : Int) : Int := ((Nat.gcd t.natAbs b.natAbs : Nat) : Int)
/-- the divisor that fraction takes -/
def comI (t b : Int) : Int := if b < 0 then -(gcdI t b) else gcdI t b
theorem gcdI_pos {t b : Int} (h : b ≠ 0) : 0 < gcdI t b := by
  unfold gcdI
  have : 0 < Nat.gcd t.natAbs b.natAbs := Nat.gcd_pos_of_pos_right _ (by omega)
  omega
theorem comI_ne {t b : Int} (h : b ≠ 0) : comI t b ≠ 0 := by
  have := gcdI_pos (t := t) h
  unfold comI
  split <;> omega
theorem gcdI_le {t b : Int} (h : b ≠ 0) : (gcdI t b).natAbs ≤ b.natAbs := by
  unfold gcdI
  rw [Int.natAbs_natCast]
  exact Nat.gcd_le_right _ (by omega)
theorem comI_bd {t b : Int} {n : Nat} (h : b ≠ 0) (g : Bd n b) : Bd n (comI t b) := by
  have e : (comI t b).natAbs = (gcdI t b).natAbs := by
    unfold comI
    split
    · exact Int.natAbs_neg _
    · rfl
  exact Bd.abs g (by rw [e]; exact gcdI_le h)
/-- a value that is_fraction is asked of, and its answer -/
inductive FracV (K : PySem.W.Frag) (H : Hp) : V → Bool → Prop where
  | two {p : Addr} {t b : Int} (e : H p = some (.tup [.int t, .int b])) : FracV K H (.ref p) (decide (1 ≤ b) && decide (gcdI t b = 1))
  | odd1 {p : Addr} {x y : V} {t : String} (e : H p = some (.tup [x, y])) (h : TyX K H x (.type t)) (k : tyOk t) (n : t ≠ "int") : FracV K H (.ref p) false
  | odd2 {p : Addr} {t : Int} {y : V} {u : String} (e : H p = some (.tup [.int t, y])) (h : TyX K H y (.type u)) (k : tyOk u) (n : u ≠ "int") : FracV K H (.ref p) false
  | len {p : Addr} {xs : List V} (e : H p = some (.tup xs)) (n : xs.length ≠ 2) : FracV K H (.ref p) false
  | no {x : V} {t : String} (h : TyX K H x (.type t)) (k : tyOk t) (n : t ≠ "tuple") : FracV K H x false

theorem great_at (k : Int) (h0 : 0 ≤ k) (h1 : k < 4) : ∃ g : Int, atI [V.int 7, V.int 1000, V.int (10 ^ (12 : Int).toNat), V.int (10 ^ (39 : Int).toNat)] k = some (.int g) ∧ 0 < g ∧ Bd 130 g := by
  have hk : k = 0 ∨ k = 1 ∨ k = 2 ∨ k = 3 := by omega
  rcases hk with rfl | rfl | rfl | rfl <;> exact ⟨_, rfl, by decide +kernel, by unfold Bd; decide +kernel⟩
theorem gcdI_dvd_l (t b : Int) : gcdI t b ∣ t := Int.gcd_dvd_left ..
theorem gcdI_dvd_r (t b : Int) : gcdI t b ∣ b := Int.gcd_dvd_right ..
theorem gcdI_mul (m a b : Int) : gcdI (m * a) (m * b) = (m.natAbs : Int) * gcdI a b := by
  unfold gcdI
  rw [Int.natAbs_mul, Int.natAbs_mul, Nat.gcd_mul_left, Int.natCast_mul]
/-- what low tells is in lowest terms -/
theorem low_terms {t b : Int} (h : 0 < b) : 0 < b / gcdI t b ∧ gcdI (t / gcdI t b) (b / gcdI t b) = 1 ∧ (t / gcdI t b).natAbs ≤ t.natAbs ∧ (b / gcdI t b).natAbs ≤ b.natAbs := by
  have gp := gcdI_pos (t := t) (show b ≠ 0 by omega)
  obtain ⟨x, hx⟩ := gcdI_dvd_l t b
  obtain ⟨y, hy⟩ := gcdI_dvd_r t b
  generalize hg : gcdI t b = g at gp hx hy ⊢
  have e1 : t / g = x := by rw [hx]; exact Int.mul_ediv_cancel_left _ (by omega)
  have e2 : b / g = y := by rw [hy]; exact Int.mul_ediv_cancel_left _ (by omega)
  rw [e1, e2]
  have hy0 : 0 < y := by
    rw [hy] at h
    exact Int.pos_of_mul_pos_right h gp |> fun z => z
  refine ⟨hy0, ?_, ?_, ?_⟩
  · have e3 := gcdI_mul g x y
    rw [← hx, ← hy, hg] at e3
    have e4 : (g.natAbs : Int) = g := by omega
    rw [e4] at e3
    have e5 : g * 1 = g * gcdI x y := by rw [Int.mul_one]; exact e3
    exact (Int.eq_of_mul_eq_mul_left (by omega) e5).symm
  · rw [hx, Int.natAbs_mul]
    exact Nat.le_mul_of_pos_left _ (by omega)
  · rw [hy, Int.natAbs_mul]
    exact Nat.le_mul_of_pos_left _ (by omega)
/-- fraction and low agree -/
theorem frac_low {t b : Int} (h : 0 < b) : t.fdiv (comI t b) = t / gcdI t b ∧ b.fdiv (comI t b) = b / gcdI t b := by
  have e : comI t b = gcdI t b := by
    unfold comI
    rw [if_neg (by omega)]
  have gp := gcdI_pos (t := t) (show b ≠ 0 by omega)
  rw [e]
  exact ⟨Int.fdiv_eq_ediv_of_nonneg _ (by omega), Int.fdiv_eq_ediv_of_nonneg _ (by omega)⟩
theorem gcdI_neg_neg (t b : Int) : gcdI (-t) (-b) = gcdI t b := by
  unfold gcdI
  rw [Int.natAbs_neg, Int.natAbs_neg]
theorem frac_low_neg {t b : Int} (h : b < 0) : t.fdiv (comI t b) = (-t) / gcdI (-t) (-b) ∧ b.fdiv (comI t b) = (-b) / gcdI (-t) (-b) := by
  have e : comI t b = -(gcdI t b) := by
    unfold comI
    rw [if_pos h]
  have gp := gcdI_pos (t := t) (show b ≠ 0 by omega)
  rw [e, gcdI_neg_neg]
  obtain ⟨x, hx⟩ := gcdI_dvd_l t b
  obtain ⟨y, hy⟩ := gcdI_dvd_r t b
  generalize gcdI t b = g at gp hx hy ⊢
  have aux : ∀ z w : Int, z = g * w → z.fdiv (-g) = (-z) / g := by
    intro z w hz
    have e1 : z = (-g) * (-w) := by rw [hz, Int.neg_mul_neg]
    have e2 : -z = g * (-w) := by rw [hz, Int.mul_neg]
    have e3 : z.fdiv (-g) = -w := by rw [e1]; exact Int.mul_fdiv_cancel_left _ (by omega)
    rw [e3, e2, Int.mul_ediv_cancel_left _ (by omega)]
  exact ⟨aux t x hx, aux b y hy⟩
theorem frac_share {m a b : Int} (hm : m ≠ 0) (hb : 0 < b) (hg : gcdI a b = 1) : (m * a).fdiv (comI (m * a) (m * b)) = a ∧ (m * b).fdiv (comI (m * a) (m * b)) = b := by
  have e : comI (m * a) (m * b) = m := by
    unfold comI
    rw [gcdI_mul, hg, Int.mul_one]
    by_cases h : m < 0
    · rw [if_pos (Int.mul_neg_of_neg_of_pos h hb)]
      omega
    · rw [if_neg (by have := Int.mul_pos (show 0 < m by omega) hb; omega)]
      omega
  rw [e]
  exact ⟨Int.mul_fdiv_cancel_left _ hm, Int.mul_fdiv_cancel_left _ hm⟩
theorem frac_one (a : Int) : a.fdiv (comI a 1) = a ∧ (1 : Int).fdiv (comI a 1) = 1 := by
  have e : comI a 1 = 1 := by
    unfold comI gcdI
    rw [if_neg (by decide)]
    show ((Nat.gcd a.natAbs 1 : Nat) : Int) = 1
    rw [Nat.gcd_one_right]
    rfl
  rw [e]
  exact ⟨Int.fdiv_one a, rfl⟩

theorem paired_get {α β : Type} {R : α → β → Prop} : ∀ {xs : List α} {ys : List β} {i : Nat} {x : α}, Paired R xs ys → xs[i]? = some x → ∃ y, ys[i]? = some y ∧ R x y
  | _, _, _, _, .nil, h => by simp at h
  | _, _, 0, _, .cons r _, h => ⟨_, rfl, by
      have e := Option.some.inj h
      subst e
      exact r⟩
  | _, _, i + 1, _, .cons _ t, h => paired_get (i := i) t h
theorem tyx_ex {K : PySem.W.Frag} {H H' : Hp} (e : Ex H H') {x : V} {t : String} (k : tyOk t) (h : TyX K H x (.type t)) : TyX K H' x (.type t) := by
    cases h with
    | base b =>
      cases b with
      | non => exact .base .non
      | bl y => exact .base (.bl y)
      | int i => exact .base (.int i)
      | str y => exact .base (.str y)
      | flt y => exact .base (.flt y)
      | lst h => exact .base (.lst (e _ _ h))
      | frz h => exact .base (.frz (e _ _ h))
      | tup h => exact .base (.tup (e _ _ h))
      | dK h => exact .base (.dK (e _ _ h))
      | dT h => exact .base (.dT (e _ _ h))
    | byt y => exact .byt y
    | set h => exact .set (e _ _ h)
    | kList h c => exact .kList h c
    | kTuple h c => exact .kTuple h c
    | kDict h c => exact .kDict h c
    | fTuple h => exact .fTuple (e _ _ h)
    | fDict h => exact .fDict (e _ _ h)
theorem FracV.ex {K : PySem.W.Frag} {H H' : Hp} {x : V} {r : Bool} (e : Ex H H') (f : FracV K H x r) : FracV K H' x r := by
  cases f with
  | two h => exact .two (e _ _ h)
  | odd1 h a k n => exact .odd1 (e _ _ h) (tyx_ex e k a) k n
  | odd2 h a k n => exact .odd2 (e _ _ h) (tyx_ex e k a) k n
  | len h n => exact .len (e _ _ h) n
  | no a k n => exact .no (tyx_ex e k a) k n
/-- what is_whole is asked of, and its answer -/
def WhoV (K : PySem.W.Frag) (H : Hp) (x : V) (r : Bool) : Prop := ∃ t, TyX K H x (.type t) ∧ tyOk t ∧ r = (t == "int")
theorem dp_bools {K : PySem.W.Frag} {H : Hp} : ∀ bs : List Bool, DpAll K H (bs.map V.bl) (bs.map PyData.bool)
  | [] => .nil
  | b :: r => .cons (.bl b) (dp_bools r)
theorem sgn_at (c : Int) : atI [V.int 1, V.int (-1)] (if decide (c < 0) = true then 1 else 0) = some (.int (if c < 0 then -1 else 1)) := by
  by_cases h : c < 0
  · rw [decide_eq_true h, if_pos rfl, if_pos h]
    rfl
  · rw [decide_eq_false h, if_neg Bool.false_ne_true, if_neg h]
    rfl
theorem turn_at (f : Int) (h0 : 0 ≤ f) (h1 : f < 2) : ∃ t : Int, atI [V.int 1, V.int (-1)] f = some (.int t) ∧ t ≠ 0 ∧ Bd 2 t := by
  have : f = 0 ∨ f = 1 := by omega
  rcases this with rfl | rfl <;> exact ⟨_, rfl, by decide, by unfold Bd; decide⟩
theorem c_tup {ta : TA} {σ : L2.St} {H : Hp} {Q : VK} {vs : List V} (h : EvA ta σ H vs) (hl : vs.length ≤ 100000) (k : ∀ p H2, H p = none → Ex H H2 → H2 p = some (.tup vs) → Q (.ref p) H2) : tTup ta σ H Q := eu_tup h hl H (Ex.refl H) Q k
theorem c_lst {ta : TA} {σ : L2.St} {H : Hp} {Q : VK} {vs : List V} (h : EvA ta σ H vs) (hl : vs.length ≤ 100000) (k : ∀ p H2, H p = none → Ex H H2 → H2 p = some (.lst vs) → Q (.ref p) H2) : tLst ta σ H Q := el_lst h hl H (Ex.refl H) Q k
/-- [f(x) for x in xs], the answers rs -/
theorem t_ask {K : PySem.W.Frag} {n j : Nat} {a : Addr} {xs : List V} {rs : List Bool} {R : V → Bool → Prop} {te : TE} {vs : List Nat} {σ : L2.St} {H : Hp} {Q : VK} (hσ : σ[n]? = some (some (.ref a))) (hx : H a = some (.lst xs)) (hl : xs.length ≤ 1000) (hR : Paired R xs rs)
    (hs : ∀ x r H', Ex H H' → R x r → ∀ Q : VK, Q (.bl r) H' → te ((wipe σ vs).set j (some x)) H' Q) (hw : ∀ x, wipe ((wipe σ vs).set j (some x)) vs = wipe σ vs)
    (hd : ∀ D H', H D = none → Ex H H' → H' D = some (.lst (rs.map V.bl)) → Q (.ref D) H') : tLc (iList K (tVar n)) (gName j) tYes te vs σ H Q := by
  refine ⟨_, hσ, a, rfl, ⟨_, SqL.of hx⟩, fun D hD => ?_⟩
  refine lc_list (K := K) (a := a) (xs := xs) (fun i H' => Ex H H' ∧ H' D = some (.lst ((rs.take i).map V.bl))) ⟨Ex.new hD, upd_same⟩ (fun i H' _ h => SqL.of (h.1 _ _ hx)) (fun i x H' hi h => ?_) (fun H' h => ?_)
  · obtain ⟨e, hD'⟩ := h
    obtain ⟨r, hr, f⟩ := paired_get hR hi
    refine ⟨hw x, ?_⟩
    show te ((wipe σ vs).set j (some x)) H' _
    refine hs x r H' e f _ ⟨_, hD', ?_, Ex.mut e hD, ?_⟩
    · rw [List.length_map, List.length_take]
      have h1 := (List.getElem?_eq_some_iff.mp hi).1
      exact small1000 (by omega)
    · rw [upd_same, List.take_add_one, hr, List.map_append]
      rfl
  · obtain ⟨e, hD'⟩ := h
    have el : xs.length = rs.length := Paired.length hR
    rw [el, List.take_length] at hD'
    exact hd D H' hD e hD'
theorem el_ask {K : PySem.W.Frag} {n j : Nat} {a : Addr} {xs : List V} {rs : List Bool} {R : V → Bool → Prop} {te : TE} {vs : List Nat} {σ : L2.St} {H : Hp} (hσ : σ[n]? = some (some (.ref a))) (hx : H a = some (.lst xs)) (hl : xs.length ≤ 1000) (hR : Paired R xs rs)
    (hs : ∀ x r H', Ex H H' → R x r → ∀ Q : VK, Q (.bl r) H' → te ((wipe σ vs).set j (some x)) H' Q) (hw : ∀ x, wipe ((wipe σ vs).set j (some x)) vs = wipe σ vs) : EvL (tLc (iList K (tVar n)) (gName j) tYes te vs) σ H (rs.map V.bl) :=
  fun H1 e Q q => t_ask hσ (e _ _ hx) hl hR (fun x r H' e' f => hs x r H' (e.trans e') f) hw q
theorem rv_neB {K : PySem.W.Frag} {p q : Addr} {bs : List Bool} {H : Hp} (hp : SqL K H p (bs.map V.bl)) (hq : SqL K H q (bs.map V.bl)) (hs : SeqAt.shaped (.list (bs.map PyData.bool)) = true) : RV (rNeD K) (.ref p) (.ref q) H (.bl false) := fun H1 e Q k =>
  ⟨_, _, .lst (ex_l e hp) (dp_bools bs), .lst (ex_l e hq) (dp_bools bs), hs, hs, by
    rw [SeqAt.eqv_refl _ (SeqAt.canLay_of_shaped hs)]
    exact k H1 (Ex.refl _)⟩
theorem el_cat {σ : L2.St} {H : Hp} {ta tb : TE} {xs ys : List V} (ha : EvL ta σ H xs) (hb : EvL tb σ H ys) (hz : xs.length + ys.length ≤ 100000) : EvL (tOp rCat ta tb) σ H (xs ++ ys) := fun H1 e Q q =>
  ha H1 e _ fun p H2 _ e2 hp => hb H2 (e.trans e2) _ fun r H3 _ e3 hr => ⟨p, r, xs, ys, rfl, rfl, e3 _ _ hp, hr, sz_of hz, fun u hu => q u _ (fresh_back (e2.trans e3) hu) ((e2.trans e3).trans (Ex.new hu)) upd_same⟩
theorem el_rep {σ : L2.St} {H : Hp} {ta tb : TE} {xs : List V} {k : Int} (ha : EvL ta σ H xs) (hb : Ev tb σ H (.int k)) (h0 : 0 ≤ k ∧ k ≤ 100000) (hz : xs.length * k.toNat ≤ 100000) : EvL (tOp rRep ta tb) σ H (List.replicate k.toNat xs).flatten := fun H1 e Q q =>
  ha H1 e _ fun p H2 _ e2 hp => hb H2 (e.trans e2) _ fun H3 e3 => ⟨p, k, xs, rfl, rfl, e3 _ _ hp, by omega, by omega, sz_of hz, fun u hu => q u _ (fresh_back (e2.trans e3) hu) ((e2.trans e3).trans (Ex.new hu)) upd_same⟩
theorem tcons_c {v : V} {r : TA} {σ : L2.St} {H : Hp} {Q : List V → Hp → Prop} (h : r σ H fun xs H2 => Q (v :: xs) H2) : tCons (tC v) r σ H Q := h
theorem due_eq {b c : Int} (X : Int) (hb : 0 < b) (hc : c ≠ 0) :
    (X * (if c < 0 then -1 else 1)) / gcdI (X * (if c < 0 then -1 else 1)) (b * (if (if c < 0 then -c else c) > 1 then (if c < 0 then -c else c) else 1)) = X.fdiv (comI X (b * c)) ∧
    (b * (if (if c < 0 then -c else c) > 1 then (if c < 0 then -c else c) else 1)) / gcdI (X * (if c < 0 then -1 else 1)) (b * (if (if c < 0 then -c else c) > 1 then (if c < 0 then -c else c) else 1)) = (b * c).fdiv (comI X (b * c)) := by
  have e : (if (if c < 0 then -c else c) > 1 then (if c < 0 then -c else c) else 1) = (if c < 0 then -c else c) := by
    split <;> split <;> omega
  rw [e]
  by_cases h : c < 0
  · rw [if_pos h, if_pos h, Int.mul_neg, Int.mul_neg, Int.mul_one]
    have hn : b * c < 0 := Int.mul_neg_of_pos_of_neg hb h
    exact ⟨(frac_low_neg hn).1.symm, (frac_low_neg hn).2.symm⟩
  · rw [if_neg h, if_neg h, Int.mul_one]
    have hp : 0 < b * c := Int.mul_pos hb (by omega)
    exact ⟨(frac_low hp).1.symm, (frac_low hp).2.symm⟩
theorem max_abs (c : Int) (h : c ≠ 0) : (if (if c < 0 then -c else c) > 1 then (if c < 0 then -c else c) else 1) = (if c < 0 then -c else c) := by
  split <;> split <;> omega
/-! ### fractions as the rational numbers -/
def frV (q : Rat) : List V := [.int q.num, .int (q.den : Int)]
theorem fr_low {t b : Int} (h : 0 < b) : [V.int (t / gcdI t b), V.int (b / gcdI t b)] = frV (mkRat t b.toNat) := by
  have e : b.toNat ≠ 0 := by omega
  have g : gcdI t b = ((b.toNat.gcd t.natAbs : Nat) : Int) := by
    unfold gcdI
    rw [Nat.gcd_comm, show b.natAbs = b.toNat by omega]
  have hb : b = (b.toNat : Int) := by omega
  unfold frV
  rw [Rat.num_mkRat, Rat.den_mkRat, if_neg e, if_neg e, g, Int.natCast_ediv, ← hb]
theorem fr_com {t b : Int} (h : 0 < b) : [V.int (t.fdiv (comI t b)), V.int (b.fdiv (comI t b))] = frV (mkRat t b.toNat) := by
  have e : comI t b = gcdI t b := if_neg (by omega)
  have g := gcdI_pos (t := t) (b := b) (by omega)
  rw [e, Int.fdiv_eq_ediv_of_nonneg _ (by omega), Int.fdiv_eq_ediv_of_nonneg _ (by omega)]
  exact fr_low h
theorem den_pos (x y : Rat) : 0 < (x.den : Int) * (y.den : Int) := Int.mul_pos (Int.natCast_pos.mpr x.den_pos) (Int.natCast_pos.mpr y.den_pos)
theorem den_ne (x y : Rat) : (x.den : Int) * (y.den : Int) ≠ 0 := Int.ne_of_gt (den_pos x y)
theorem den_nat (x y : Rat) : ((x.den : Int) * (y.den : Int)).toNat = x.den * y.den := by
  rw [← Int.natCast_mul]
  exact Int.toNat_natCast _
theorem fr_plus {x y : Rat} : mkRat (x.num * (y.den : Int) + y.num * (x.den : Int)) ((x.den : Int) * (y.den : Int)).toNat = x + y := by
  rw [den_nat, ← Rat.add_def']
theorem fr_mul {x y : Rat} : mkRat (x.num * y.num) ((x.den : Int) * (y.den : Int)).toNat = x * y := by
  rw [den_nat, ← Rat.mul_def']
theorem num_one (a : Int) : (mkRat a 1).num = a := by
  rw [Rat.num_mkRat]
  simp
theorem den_one (a : Int) : (mkRat a 1).den = 1 := by
  rw [Rat.den_mkRat]
  simp
theorem fr_int {a : Int} {x : Rat} : mkRat (a * x.num) x.den = mkRat a 1 * x := by
  have h := Rat.mkRat_mul_mkRat a x.num 1 x.den
  rw [Rat.mkRat_self, Nat.one_mul] at h
  exact h.symm
def BdQ (n d : Nat) (q : Rat) : Prop := Bd n q.num ∧ Bd d (q.den : Int)
theorem BdQ.mono {n d n' d' : Nat} {q : Rat} (h : BdQ n d q) (a : n ≤ n') (b : d ≤ d') : BdQ n' d' q := ⟨h.1.mono a, h.2.mono b⟩
theorem mk_bd {n d : Nat} {t : Int} {b : Nat} (hb : b ≠ 0) (h1 : Bd n t) (h2 : Bd d (b : Int)) : BdQ n d (mkRat t b) := by
  unfold BdQ
  rw [Rat.num_mkRat, Rat.den_mkRat, if_neg hb, if_neg hb]
  constructor
  · refine h1.abs ?_
    exact Int.natAbs_ediv_le_natAbs _ _
  · refine h2.abs ?_
    rw [Int.natAbs_natCast, Int.natAbs_natCast]
    exact Nat.div_le_self _ _
theorem add_bd {n d n' d' k : Nat} {x y : Rat} (hx : BdQ n d x) (hy : BdQ n' d' y) (h1 : n + d' ≤ k) (h2 : n' + d ≤ k) : BdQ (k + 1) (d + d') (x + y) := by
  rw [Rat.add_def']
  refine mk_bd (Nat.mul_ne_zero x.den_nz y.den_nz) (((hx.1.mul hy.2).mono h1).add ((hy.1.mul hx.2).mono h2)) ?_
  rw [Int.natCast_mul]
  exact hx.2.mul hy.2
theorem times_bd {n m d : Nat} {a : Int} {x : Rat} (ha : Bd n a) (hx : BdQ m d x) : BdQ (n + m) d (mkRat a 1 * x) := by
  rw [← fr_int]
  exact mk_bd x.den_nz (ha.mul hx.1) hx.2
def terms (ns : List Int) (qs : List Rat) : List Rat := List.zipWith (fun a x => mkRat a 1 * x) ns qs
def psum (ts : List Rat) (i : Nat) : Rat := (ts.take i).foldl (· + ·) 0
def fsum (ns : List Int) (qs : List Rat) : Rat := (terms ns qs).foldl (· + ·) 0
theorem psum_succ {ts : List Rat} {i : Nat} {x : Rat} (h : ts[i]? = some x) : psum ts (i + 1) = psum ts i + x := by
  unfold psum
  rw [take_snoc h, List.foldl_append]
  rfl
theorem psum_all {ts : List Rat} {i : Nat} (h : ts.length ≤ i) : psum ts i = ts.foldl (· + ·) 0 := by
  unfold psum
  rw [List.take_of_length_le h]
theorem terms_at {ns : List Int} {qs : List Rat} {i : Nat} {n : Int} {q : Rat} (h1 : ns[i]? = some n) (h2 : qs[i]? = some q) : (terms ns qs)[i]? = some (mkRat n 1 * q) := by
  unfold terms
  rw [List.getElem?_zipWith, h1, h2]
theorem terms_bd {n m d : Nat} {ns : List Int} {qs : List Rat} (hn : ∀ y ∈ ns, Bd n y) (hq : ∀ q ∈ qs, BdQ m d q) : ∀ t ∈ terms ns qs, BdQ (n + m) d t := by
  intro t ht
  obtain ⟨i, hi⟩ := List.mem_iff_getElem?.mp ht
  unfold terms at hi
  rw [List.getElem?_zipWith] at hi
  cases h1 : ns[i]? with
  | none => rw [h1] at hi; cases hi
  | some a =>
    cases h2 : qs[i]? with
    | none => rw [h1, h2] at hi; cases hi
    | some q =>
      rw [h1, h2] at hi
      cases hi
      exact times_bd (hn a (List.mem_of_getElem? h1)) (hq q (List.mem_of_getElem? h2))
theorem psum_bd {n d : Nat} {ts : List Rat} (h : ∀ t ∈ ts, BdQ n d t) : ∀ i : Nat, BdQ (1 + i * (n + d + 1)) (1 + i * d) (psum ts i)
  | 0 => by
    unfold psum
    rw [List.take_zero, Nat.zero_mul, Nat.zero_mul]
    exact ⟨by show (0 : Nat) < _; exact Nat.two_pow_pos _, by show (1 : Nat) < 2 ^ (1 + 0); decide⟩
  | i + 1 => by
    have ih := psum_bd h i
    cases e : ts[i]? with
    | none =>
      have : psum ts (i + 1) = psum ts i := by
        have hl := List.getElem?_eq_none_iff.mp e
        rw [psum_all hl, psum_all (by omega)]
      rw [this]
      exact ih.mono (by rw [Nat.succ_mul]; omega) (by rw [Nat.succ_mul]; omega)
    | some x =>
      rw [psum_succ e]
      have e1 : i * (n + d + 1) = i * n + i * d + i := by rw [Nat.mul_add, Nat.mul_add, Nat.mul_one]
      exact (add_bd (k := i * (n + d + 1) + n + d + 1) ih (h x (List.mem_of_getElem? e)) (by omega) (by omega)).mono (by rw [Nat.succ_mul]; omega) (by rw [Nat.succ_mul]; omega)
/-- fractions in a list -/
def FrsAt (H : Hp) : List Addr → List Rat → Prop := Paired fun a q => H a = some (.tup (frV q))
def FrL (H : Hp) (p : Addr) (bs : List Addr) (qs : List Rat) : Prop := H p = some (.lst (bs.map V.ref)) ∧ FrsAt H bs qs
theorem FrsAt.ex {H H' : Hp} {bs : List Addr} {qs : List Rat} (h : FrsAt H bs qs) (e : Ex H H') : FrsAt H' bs qs := paired_imp (fun _ _ r => e _ _ r) h
theorem FrL.ex {H H' : Hp} {p : Addr} {bs : List Addr} {qs : List Rat} (h : FrL H p bs qs) (e : Ex H H') : FrL H' p bs qs := ⟨e _ _ h.1, h.2.ex e⟩
/-- [f(x) for x in xs], truths -/
theorem el_bools {K : PySem.W.Frag} {n j : Nat} {a : Addr} {xs : List V} {bs : List Bool} {te : TE} {vs : List Nat} {σ : L2.St} {H : Hp} (hσ : σ[n]? = some (some (.ref a))) (hx : H a = some (.lst xs)) (hl : xs.length ≤ 1000) (hb : xs.length = bs.length)
    (hs : ∀ (i : Nat) (x : V) (r : Bool) (H' : Hp), xs[i]? = some x → bs[i]? = some r → Ex H H' → Ev te ((wipe σ vs).set j (some x)) H' (.bl r)) (hw : ∀ x, wipe ((wipe σ vs).set j (some x)) vs = wipe σ vs) : EvL (tLc (iList K (tVar n)) (gName j) tYes te vs) σ H (bs.map V.bl) := by
  intro H0 e0 Q0 q0
  have hx0 := e0 _ _ hx
  refine ⟨_, hσ, a, rfl, ⟨_, SqL.of hx0⟩, fun D hD => ?_⟩
  refine lc_list (K := K) (a := a) (xs := xs) (fun i H' => Ex H0 H' ∧ H' D = some (.lst ((bs.take i).map V.bl))) ⟨Ex.new hD, upd_same⟩ (fun i H' _ p => SqL.of (p.1 _ _ hx0)) (fun i x H' gx p => ?_) (fun H' p => ?_)
  · obtain ⟨p1, p2⟩ := p
    have hi := (List.getElem?_eq_some_iff.mp gx).1
    have gb : bs[i]? = some bs[i] := List.getElem?_eq_getElem (by omega)
    refine ⟨hw _, ?_⟩
    show te _ _ _
    refine hs i x _ H gx gb (Ex.refl H) _ (e0.trans p1) _ fun H4 e4 => ?_
    refine ⟨_, e4 _ _ p2, ?_, Ex.mut (p1.trans e4) hD, ?_⟩
    · rw [List.length_map, List.length_take]
      exact small1000 (by omega)
    · rw [upd_same, take_snoc gb, List.map_append]
      rfl
  · obtain ⟨p1, p2⟩ := p
    rw [hb, List.take_length] at p2
    exact q0 D H' hD p1 p2
theorem all_map {bs : List Bool} : bs.all id = true ↔ ∀ b ∈ bs, b = true := by
  rw [List.all_eq_true]
  rfl
theorem ev_allB {K : PySem.W.Frag} {ta : TE} {σ : L2.St} {H : Hp} {bs : List Bool} (h : EvL ta σ H (bs.map V.bl)) : Ev (tCB (rAll K) (tCons ta tNil)) σ H (.bl (bs.all id)) := fun H1 e Q q =>
  h H1 e _ fun p H2 _ e2 hp => ⟨p, _, rfl, SqL.of hp, q H2 e2⟩
def EvQ (te : TE) (σ : L2.St) (H : Hp) (q : Rat) : Prop := ∀ H1, Ex H H1 → ∀ Q : VK, (∀ t H2, Ex H1 H2 → H2 t = some (.tup (frV q)) → Q (.ref t) H2) → te σ H1 Q
theorem fr_true {q : Rat} : (decide (1 ≤ (q.den : Int)) && decide (gcdI q.num (q.den : Int) = 1)) = true := by
  have h1 : (1 : Int) ≤ (q.den : Int) := by
    have := q.den_pos
    omega
  have h2 : gcdI q.num (q.den : Int) = 1 := by
    unfold gcdI
    rw [Int.natAbs_natCast, q.reduced.gcd_eq_one]
    rfl
  rw [decide_eq_true h1, decide_eq_true h2]
  rfl
theorem lf_rows {K : PySem.W.Frag} {nn : Nat} {te : TE} {vs : List Nat} {j : Nat} {σ : L2.St} {H : Hp} {Q : VK} {a : Addr} {as0 : List Addr} {rows : List (List Int)} (F : List Int → Rat) (hσ : σ[nn]? = some (some (.ref a))) (ht : Tab H a as0 rows) (hm : rows.length ≤ 1000) (hw : ∀ u, wipe ((wipe σ vs).set j (some u)) vs = wipe σ vs)
    (he : ∀ c r H1, r ∈ rows → H c = some (.lst (r.map V.int)) → Ex H H1 → EvQ te ((wipe σ vs).set j (some (.ref c))) H1 (F r))
    (k : ∀ p bs H2, H p = none → Ex H H2 → FrL H2 p bs (rows.map F) → Q (.ref p) H2) : tLc (iList K (tVar nn)) (gName j) tYes te vs σ H Q := by
  refine ⟨_, hσ, a, rfl, ⟨_, SqL.of ht.1⟩, fun D hD => ?_⟩
  refine lc_list (K := K) (a := a) (xs := as0.map V.ref) (fun i H' => ∃ bs, Ex H H' ∧ H' D = some (.lst (bs.map V.ref)) ∧ FrsAt H' bs ((rows.take i).map F)) ⟨[], Ex.new hD, upd_same, .nil⟩ (fun i H' _ ⟨_, p1, _⟩ => SqL.of (p1 _ _ ht.1)) (fun i x H' gx p => ?_) (fun H' p => ?_)
  · obtain ⟨bs, p1, p2, p3⟩ := p
    rw [List.getElem?_map] at gx
    obtain ⟨c0, hc0, rfl⟩ := Option.map_eq_some_iff.mp gx
    obtain ⟨y, hy, hh⟩ := paired_get ht.2 hc0
    have hi := (List.getElem?_eq_some_iff.mp hy).1
    have el : bs.length = i := by rw [Paired.length p3, List.length_map, List.length_take]; omega
    refine ⟨hw _, ?_⟩
    show te _ H' _
    refine he c0 y H' (List.mem_of_getElem? hy) hh p1 H' (Ex.refl _) _ fun r H4 e4 hr => ?_
    refine ⟨_, e4 _ _ p2, ?_, bs ++ [r], Ex.mut (p1.trans e4) hD, ?_, ?_⟩
    · rw [List.length_map, el]
      exact small1000 (by omega)
    · rw [upd_same, List.map_append]
      rfl
    · rw [take_snoc hy, List.map_append]
      have p24 := e4 _ _ p2
      refine paired_snoc (paired_imp (fun b q h => tups_U p24 _ _ (e4 _ _ h)) p3) ?_
      exact tups_U p24 _ _ hr
  · obtain ⟨bs, p1, p2, p3⟩ := p
    rw [List.length_map, Paired.length ht.2, List.take_length] at p3
    exact k D bs H' hD p1 ⟨p2, p3⟩
namespace Fq
end Fq

section
variable {P : Program} {w : World} {K : PySem.W.Frag} {mg : Str → Option Value} {base : Heap}
-- DEF is_whole

def sp_is_whole (K : PySem.W.Frag) : Sp := fun vs H Q _ => ∃ (x : V) (t : String), vs = [x] ∧ TyX K H x (.type t) ∧ tyOk t ∧ Q (.bl (t == "int")) H

theorem ok_is_whole (T : Txt K mg) : FnOk P w K mg base CX0 1 T.f_is_whole T.fd_is_whole ["thing"] (sp_is_whole K) := by
  refine Fun.ok T.F_is_whole sc_is_whole (fun vs H Q E h => ?_) (fun cdv A outer s H vs Q E hr h => ?_)
  · obtain ⟨_, _, rfl, _⟩ := h; rfl
  · refine ⟨_, (pss_one (ps_ret (pe_and (pe_callB (id := "isinstance") (r := rIsi K) call_isi (by rfl) T.n_isinstance (by decide +kernel) (pa_cons (pv 0) (pa_cons (pe_bltn (v := .ty "int") (by rfl) T.n_int (by decide +kernel) rfl) pa_nil))) (pe_one (pe_not (pe_callB (id := "isinstance") (r := rIsi K) call_isi (by rfl) T.n_isinstance (by decide +kernel) (pa_cons (pv 0) (pa_cons (pe_bltn (v := .ty "bool") (by rfl) T.n_bool (by decide +kernel) rfl) pa_nil)))))))), ?_⟩
    obtain ⟨x, t, rfl, ty, ok, q⟩ := h
    refine ⟨x, rfl, x, _, _, _, _, rfl, ClsV.ty _, ty, kit_ty (ty_int ok), _, rfl, ?_⟩
    rcases ok with rfl | rfl | rfl | rfl | rfl | rfl | rfl
    · exact iteT ⟨x, rfl, x, _, _, _, _, rfl, ClsV.ty _, ty, kit_ty (ty_bool (.inl rfl)), _, rfl, q⟩
    · exact iteT ⟨x, rfl, x, _, _, _, _, rfl, ClsV.ty _, ty, kit_ty (ty_bool (.inr (.inl rfl))), _, rfl, q⟩
    all_goals exact iteF q
-- DEF all_lists
structure TN (s : Addr) (H : Hp) (p : Addr) (as : List Addr) (rows : List (List Int)) : Prop where
  tab : Tab H p as rows
  ps : p ≠ s
  ass : ∀ a ∈ as, a ≠ s
theorem TN.ex {s : Addr} {H H' : Hp} {p : Addr} {as : List Addr} {rows : List (List Int)} (h : TN s H p as rows) (e : Ex H H') : TN s H' p as rows := ⟨h.tab.ex e, h.ps, h.ass⟩
theorem TN.exB {s : Addr} {H H' : Hp} {p : Addr} {as : List Addr} {rows : List (List Int)} (h : TN s H p as rows) (e : ExB s H H') : TN s H' p as rows := ⟨⟨e _ _ h.ps h.tab.1, rows_but h.tab.2 fun a ha o g => e a o (h.ass a ha) g⟩, h.ps, h.ass⟩
theorem TN.of {s : Addr} {n : Int} {H0 H : Hp} {p : Addr} {as : List Addr} {rows : List (List Int)} (hs : SrcAt H0 s n) (hp : H0 p = none) (ha : ∀ a ∈ as, H0 a = none) (h : Tab H p as rows) : TN s H p as rows := ⟨h, hs.ne hp, fun a q => hs.ne (ha a q)⟩
theorem dp_rows {K : PySem.W.Frag} {H : Hp} : ∀ {as : List Addr} {rows : List (List Int)}, RowsAt H as rows → DpAll K H (as.map V.ref) (rows.map fun r => PyData.list (r.map PyData.int))
  | _, _, .nil => .nil
  | _, _, .cons h t => .cons (.lst (SqL.of h) (dpAll_ints _)) (dp_rows t)
theorem canLay_rows : ∀ rows : List (List Int), PyData.canLayAll0 (rows.map fun r => PyData.list (r.map PyData.int)) = true
  | [] => rfl
  | r :: rs => by
    show (PyData.canLayAll0 (r.map PyData.int) && PyData.canLayAll0 (rs.map fun r => PyData.list (r.map PyData.int))) = true
    rw [canLay_ints, canLay_rows rs]
    rfl
theorem depth_rows : ∀ rows : List (List Int), PyData.depthAll (rows.map fun r => PyData.list (r.map PyData.int)) ≤ 1
  | [] => Nat.zero_le _
  | r :: rs => by
    show max (PyData.depthAll (r.map PyData.int) + 1) (PyData.depthAll (rs.map fun r => PyData.list (r.map PyData.int))) ≤ 1
    have := depth_rows rs
    rw [depth_ints]
    omega
theorem rv_neT {K : PySem.W.Frag} {H : Hp} {p q : Addr} {as bs : List Addr} {rows : List (List Int)} (hp : Tab H p as rows) (hq : Tab H q bs rows) : RV (rNeD K) (.ref p) (.ref q) H (.bl false) := fun H1 e Q k => by
  have sh : SeqAt.shaped (.list (rows.map fun r => PyData.list (r.map PyData.int))) = true := shaped_list (canLay_rows rows) (Nat.le_trans (depth_rows rows) (by decide))
  refine ⟨_, _, .lst (SqL.of (e _ _ hp.1)) (dp_rows (hp.2.ex e)), .lst (SqL.of (e _ _ hq.1)) (dp_rows (hq.2.ex e)), sh, sh, ?_⟩
  rw [SeqAt.eqv_refl _ (SeqAt.canLay_of_shaped sh)]
  exact k H1 (Ex.refl _)
theorem cutV_ints (ns : List Int) (lo hi : Option Int) : ∃ zs : List Int, cutV (ns.map V.int) lo hi = zs.map V.int := by
  refine ⟨(ns.drop (HT.sIx (ns.map V.int).length 0 lo)).take (HT.sIx (ns.map V.int).length (ns.map V.int).length hi - HT.sIx (ns.map V.int).length 0 lo), ?_⟩
  unfold cutV
  rw [List.map_take, List.map_drop]
theorem paired_app {α β : Type} {R : α → β → Prop} : ∀ {xs : List α} {ys : List β} {xs2 : List α} {ys2 : List β}, Paired R xs ys → Paired R xs2 ys2 → Paired R (xs ++ xs2) (ys ++ ys2)
  | _, _, _, _, .nil, h => h
  | _, _, _, _, .cons a t, h => .cons a (paired_app t h)
theorem paired_take {α β : Type} {R : α → β → Prop} : ∀ {xs : List α} {ys : List β} (n : Nat), Paired R xs ys → Paired R (xs.take n) (ys.take n)
  | _, _, 0, _ => by rw [List.take_zero, List.take_zero]; exact .nil
  | _, _, n + 1, .nil => by rw [List.take_nil, List.take_nil]; exact .nil
  | _, _, n + 1, .cons a t => .cons a (paired_take n t)
theorem lc_rowsT {K : PySem.W.Frag} {nn : Nat} {te : TE} {vs : List Nat} {j : Nat} {σ : L2.St} {H : Hp} {Q : VK} {a : Addr} {as0 : List Addr} {rows : List (List Int)} (F : List Int → List Int) (hσ : σ[nn]? = some (some (.ref a))) (ht : Tab H a as0 rows) (hm : rows.length ≤ 1000) (hw : ∀ u, wipe ((wipe σ vs).set j (some u)) vs = wipe σ vs)
    (he : ∀ c r H1, r ∈ rows → H c = some (.lst (r.map V.int)) → Ex H H1 → EvL te ((wipe σ vs).set j (some (.ref c))) H1 ((F r).map V.int))
    (k : ∀ p as H2, H p = none → (∀ a ∈ as, H a = none) → as.Nodup → p ∉ as → Ex H H2 → Tab H2 p as (rows.map F) → Q (.ref p) H2) : tLc (iList K (tVar nn)) (gName j) tYes te vs σ H Q := by
  refine ⟨_, hσ, a, rfl, ⟨_, SqL.of ht.1⟩, fun D hD => ?_⟩
  refine lc_list (K := K) (a := a) (xs := as0.map V.ref) (fun i H' => ∃ as, Ex H H' ∧ H' D = some (.lst (as.map V.ref)) ∧ RowsAt H' as ((rows.take i).map F) ∧ (∀ a ∈ as, H a = none) ∧ as.Nodup ∧ D ∉ as) ⟨[], Ex.new hD, upd_same, .nil, fun a ha => by simp at ha, List.nodup_nil, by simp⟩ (fun i H' _ ⟨_, p1, _⟩ => SqL.of (p1 _ _ ht.1)) (fun i x H' gx p => ?_) (fun H' p => ?_)
  · obtain ⟨as, p1, p2, p3, p4, p5, p6⟩ := p
    rw [List.getElem?_map] at gx
    obtain ⟨c0, hc0, rfl⟩ := Option.map_eq_some_iff.mp gx
    obtain ⟨y, hy, hh⟩ := paired_get ht.2 hc0
    have hi := (List.getElem?_eq_some_iff.mp hy).1
    have el : as.length = i := by rw [Paired.length p3, List.length_map, List.length_take]; omega
    refine ⟨hw _, ?_⟩
    show te _ H' _
    refine he c0 y H' (List.mem_of_getElem? hy) hh p1 H' (Ex.refl _) _ fun r H4 nr e4 hr => ?_
    have nrD : r ≠ D := fun z => by
      rw [z, p2] at nr
      cases nr
    refine ⟨_, e4 _ _ p2, ?_, as ++ [r], Ex.mut (p1.trans e4) hD, ?_, ?_, ?_, ?_, ?_⟩
    · rw [List.length_map, el]
      exact small1000 (by omega)
    · rw [upd_same, List.map_append]
      rfl
    · rw [take_snoc hy, List.map_append]
      refine paired_snoc (rows_but p3 fun b hb o g => ?_) ?_
      · rw [upd_ne (fun z => p6 (by rw [← z]; exact hb))]
        exact e4 _ _ g
      · rw [upd_ne nrD]
        exact hr
    · intro b hb
      rcases List.mem_append.mp hb with h | h
      · exact p4 b h
      · rw [show b = r by simpa using h]
        exact fresh_back p1 nr
    · refine List.nodup_append.mpr ⟨p5, by simp, fun b hb c hc z => ?_⟩
      have : c = r := by simpa using hc
      have hb' : r ∈ as := by rw [← this, ← z]; exact hb
      obtain ⟨x, _, hx'⟩ := paired_mem p3 hb'
      rw [nr] at hx'
      cases hx'
    · intro hb
      rcases List.mem_append.mp hb with h | h
      · exact p6 h
      · exact nrD (by simpa using h : D = r).symm
  · obtain ⟨as, p1, p2, p3, p4, p5, p6⟩ := p
    rw [List.length_map, Paired.length ht.2, List.take_length] at p3
    exact k D as H' hD p4 p5 p6 p1 ⟨p2, p3⟩
theorem el_catVL {ta tb : TE} {σ : L2.St} {H : Hp} {a : Addr} {xs ys : List V} (ha : Ev ta σ H (.ref a)) (h : H a = some (.lst xs)) (hb : EvL tb σ H ys) (hz : xs.length + ys.length ≤ 100000) : EvL (tOp rCat ta tb) σ H (xs ++ ys) := fun H1 e Q q =>
  ha H1 e _ fun H2 e2 => hb H2 (e.trans e2) _ fun r H3 nr e3 hr => ⟨a, r, xs, ys, rfl, rfl, ((e.trans e2).trans e3) _ _ h, hr, sz_of hz, fun l nl => q l _ (fresh_back (e2.trans e3) nl) ((e2.trans e3).trans (Ex.new nl)) upd_same⟩

/-- [F(r, z) for r in rows for z in zs]: new lists -/
theorem lc2_grow {K : PySem.W.Frag} {n1 n2 j j1 : Nat} {te : TE} {vs vs1 : List Nat} {σ : L2.St} {H : Hp} {Q : VK} {p q : Addr} {as : List Addr} {rows : List (List Int)} {zs : List Int} (F : List Int → Int → List Int)
    (h1 : σ[n1]? = some (some (.ref p))) (ht : Tab H p as rows) (h2 : ∀ u, ((wipe σ vs).set j (some u))[n2]? = some (some (.ref q))) (hq : H q = some (.tup (zs.map V.int))) (hm : rows.length * zs.length ≤ 50000)
    (hw : ∀ u, wipe ((wipe σ vs).set j (some u)) vs = wipe σ vs) (hw1 : ∀ u v, wipe ((wipe ((wipe σ vs).set j (some u)) vs1).set j1 (some v)) vs1 = wipe ((wipe σ vs).set j (some u)) vs1)
    (he : ∀ c r z H1, r ∈ rows → z ∈ zs → H1 c = some (.lst (r.map V.int)) → Ex H H1 → EvL te ((wipe ((wipe σ vs).set j (some (.ref c))) vs1).set j1 (some (.int z))) H1 ((F r z).map V.int))
    (k : ∀ D bs H2, H D = none → (∀ b ∈ bs, H b = none) → bs.Nodup → D ∉ bs → Ex H H2 → Tab H2 D bs (rows.flatMap fun r => zs.map (F r)) → Q (.ref D) H2) :
    tLc2 (iList K (tVar n1)) (gName j) tYes (iTup K (tVar n2)) (gName j1) tYes te vs vs1 σ H Q := by
  refine ⟨_, h1, p, rfl, ⟨_, SqL.of ht.1⟩, fun D hD => ?_⟩
  let Inv (rs : List (List Int)) (G : Hp) : Prop := ∃ bs, Ex H G ∧ G D = some (.lst (bs.map V.ref)) ∧ RowsAt G bs rs ∧ (∀ b ∈ bs, H b = none) ∧ bs.Nodup ∧ D ∉ bs
  have len : ∀ {rs : List (List Int)} {G : Hp} {bs : List Addr}, RowsAt G bs rs → bs.length = rs.length := fun h => Paired.length h
  refine ⟨fun i m G => m = rows.length - i ∧ i ≤ rows.length ∧ Inv ((rows.take i).flatMap fun r => zs.map (F r)) G, ⟨rows.length, by simp, Nat.zero_le _, [], Ex.new hD, upd_same, .nil, fun b hb => (nomatch hb), List.nodup_nil, fun z => nomatch z⟩, ?_⟩
  rintro i m G ⟨rfl, hi, bs, b1, b2, b3, b4, b5, b6⟩
  have al : as.length = rows.length := Paired.length ht.2
  by_cases hlt : i < rows.length
  rotate_left
  · have e : i = rows.length := by omega
    subst e
    rw [List.take_length] at b3
    exact .inl ⟨⟨_, SqL.of (b1 _ _ ht.1), by rw [List.length_map]; omega⟩, k D bs G hD b4 b5 b6 b1 ⟨b2, b3⟩⟩
  have ha : as[i]? = some as[i] := List.getElem?_eq_getElem (by omega)
  obtain ⟨r, hr, hh⟩ := paired_get ht.2 ha
  have hx : (as.map V.ref)[i]? = some (.ref as[i]) := by rw [List.getElem?_map, ha]; rfl
  refine .inr ⟨⟨_, _, SqL.of (b1 _ _ ht.1), hx⟩, Inv ((rows.take (i + 1)).flatMap fun r => zs.map (F r)), fun G' g' => ⟨rows.length - (i + 1), by omega, rfl, hlt, g'⟩, fun x G' y => ?_⟩
  obtain ⟨rfl, y⟩ := y
  have ex := y _ (SqL.of (b1 _ _ ht.1))
  rw [hx] at ex
  cases ex
  refine ⟨hw _, ?_⟩
  dsimp only [tYes]
  rw [if_pos rfl]
  refine ⟨_, h2 _, q, rfl, ⟨_, SqT.of (b1 _ _ hq)⟩, ?_⟩
  refine ⟨fun jj kk G => kk = zs.length - jj ∧ jj ≤ zs.length ∧ Inv (((rows.take i).flatMap fun r => zs.map (F r)) ++ (zs.take jj).map (F r)) G, ⟨zs.length, by simp, Nat.zero_le _, bs, b1, b2, by rw [List.take_zero, List.map_nil, List.append_nil]; exact b3, b4, b5, b6⟩, ?_⟩
  rintro jj kk G2 ⟨rfl, hj, cs, c1, c2, c3, c4, c5, c6⟩
  by_cases hlt2 : jj < zs.length
  rotate_left
  · have e : jj = zs.length := by omega
    subst e
    rw [List.take_length] at c3
    refine .inl ⟨⟨_, SqT.of (c1 _ _ hq), by rw [List.length_map]; omega⟩, cs, c1, c2, ?_, c4, c5, c6⟩
    rw [take_snoc hr, List.flatMap_append, List.flatMap_cons, List.flatMap_nil, List.append_nil]
    exact c3
  have hz : zs[jj]? = some zs[jj] := List.getElem?_eq_getElem hlt2
  have hx2 : (zs.map V.int)[jj]? = some (.int zs[jj]) := by rw [List.getElem?_map, hz]; rfl
  refine .inr ⟨⟨_, _, SqT.of (c1 _ _ hq), hx2⟩, Inv (((rows.take i).flatMap fun r => zs.map (F r)) ++ (zs.take (jj + 1)).map (F r)), fun G' g' => ⟨zs.length - (jj + 1), by omega, rfl, hlt2, g'⟩, fun x G' y => ?_⟩
  obtain ⟨rfl, y⟩ := y
  have ex := y _ (SqT.of (c1 _ _ hq))
  rw [hx2] at ex
  cases ex
  refine ⟨hw1 _ _, ?_⟩
  rw [if_pos rfl]
  refine he as[i] r zs[jj] _ (List.mem_of_getElem? hr) (List.getElem_mem hlt2) (c1 _ _ hh) c1 _ (Ex.refl _) _ fun u G3 nu e3 hu => ?_
  have nuD : u ≠ D := fun z => by
    rw [z, c2] at nu
    cases nu
  have lc : cs.length ≤ 50000 := by
    rw [len c3, List.length_append, List.length_map, List.length_take, List.length_flatMap]
    have : ((rows.take i).map fun r => (zs.map (F r)).length).sum = i * zs.length := by
      have : ((rows.take i).map fun r => (zs.map (F r)).length) = List.replicate i zs.length := by
        rw [List.eq_replicate_iff]
        refine ⟨by rw [List.length_map, List.length_take]; omega, fun b hb => ?_⟩
        obtain ⟨r, _, rfl⟩ := List.mem_map.mp hb
        rw [List.length_map]
      rw [this, List.sum_replicate_nat]
    rw [this]
    have h3 : (i + 1) * zs.length ≤ rows.length * zs.length := Nat.mul_le_mul_right _ hlt
    rw [Nat.add_mul, Nat.one_mul] at h3
    omega
  refine ⟨_, e3 _ _ c2, by rw [List.length_map]; exact sz_lt (by omega), cs ++ [u], Ex.mut (c1.trans e3) hD, ?_, ?_, ?_, ?_, ?_⟩
  · rw [upd_same, List.map_append]
    rfl
  · rw [take_snoc hz, List.map_append, ← List.append_assoc]
    refine paired_snoc (rows_but c3 fun b hb o g => ?_) ?_
    · rw [upd_ne (fun z => c6 (by rw [← z]; exact hb))]
      exact e3 _ _ g
    · rw [upd_ne nuD]
      exact hu
  · intro b hb
    rcases List.mem_append.mp hb with h | h
    · exact c4 b h
    · rw [List.mem_singleton.mp h]
      exact fresh_back c1 nu
  · refine List.nodup_append.mpr ⟨c5, by simp, fun b hb c hc z => ?_⟩
    have : c = u := by simpa using hc
    have hb' : u ∈ cs := by rw [← this, ← z]; exact hb
    obtain ⟨x, _, hx'⟩ := paired_mem c3 hb'
    rw [nu] at hx'
    cases hx'
  · intro hb
    rcases List.mem_append.mp hb with h | h
    · exact c6 h
    · exact nuD (List.mem_singleton.mp h).symm
def TupsAt (H : Hp) (as : List Addr) (L : List (List Int)) : Prop := Paired (fun a (r : List Int) => H a = some (.tup (r.map V.int))) as L
def sp_all_lists (K : PySem.W.Frag) : Sp := fun vs H Q _ => ∃ (p : Addr) (cs : List Addr) (choices : List (List Int)) (b : Nat), vs = [.ref p] ∧ (H p = some (.lst (cs.map V.ref)) ∧ TupsAt H cs choices) ∧ (∀ c ∈ choices, c.length ≤ b) ∧ 1 ≤ b ∧ b ^ choices.length ≤ 5000 ∧ b ≤ 10 ∧ choices.length ≤ 20 ∧
  ∀ q bs H', H q = none → (∀ a ∈ bs, H a = none) → bs.Nodup → q ∉ bs → Ex H H' → Tab H' q bs (Ls.allL choices) → Q (.ref q) H'

theorem ok_all_lists (T : Txt K mg) : FnOk P w K mg base CX0 1 T.f_all_lists T.fd_all_lists ["choices"] (sp_all_lists K) := by
  refine Fun.ok T.F_all_lists sc_all_lists (fun vs H Q E h => ?_) (fun cdv A outer s H vs Q E hr h => ?_)
  · obtain ⟨_, _, _, _, rfl, _⟩ := h; rfl
  · refine ⟨_, (pss_cut (ps_set (i := 1) sc_all_lists.nd rfl (by first | exact Or.inl rfl | exact Or.inr rfl) (pe_lst (pa_cons (pe_lst pa_nil) pa_nil)))
      (pss_cons (ps_for PassesOwn.never rfl (pi_list (pv 0)) (pg_name (i := 2) sc_all_lists.nd rfl (by first | exact Or.inl rfl | exact Or.inr rfl))
        (pss_one (ps_setLc2 (i := 1) (own := [("ahead", 3), ("one", 4)]) (vs1 := [4]) (wi := iList K _) (g := gName 3) (tt := tYes) (wi1 := iTup K _) (g1 := gName 4) (tt1 := tYes) rfl sc_all_lists.nd rfl rfl (sw_true rfl rfl rfl (by decide +kernel)) (pi_list (pv 1)) (blkOk_by (N := ["choices", "told", "some", "ahead", "one"]) (sc := (defScope s_all_lists)) (by decide +kernel)) (by decide) (fun _ _ _ _ _ => pg_name (i := 3) sc_all_lists.nd rfl (Or.inl rfl)) (fun _ _ _ _ _ => pts_nil) (fun _ _ _ _ _ => (pi_tup (pv 2))) (fun _ _ _ _ _ => pg_name (i := 4) sc_all_lists.nd rfl (Or.inl rfl)) (fun _ _ _ _ _ => pts_nil) (fun _ _ _ _ _ => (pe_op op_cat (pv 3) (pe_lst (pa_cons (pv 4) pa_nil)))))))
      (pss_one (ps_ret (pv 1))))), ?_⟩
    obtain ⟨p, cs, choices, b, rfl, hT, hc, b1, hb, b10, c20, k⟩ := h
    have cl : cs.length = choices.length := Paired.length hT.2
    refine ⟨fun σ' H' => ∃ (q : Addr) (bs : List Addr), σ' = [some (.ref p), some (.ref q), none, none, none] ∧ Ex H H' ∧ H q = none ∧ (∀ a ∈ bs, H a = none) ∧ bs.Nodup ∧ q ∉ bs ∧ Tab H' q bs [[]], ?_, ?_⟩
    · refine ⟨Nat.zero_le _, fun l nl => ⟨(by show 1 ≤ sizeLine; decide), fun t nt => ⟨t, [l], rfl, (Ex.new nl).trans (Ex.new nt), fresh_back (Ex.new nl) nt, fun a ha => by rw [List.mem_singleton.mp ha]; exact nl, by simp, fun z => ?_, upd_same, .cons (Ex.new nt _ _ upd_same) .nil⟩⟩⟩
      rw [List.mem_singleton.mp z, upd_same] at nt
      cases nt
    rintro σ' H1 ⟨q, bs, rfl, e1, nq, nbs, nd, qb, hq⟩
    refine q_forL (xs := cs.map V.ref) (ev_var (i := 0) rfl) (SqL.of (e1 _ _ hT.1)) (fun i σ' H' => ∃ (q : Addr) (bs : List Addr) (y2 : Option V), σ' = [some (.ref p), some (.ref q), y2, none, none] ∧ Ex H H' ∧ H q = none ∧ (∀ a ∈ bs, H a = none) ∧ bs.Nodup ∧ q ∉ bs ∧ Tab H' q bs (Ls.allL (choices.take i))) (fun H2 e2 => ⟨q, bs, _, rfl, e1.trans e2, nq, nbs, nd, qb, hq.ex e2⟩) (fun i σ' H' _ ⟨_, _, _, _, h, _⟩ => SqL.of (h _ _ hT.1)) (fun i x σ' H2 hx hP => ?_) (fun σ' H2 hP => ?_)
    · obtain ⟨q, bs, y2, rfl, e2, nq, nbs, nd, qb, hq⟩ := hP
      rw [List.getElem?_map] at hx
      obtain ⟨c, hc', rfl⟩ := Option.map_eq_some_iff.mp hx
      obtain ⟨zs, hz, hh⟩ := paired_get hT.2 hc'
      have hi := (List.getElem?_eq_some_iff.mp hz).1
      have l1 : (Ls.allL (choices.take i)).length ≤ 5000 := by
        have := Ls.allL_len (b := b) (cs := choices.take i) fun c h => hc c (List.mem_of_mem_take h)
        refine Nat.le_trans this (Nat.le_trans (Nat.pow_le_pow_right b1 ?_) hb)
        rw [List.length_take]
        omega
      show tAsg _ (gName 1) _ [some (.ref p), some (.ref q), some (.ref c), none, none] H2
      refine lc2_grow (K := K) (n1 := 1) (n2 := 2) (σ := [some (.ref p), some (.ref q), some (.ref c), none, none]) (vs := [3, 4]) (vs1 := [4]) (j := 3) (j1 := 4) (F := fun r z => r ++ [z]) rfl hq (fun u => rfl) (e2 _ _ hh) ?_ (fun u => rfl) (fun u v => rfl) (fun c r z H3 hr hz hc e3 => ?_) (fun D ds H3 nD nds ndd Dd e3 h3 => ⟨D, ds, _, rfl, e2.trans e3, fresh_back e2 nD, fun a ha => fresh_back e2 (nds a ha), ndd, Dd, ?_⟩)
      · have l2 := hc zs (List.mem_of_getElem? hz)
        exact Nat.le_trans (Nat.mul_le_mul l1 (Nat.le_trans l2 b10)) (by decide)
      · rw [List.map_append]
        refine el_catVL (ev_var rfl) hc (el_lst (vs := [.int z]) (ea_cons (ev_var rfl) ea_nil) (Nat.le_of_ble_eq_true rfl)) ?_
        have l3 := Paired.length (Ls.allL_each _ _ rfl r hr)
        rw [List.length_map, l3, List.length_take]
        show _ + 1 ≤ 100000
        omega
      · rw [take_snoc hz, Ls.allL_snoc]
        exact h3
    · obtain ⟨q, bs, y2, rfl, e2, nq, nbs, nd, qb, hq⟩ := hP
      rw [List.length_map, cl, List.take_length] at hq
      exact ⟨_, rfl, k q bs H2 nq nbs nd qb e2 hq⟩
-- DEF row_totals

theorem ev_sumL {K : PySem.W.Frag} {ta : TE} {σ : L2.St} {H : Hp} {ns : List Int} (h : EvL ta σ H (ns.map V.int)) : Ev (tCB (rSum K) (tCons ta tNil)) σ H (.int ns.sum) := fun H1 e Q q => h H1 e _ fun p H2 _ e2 hp => ⟨p, ns, rfl, SqL.of hp, q H2 e2⟩
theorem ev_allL {K : PySem.W.Frag} {ta : TE} {σ : L2.St} {H : Hp} {bs : List Bool} (h : EvL ta σ H (bs.map V.bl)) : Ev (tCB (rAll K) (tCons ta tNil)) σ H (.bl (bs.all id)) := fun H1 e Q q => h H1 e _ fun p H2 _ e2 hp => ⟨p, bs, rfl, SqL.of hp, q H2 e2⟩

def sp_row_totals (K : PySem.W.Frag) : Sp := fun vs H Q _ => ∃ (p q : Addr) (as : List Addr) (rows : List (List Int)) (zs : List Int), vs = [.ref p, .ref q] ∧ Tab H p as rows ∧ rows.length ≤ 8 ∧ (∀ r ∈ rows, r.length = zs.length ∧ ∀ y ∈ r, Bd 110 y) ∧ zs.length ≤ 8 ∧ H q = some (.lst (zs.map V.int)) ∧ (∀ z ∈ zs, Bd 110 z) ∧
  ∀ d H', H d = none → Ex H H' → H' d = some (.lst ((Ls.totals rows zs).map V.int)) → Q (.ref d) H'

theorem ok_row_totals (T : Txt K mg) : FnOk P w K mg base CX0 1 T.f_row_totals T.fd_row_totals ["table", "numbers"] (sp_row_totals K) := by
  refine Fun.ok T.F_row_totals sc_row_totals (fun vs H Q E h => ?_) (fun cdv A outer s H vs Q E hr h => ?_)
  · obtain ⟨_, _, _, _, _, rfl, _⟩ := h; rfl
  · refine ⟨_, (pss_one (ps_ret (pe_lc (own := [("row", 2)]) (wi := iList K _) (g := gName 2) (tt := tYes) rfl sc_row_totals.nd (pi_list (pv 0)) (blkOk_by (N := ["table", "numbers", "row", "entry", "number"]) (sc := (defScope s_row_totals)) (by decide +kernel)) (fun _ _ _ _ _ => pg_name (i := 2) sc_row_totals.nd rfl (Or.inl rfl)) (fun _ _ _ _ _ => pts_nil) (fun _ _ _ _ _ => (pe_callB (id := "sum") (r := rSum K) (cr_sum rfl) (by rfl) T.n_sum (by decide +kernel) (pa_cons (pe_lc (own := [("entry", 3), ("number", 4)]) (wi := iZip K _) (g := gTup K 2 (gCons (gName 3) (gCons (gName 4) gNil))) (tt := tYes) rfl sc_row_totals.nd (pi_zip (by rfl) T.n_zip (pa_cons (pv 2) (pa_cons (pv 1) pa_nil))) (blkOk_by (N := ["table", "numbers", "row", "entry", "number"]) (sc := (relS ({ kind := .function, names := [(".0", .local), ("row", .local), ("sum", .globalImplicit), ("zip", .globalImplicit), ("numbers", .free)], isGenerator := false, isCoroutine := false } : Scope) (defScope s_row_totals))) (by decide +kernel)) (fun _ _ _ _ _ => (pg_tup rfl (pgs_cons (pg_name (i := 3) sc_row_totals.nd rfl (Or.inl rfl)) (pgs_cons (pg_name (i := 4) sc_row_totals.nd rfl (Or.inl rfl)) pgs_nil)))) (fun _ _ _ _ _ => pts_nil) (fun _ _ _ _ _ => (pe_op op_mulW (pv 3) (pv 4)))) pa_nil)))))), ?_⟩
    obtain ⟨p, q, as, rows, zs, rfl, hT, m8, hr, z8, hq, hz, k⟩ := h
    refine s_retL (el_col (K := K) (n := 0) (f := fun r => Ls.dot r zs) rfl hT.1 hT.2 (by omega) (fun u => rfl) fun b r H1 hr' hb e1 => ?_) fun d H1 nd e1 hd => k d H1 nd e1 hd
    refine ev_sumL (el_zip (K := K) (f := (· * ·)) (ea_cons (ev_var rfl) (ea_cons (ev_var rfl) ea_nil)) (SqL.of (e1 _ _ hb)) (SqL.of (e1 _ _ hq)) (hr r hr').1 (by have := (hr r hr').1; omega) (fun u v => rfl) fun x y H2 hx hy e2 => ?_)
    exact ev_op (ev_var rfl) (ev_var rfl) (rv_I (((hr r hr').2 x hx).mulOk (hz y hy)))
-- DEF _law_source_of

def sp__law_source_of (K : PySem.W.Frag) : Sp := fun vs H Q _ => ∃ c : Int, vs = [.int c] ∧ ∀ (s : Addr) (H' : Hp), H s = none → Ex H H' → SrcAt H' s 0 → Q (.ref s) H'

theorem ok__law_source_of (T : Txt K mg) : FnOk P w K mg base CX0 1 T.f__law_source_of T.fd__law_source_of ["_law_cell"] (sp__law_source_of K) := by
  refine Fun.ok T.F__law_source_of sc__law_source_of (fun vs H Q E h => ?_) (fun cdv A outer s H vs Q E hr h => ?_)
  · obtain ⟨_, rfl, _⟩ := h; rfl
  · refine ⟨_, (pss_one (ps_ret (pe_lst (pa_cons (pe_op op_mul (pv 0) (pe_callTy (T := "int") call_int1 (by rfl) T.n_int (by decide +kernel) (pa_cons (pe_cmpR op_ge (pv 0) (pe_op op_pow pe_int pe_int) (nomark _)) pa_nil))) (pa_cons (pe_op op_mod (pv 0) pe_int) (pa_cons pe_int pa_nil)))))), ?_⟩
    obtain ⟨c, rfl, k⟩ := h
    refine ⟨_, rfl, _, rfl, _, _, rfl, rfl, ⟨by decide, by decide, by decide⟩, _, _, rfl, rfl, .inr ⟨_, rfl, _, _, rfl, rfl, .inr ?_, ?_⟩⟩
    · split <;> exact ⟨by decide, by decide⟩
    refine ⟨_, rfl, _, _, rfl, rfl, (by show (0 : Int) < 2147483647; decide), (by show 3 ≤ sizeLine; decide), fun s hs => ?_⟩
    exact k s _ hs (Ex.new hs) ⟨_, _, _, upd_same, Int.emod_nonneg _ (by decide), Int.emod_lt_of_pos _ (by decide), Int.le_refl _, Int.le_refl _⟩
-- DEF _law_next

def sp__law_next (K : PySem.W.Frag) : Sp := fun vs H Q _ => ∃ (s : Addr) (m n : Int), vs = [.ref s, .int m] ∧ SrcAt H s n ∧ n ≤ 1000000000 ∧ 0 < m ∧ Bd 8000 m ∧
  ∀ (f : Int) (H' : Hp), 0 ≤ f → f < m → ExB s H H' → SrcAt H' s (n + 1) → Q (.int f) H'

theorem ok__law_next (T : Txt K mg) : FnOk P w K mg base CX0 1 T.f__law_next T.fd__law_next ["_law_source", "_law_many"] (sp__law_next K) := by
  refine Fun.ok T.F__law_next sc__law_next (fun vs H Q E h => ?_) (fun cdv A outer s H vs Q E hr h => ?_)
  · obtain ⟨_, _, _, rfl, _⟩ := h; rfl
  · refine ⟨_, (pss_cons (ps_if (pt_cmpR op_gt (pe_ix (r := rIxL K) ix_list (pv 0) pe_int (fun _ _ => rfl)) pe_int (nomark _))
        (pss_cons (ps_set (i := 2) sc__law_next.nd rfl (by first | exact Or.inl rfl | exact Or.inr rfl) (pe_op op_mod (pe_ix (r := rIxL K) ix_list (pv 0) pe_int (fun _ _ => rfl)) (pv 1)))
          (pss_cons (ps_asg (pe_op op_fdivW (pe_ix (r := rIxL K) ix_list (pv 0) pe_int (fun _ _ => rfl)) (pv 1)) (pg_sub (pv 0) pe_int set_list))
          (pss_one (ps_ret (pv 2)))))
        pss_nil)
      (pss_cons (ps_asg (pe_op op_add (pe_ix (r := rIxL K) ix_list (pv 0) pe_int (fun _ _ => rfl)) pe_int) (pg_sub (pv 0) pe_int set_list))
      (pss_cons (ps_set (i := 3) sc__law_next.nd rfl (by first | exact Or.inl rfl | exact Or.inr rfl) (pe_ix (r := rIxL K) ix_list (pe_lst (pa_cons pe_int (pa_cons pe_int (pa_cons pe_int (pa_cons pe_int (pa_cons pe_int (pa_cons pe_int (pa_cons pe_int pa_nil)))))))) (pe_op op_mod (pe_ix (r := rIxL K) ix_list (pv 0) pe_int (fun _ _ => rfl)) pe_int) (fun _ _ => rfl)))
      (pss_cons (ps_set (i := 4) sc__law_next.nd rfl (by first | exact Or.inl rfl | exact Or.inr rfl) (pe_op op_mod (pe_op op_pow (pe_op op_add (pe_op op_add (pe_ix (r := rIxL K) ix_list (pv 0) pe_int (fun _ _ => rfl)) (pe_op op_mul pe_int (pe_ix (r := rIxL K) ix_list (pv 0) pe_int (fun _ _ => rfl)))) pe_int) pe_int) (pv 3)))
      (pss_cons (ps_set (i := 4) sc__law_next.nd rfl (by first | exact Or.inl rfl | exact Or.inr rfl) (pe_op op_mod (pe_op op_mul (pe_op op_add (pv 4) (pe_ix (r := rIxL K) ix_list (pv 0) pe_int (fun _ _ => rfl))) (pe_op op_add (pe_op op_fdiv (pv 4) pe_int) pe_int)) (pv 3)))
      (pss_one (ps_ret (pe_op op_mod (pe_op op_fdiv (pv 4) pe_int) (pv 1))))))))), ?_⟩
    obtain ⟨s, m, n, rfl, ⟨p, u, r, hs, hu0, hu1, hr0, hr1⟩, hn, hm, bm, k⟩ := h
    refine ⟨_, rfl, s, _, _, _, rfl, rfl, SqL.of hs, rfl, _, _, rfl, rfl, _, rfl, ?_⟩
    refine ite2 (fun hp => ?_) (fun _ => ?_)
    · refine ⟨_, rfl, s, _, _, _, rfl, rfl, SqL.of hs, rfl, _, rfl, _, _, rfl, rfl, hm, ?_⟩
      refine ⟨_, rfl, s, _, _, _, rfl, rfl, SqL.of hs, rfl, _, rfl, _, _, rfl, rfl, Bd.divOk hm (bm.mono (by decide : 8000 ≤ 9000)), ?_⟩
      refine ⟨_, rfl, s, _, _, 0, rfl, rfl, hs, rfl, ?_⟩
      refine ⟨_, rfl, ?_⟩
      exact k _ _ (Int.emod_nonneg _ (by omega)) (Int.emod_lt_of_pos _ hm) (ExB.upd _ _ _) ⟨_, _, _, upd_same, hu0, hu1, hr0, by omega⟩
    · refine ⟨_, rfl, s, _, _, _, rfl, rfl, SqL.of hs, rfl, _, _, rfl, rfl, ?_⟩
      refine ⟨_, rfl, s, _, _, 2, rfl, rfl, hs, rfl, ?_⟩
      have hs2 : upd H s (.lst [.int p, .int u, .int (r + 1)]) s = some (.lst [.int p, .int u, .int (r + 1)]) := upd_same
      show tSeq _ _ _ _ (upd H s (.lst [.int p, .int u, .int (r + 1)]))
      generalize hH : upd H s (.lst [.int p, .int u, .int (r + 1)]) = H2 at hs2 ⊢
      refine ⟨(by show 7 ≤ sizeLine; decide), fun l hl => ?_⟩
      have nls : s ≠ l := ne_of_none hs2 hl
      have hs3 : upd H2 l (.lst [V.int 2147483647, V.int 2147483629, V.int 2147483587, V.int 2147483579, V.int 2147483563, V.int 2147483549, V.int 2147483543]) s = some (.lst [.int p, .int u, .int (r + 1)]) := by
        rw [upd_ne nls]
        exact hs2
      obtain ⟨pr, hpr, hp0, hp1⟩ := prime_at (r + 1) (by omega)
      refine ⟨_, rfl, s, _, _, _, rfl, rfl, SqL.of hs3, rfl, _, _, rfl, rfl, (by show (0 : Int) < 7; decide), l, _, _, _, rfl, rfl, SqL.of upd_same, hpr, ?_⟩
      have eH : ExB s H2 (upd H2 l (.lst [V.int 2147483647, V.int 2147483629, V.int 2147483587, V.int 2147483579, V.int 2147483563, V.int 2147483549, V.int 2147483543])) := ExB.of (Ex.new hl)
      generalize upd H2 l (.lst [V.int 2147483647, V.int 2147483629, V.int 2147483587, V.int 2147483579, V.int 2147483563, V.int 2147483549, V.int 2147483543]) = H3 at hs3 eH ⊢
      -- figure
      refine ⟨_, rfl, s, _, _, _, rfl, rfl, SqL.of hs3, rfl, _, rfl, s, _, _, _, rfl, rfl, SqL.of hs3, rfl, _, _, rfl, rfl, .inl ⟨by decide, by decide⟩, _, _, rfl, rfl, _, _, rfl, rfl, _, _, rfl, rfl, ⟨by decide, by decide, ?_⟩, ?_⟩
      · show (u + 7919 * (r + 1) + 1).natAbs < 2 ^ 64
        omega
      refine ⟨_, rfl, _, _, rfl, rfl, hp0, ?_⟩
      have f0 : 0 ≤ (u + 7919 * (r + 1) + 1) ^ (5 : Int).toNat % pr := Int.emod_nonneg _ (by omega)
      have f1 : (u + 7919 * (r + 1) + 1) ^ (5 : Int).toNat % pr < pr := Int.emod_lt_of_pos _ hp0
      show tSeq _ _ _ [some (.ref s), some (.int m), _, some (.int pr), some (.int ((u + 7919 * (r + 1) + 1) ^ (5 : Int).toNat % pr))] _
      generalize (u + 7919 * (r + 1) + 1) ^ (5 : Int).toNat % pr = f at f0 f1 ⊢
      refine ⟨_, rfl, _, rfl, s, _, _, _, rfl, rfl, SqL.of hs3, rfl, _, _, rfl, rfl, ?_⟩
      refine ⟨_, rfl, _, _, rfl, rfl, ⟨by decide, by decide⟩, _, _, rfl, rfl, _, _, rfl, rfl, .inl ?_, ?_⟩
      · constructor <;> omega
      refine ⟨_, rfl, _, _, rfl, rfl, hp0, ?_⟩
      refine ⟨_, rfl, _, _, rfl, rfl, ⟨by decide, by decide⟩, _, rfl, _, _, rfl, rfl, hm, ?_⟩
      refine k _ _ (Int.emod_nonneg _ (by omega)) (Int.emod_lt_of_pos _ hm) (ExB.trans ?_ eH) ⟨_, _, _, hs3, hu0, hu1, by omega, by omega⟩
      rw [← hH]
      exact ExB.upd _ _ _
-- DEF _law_cell_at

def sp__law_cell_at (K : PySem.W.Frag) : Sp := fun vs H Q _ => ∃ (a : Addr) (ns : List Int) (k : Int), vs = [.ref a, .int k] ∧ SqL K H a (ns.map V.int) ∧ 0 ≤ k ∧ ∀ c : Int, Q (.int c) H

theorem ok__law_cell_at (T : Txt K mg) : FnOk P w K mg base CX0 1 T.f__law_cell_at T.fd__law_cell_at ["_law_script", "_law_k"] (sp__law_cell_at K) := by
  refine Fun.ok T.F__law_cell_at sc__law_cell_at (fun vs H Q E h => ?_) (fun cdv A outer s H vs Q E hr h => ?_)
  · obtain ⟨_, _, _, rfl, _⟩ := h; rfl
  · refine ⟨_, (pss_cons (ps_if (pt_cmpR op_lt (pv 1) (pe_callB (id := "len") (r := rLenS K) call_len_seq (by rfl) T.n_len PySem.boot_len (pa_cons (pv 0) pa_nil)) (nomark _))
        (pss_one (ps_ret (pe_ix (r := rIxL K) ix_list (pv 0) (pv 1) (fun _ _ => rfl))))
        pss_nil)
      (pss_one (ps_ret pe_int))), ?_⟩
    obtain ⟨a, ns, k, rfl, hS, hk, q⟩ := h
    refine ⟨_, rfl, _, rfl, a, _, rfl, .inl hS, _, _, rfl, rfl, _, rfl, ?_⟩
    refine ite2 (fun hp => ?_) (fun _ => q 0)
    have hlt : k < ((ns.map V.int).length : Int) := of_decide_eq_true hp
    rw [List.length_map] at hlt
    have hn : k.toNat < ns.length := by omega
    have g : (ns.map V.int)[k.toNat]? = some (.int ns[k.toNat]) := by
      rw [List.getElem?_map, List.getElem?_eq_getElem hn]
      rfl
    refine ⟨_, rfl, _, rfl, a, _, k, _, rfl, rfl, hS, at_of (j := k.toNat) (by omega) g, ?_⟩
    exact q _
-- DEF _law_net
def but {α : Type} (es : List α) (i : Nat) : List α := es.take i ++ es.drop (i + 1)
def sd (es : Gr.Edges) (i : Nat) (x : Int) : Int := if Gr.joins (but es i) id x = Gr.joins (but es i) id (es[i]?.getD (0, 0)).1 then 1 else 0
def netT (es qs : Gr.Edges) : List (List Int) := (List.range es.length).map fun i => qs.map fun f => sd es i f.1 - sd es i f.2
def Tree (es : Gr.Edges) : Prop := 1 ≤ es.length ∧ es.length ≤ 8 ∧ (∀ e ∈ es, 0 ≤ e.1 ∧ e.1 ≤ es.length ∧ 0 ≤ e.2 ∧ e.2 ≤ es.length) ∧ (∀ a ∈ numsTo (es.length + 1), ∀ b ∈ numsTo (es.length + 1), Gr.Same es a b)
/-! what a net's table is by differences along the ends; places named otherwise; arcs turned round (needs Gr, but, sd, netT, Tree) -/
namespace Nl
open Gr
theorem same_of_mem {es fs : Edges} {a b : Int} (h : ∀ e, e ∈ es ↔ e ∈ fs) : Same es a b ↔ Same fs a b :=
  ⟨fun s => s.mono fun e he => (h e).mp he, fun s => s.mono fun e he => (h e).mpr he⟩
theorem but_len {es : Edges} {i : Nat} {e : Int × Int} (hi : es[i]? = some e) : (but es i).length + 1 = es.length := by
  have := (List.getElem?_eq_some_iff.mp hi).1
  unfold but
  rw [List.length_append, List.length_take, List.length_drop]
  omega
theorem but_mem {es : Edges} {i : Nat} {e : Int × Int} (hi : es[i]? = some e) : ∀ f, f ∈ but es i ++ [e] ↔ f ∈ es := by
  intro f
  have hl := (List.getElem?_eq_some_iff.mp hi).1
  have hs : es = es.take i ++ e :: es.drop (i + 1) := by
    have e1 : es.drop i = e :: es.drop (i + 1) := by
      rw [List.drop_eq_getElem_cons hl, (List.getElem?_eq_some_iff.mp hi).2]
    rw [← e1, List.take_append_drop]
  unfold but
  conv => rhs; rw [hs]
  simp only [List.mem_append, List.mem_cons, List.not_mem_nil, or_false]
  constructor
  · rintro ((h | h) | h)
    · exact .inl h
    · exact .inr (.inr h)
    · exact .inr (.inl h)
  · rintro (h | h | h)
    · exact .inl (.inl h)
    · exact .inr h
    · exact .inl (.inr h)
/-- without it, an end's places hang together no more -/
theorem cut_apart {es : Edges} {R : List Int} (nd : R.Nodup) (h : ∀ a ∈ R, ∀ b ∈ R, Same es a b) (hl : es.length + 1 = R.length) {i : Nat} {e : Int × Int} (hi : es[i]? = some e) : ¬ Same (but es i) e.1 e.2 := by
  have bl := but_len hi
  have hm := but_mem hi
  have key := no_round (es := but es i ++ [e]) (R0 := R) (i := (but es i).length) (e := e) nd (fun a ha b hb => (same_of_mem hm).mpr (h a ha b hb)) (by rw [List.length_append]; show _ + 1 + 1 = _; omega) (by rw [List.getElem?_append_right (Nat.le_refl _), Nat.sub_self]; rfl)
  rw [List.take_left] at key
  exact key
theorem nums_nodup (k : Nat) : (numsTo k).Nodup := by
  unfold numsTo List.Nodup
  rw [List.pairwise_map]
  exact (List.nodup_range (n := k)).imp fun {a b} h z => h (by have : (a : Int) = (b : Int) := z; omega)
theorem tree_cut {es : Edges} (T : Tree es) {i : Nat} {e : Int × Int} (hi : es[i]? = some e) : ¬ Same (but es i) e.1 e.2 :=
  cut_apart (nums_nodup _) T.2.2.2 (by rw [numsTo_length]) hi
theorem sd_begin {es : Edges} {i : Nat} {e : Int × Int} (hi : es[i]? = some e) : sd es i e.1 = 1 := by
  unfold sd
  rw [hi]
  exact if_pos rfl
theorem sd_goal {es : Edges} (T : Tree es) {i : Nat} {e : Int × Int} (hi : es[i]? = some e) : sd es i e.2 = 0 := by
  unfold sd
  rw [hi]
  refine if_neg fun z => tree_cut T hi ?_
  exact ((joins_same _ _ rfl _ _).mp z).symm
theorem sd_same {es : Edges} {i : Nat} {x y : Int} (h : Same (but es i) x y) : sd es i x = sd es i y := by
  unfold sd
  rw [(joins_same _ _ rfl _ _).mpr h]
theorem sd_other {es : Edges} {i k : Nat} {f : Int × Int} (hk : es[k]? = some f) (n : k ≠ i) : sd es i f.1 = sd es i f.2 := by
  refine sd_same (.edge ?_)
  have hl := (List.getElem?_eq_some_iff.mp hk).1
  unfold but
  by_cases h : k < i
  · refine List.mem_append_left _ (List.mem_of_getElem? (i := k) ?_)
    rw [List.getElem?_take_of_lt h]
    exact hk
  · refine List.mem_append_right _ (List.mem_of_getElem? (i := k - (i + 1)) ?_)
    rw [List.getElem?_drop, show i + 1 + (k - (i + 1)) = k by omega]
    exact hk
/-- what is alike at both places of each end is alike at all that hang together -/
theorem alike {es : Edges} {c : Int → Int} (h : ∀ e ∈ es, c e.1 = c e.2) {a b : Int} (s : Same es a b) : c a = c b := by
  have := s (fun x => decide (c x = c a)) fun e he => by
    show decide (c e.1 = c a) = decide (c e.2 = c a)
    rw [h e he]
  have h2 : decide (c a = c a) = decide (c b = c a) := this
  rw [decide_eq_true rfl] at h2
  exact (of_decide_eq_true h2.symm).symm
/-- whatever differs by one along its own end, and by nothing along the others, tells the net's entries -/
theorem net_pot {es : Edges} (T : Tree es) {i : Nat} {F : Int → Int} (h : ∀ (k : Nat) f, es[k]? = some f → F f.2 - F f.1 = if k = i then 1 else 0) {a b : Int} (s : Same es a b) : F b - F a = sd es i a - sd es i b := by
  have := alike (c := fun x => F x + sd es i x) (es := es) (fun e he => by
    obtain ⟨k, hk⟩ := List.mem_iff_getElem?.mp he
    have hd := h k e hk
    show F e.1 + sd es i e.1 = F e.2 + sd es i e.2
    by_cases z : k = i
    · subst z
      rw [if_pos rfl] at hd
      rw [sd_begin hk, sd_goal T hk]
      omega
    · rw [if_neg z] at hd
      rw [sd_other hk z]
      omega) s
  have : F a + sd es i a = F b + sd es i b := this
  omega
/-! places named otherwise -/
def nm (p : Int → Int) (e : Int × Int) : Int × Int := (p e.1, p e.2)
theorem same_nm {p r : Int → Int} (h : ∀ x, r (p x) = x) {es : Edges} {a b : Int} : Same (es.map (nm p)) (p a) (p b) ↔ Same es a b := by
  constructor
  · intro s S hS
    have := s (fun x => S (r x)) fun e he => by
      obtain ⟨f, hf, rfl⟩ := List.mem_map.mp he
      show S (r (p f.1)) = S (r (p f.2))
      rw [h, h]
      exact hS f hf
    have h2 : S (r (p a)) = S (r (p b)) := this
    rwa [h, h] at h2
  · intro s S hS
    exact s (fun x => S (p x)) fun e he => hS (nm p e) (List.mem_map.mpr ⟨e, he, rfl⟩)
theorem but_map {p : Int → Int} (es : Edges) (i : Nat) : but (es.map (nm p)) i = (but es i).map (nm p) := by
  unfold but
  rw [List.map_append, List.map_take, List.map_drop]
theorem sd_nm {p r : Int → Int} (h : ∀ x, r (p x) = x) {es : Edges} {i : Nat} (hi : i < es.length) (x : Int) : sd (es.map (nm p)) i (p x) = sd es i x := by
  have he : es[i]? = some es[i] := List.getElem?_eq_getElem hi
  have he2 : (es.map (nm p))[i]? = some (nm p es[i]) := by rw [List.getElem?_map, he]; rfl
  unfold sd
  rw [he, he2, but_map]
  have e1 : (joins ((but es i).map (nm p)) id (p x) = joins ((but es i).map (nm p)) id (p es[i].1)) ↔ (joins (but es i) id x = joins (but es i) id es[i].1) := by
    rw [joins_same _ _ rfl, joins_same _ _ rfl]
    exact same_nm h
  by_cases z : joins (but es i) id x = joins (but es i) id es[i].1
  · exact (if_pos (e1.mpr z)).trans (if_pos z).symm
  · exact (if_neg fun q => z (e1.mp q)).trans (if_neg z).symm
theorem net_nm {p r : Int → Int} (h : ∀ x, r (p x) = x) (es qs : Edges) : netT (es.map (nm p)) (qs.map (nm p)) = netT es qs := by
  unfold netT
  rw [List.length_map]
  refine List.map_congr_left fun i hi => ?_
  have hi := List.mem_range.mp hi
  rw [List.map_map]
  refine List.map_congr_left fun f _ => ?_
  show sd (es.map (nm p)) i (p f.1) - sd (es.map (nm p)) i (p f.2) = _
  rw [sd_nm h hi, sd_nm h hi]
theorem tree_nm {p r : Int → Int} (h : ∀ x, r (p x) = x) (h2 : ∀ x, p (r x) = x) {es : Edges} (hp : ∀ x : Int, 0 ≤ x → x ≤ es.length → 0 ≤ p x ∧ p x ≤ es.length) (hr : ∀ x : Int, 0 ≤ x → x ≤ es.length → 0 ≤ r x ∧ r x ≤ es.length) (T : Tree es) : Tree (es.map (nm p)) := by
  obtain ⟨t1, t2, t3, t4⟩ := T
  unfold Tree
  rw [List.length_map]
  refine ⟨t1, t2, fun e he => ?_, fun a ha b hb => ?_⟩
  · obtain ⟨f, hf, rfl⟩ := List.mem_map.mp he
    obtain ⟨a1, a2, a3, a4⟩ := t3 f hf
    exact ⟨(hp _ a1 a2).1, (hp _ a1 a2).2, (hp _ a3 a4).1, (hp _ a3 a4).2⟩
  · have bd : ∀ x, x ∈ numsTo (es.length + 1) ↔ 0 ≤ x ∧ x ≤ es.length := fun x => by
      unfold numsTo
      constructor
      · intro hx
        obtain ⟨n, hn, rfl⟩ := List.mem_map.mp hx
        have := List.mem_range.mp hn
        omega
      · rintro ⟨x0, x1⟩
        exact List.mem_map.mpr ⟨x.toNat, List.mem_range.mpr (by omega), by omega⟩
    have ha := (bd a).mp ha
    have hb := (bd b).mp hb
    have ra := hr a ha.1 ha.2
    have rb := hr b hb.1 hb.2
    have s := (same_nm h (es := es)).mpr (t4 (r a) ((bd _).mpr ra) (r b) ((bd _).mpr rb))
    rwa [h2, h2] at s
/-! arcs turned round -/
theorem net_back (es qs : Edges) : netT es (qs.map fun f => (f.2, f.1)) = (netT es qs).map fun r => r.map fun y => -y := by
  unfold netT
  rw [List.map_map]
  refine List.map_congr_left fun i _ => ?_
  rw [List.map_map]
  show _ = (qs.map fun f => sd es i f.1 - sd es i f.2).map fun y => -y
  rw [List.map_map]
  refine List.map_congr_left fun f _ => ?_
  show sd es i f.2 - sd es i f.1 = -(sd es i f.1 - sd es i f.2)
  omega
/-- two names taken for one another -/
def two (u v : Int) (x : Int) : Int := if x = u then v else if x = v then u else x
theorem two_two (u v x : Int) : two u v (two u v x) = x := by
  unfold two
  split
  · rename_i h
    subst h
    split
    · rename_i h; exact h
    · rw [if_pos rfl]
  · rename_i h
    split
    · rename_i h2
      subst h2
      rw [if_pos rfl]
    · rfl
/-! the far ends found one after another: each found by an end of its own -/
def Used (es : Edges) (m : Nat) (f : Int → Nat → Int) (L : List Int) : Prop := ∃ U : List Nat, U.Nodup ∧ U.length + 1 = L.length ∧ ∀ k ∈ U, ∃ e, es[k]? = some e ∧ e.1 ∈ L ∧ e.2 ∈ L ∧ ∀ j, j < m → f e.2 j - f e.1 j = if k = j then 1 else 0
theorem used_one {es : Edges} {m : Nat} {f : Int → Nat → Int} {x : Int} : Used es m f [x] := ⟨[], List.nodup_nil, rfl, fun k hk => nomatch hk⟩
theorem used_alike {es : Edges} {m : Nat} {f g : Int → Nat → Int} {L : List Int} (h : Used es m f L) (a : ∀ y ∈ L, ∀ j, j < m → g y j = f y j) : Used es m g L := by
  obtain ⟨U, u1, u2, u3⟩ := h
  refine ⟨U, u1, u2, fun k hk => ?_⟩
  obtain ⟨e, e1, e2, e3, e4⟩ := u3 k hk
  exact ⟨e, e1, e2, e3, fun j hj => by rw [a _ e2 j hj, a _ e3 j hj]; exact e4 j hj⟩
theorem used_more {es : Edges} {m : Nat} {f g : Int → Nat → Int} {L : List Int} {x : Int} {k : Nat} {e : Int × Int} (h : Used es m f L) (nx : x ∉ L) (hk : es[k]? = some e) (he : (e.1 ∈ L ∧ e.2 = x) ∨ (e.2 ∈ L ∧ e.1 = x)) (a : ∀ y ∈ L, ∀ j, j < m → g y j = f y j)
    (d : ∀ j, j < m → g e.2 j - g e.1 j = if k = j then 1 else 0) : Used es m g (L ++ [x]) := by
  obtain ⟨U, u1, u2, u3⟩ := used_alike h a
  have nk : k ∉ U := fun z => by
    obtain ⟨e', e1, e2, e3, _⟩ := u3 k z
    rw [hk] at e1
    cases e1
    rcases he with ⟨_, q⟩ | ⟨_, q⟩
    · exact nx (q ▸ e3)
    · exact nx (q ▸ e2)
  have m1 : e.1 ∈ L ++ [x] := by
    rcases he with ⟨q, _⟩ | ⟨_, q⟩
    · exact List.mem_append_left _ q
    · exact List.mem_append_right _ (List.mem_singleton.mpr q)
  have m2 : e.2 ∈ L ++ [x] := by
    rcases he with ⟨_, q⟩ | ⟨q, _⟩
    · exact List.mem_append_right _ (List.mem_singleton.mpr q)
    · exact List.mem_append_left _ q
  refine ⟨U ++ [k], ?_, by rw [List.length_append, List.length_append]; show U.length + 1 + 1 = L.length + 1; omega, fun k' hk' => ?_⟩
  · refine List.nodup_append.mpr ⟨u1, by simp, fun b hb c hc z => ?_⟩
    have : c = k := by simpa using hc
    exact nk (by rw [← this, ← z]; exact hb)
  · rcases List.mem_append.mp hk' with q | q
    · obtain ⟨e', e1, e2, e3, e4⟩ := u3 k' q
      exact ⟨e', e1, List.mem_append_left _ e2, List.mem_append_left _ e3, e4⟩
    · rw [List.mem_singleton.mp q]
      exact ⟨e, hk, m1, m2, d⟩
/-- once all places are found, each end has been used: the net's entries are the differences -/
theorem used_net {es : Edges} {f : Int → Nat → Int} {L : List Int} (T : Tree es) (h : Used es es.length f L) (hl : L.length = es.length + 1) {i : Nat} (hi : i < es.length) {a b : Int} (s : Same es a b) : f b i - f a i = sd es i a - sd es i b := by
  obtain ⟨U, u1, u2, u3⟩ := h
  have sub : ∀ k ∈ U, k ∈ List.range es.length := fun k hk => by
    obtain ⟨e, e1, _⟩ := u3 k hk
    exact List.mem_range.mpr (List.getElem?_eq_some_iff.mp e1).1
  have all : ∀ k, k < es.length → k ∈ U := fun k hk => by
    by_cases z : k ∈ U
    · exact z
    · exfalso
      have nd : (k :: U).Nodup := List.nodup_cons.mpr ⟨z, u1⟩
      have le := List.Nodup.length_le_of_subset nd (l₂ := List.range es.length) (fun x hx => by
        rcases List.mem_cons.mp hx with rfl | hx
        · exact List.mem_range.mpr hk
        · exact sub x hx)
      rw [List.length_cons, List.length_range] at le
      omega
  refine net_pot T (F := fun x => f x i) (fun k e hk => ?_) s
  obtain ⟨e', e1, _, _, e4⟩ := u3 k (all k (List.getElem?_eq_some_iff.mp hk).1)
  rw [hk] at e1
  cases e1
  exact e4 i hi
theorem used_table {es qs : Edges} {f : Int → Nat → Int} {L : List Int} (T : Tree es) (h : Used es es.length f L) (hl : L.length = es.length + 1) (hq : ∀ e ∈ qs, 0 ≤ e.1 ∧ e.1 ≤ es.length ∧ 0 ≤ e.2 ∧ e.2 ≤ es.length) : ((List.range es.length).map fun k => qs.map fun e => f e.2 k - f e.1 k) = netT es qs := by
  have bd : ∀ x : Int, 0 ≤ x → x ≤ es.length → x ∈ numsTo (es.length + 1) := fun x x0 x1 => by
    unfold numsTo
    exact List.mem_map.mpr ⟨x.toNat, List.mem_range.mpr (by omega), by omega⟩
  unfold netT
  refine List.map_congr_left fun i hi => ?_
  refine List.map_congr_left fun e he => ?_
  obtain ⟨a1, a2, a3, a4⟩ := hq e he
  exact used_net T h hl (List.mem_range.mp hi) (T.2.2.2 _ (bd _ a1 a2) _ (bd _ a3 a4))
end Nl
theorem dec_natT (x y : Nat) : decide (V.int (x : Int) = V.int (y : Int)) = decide (x = y) := by
  by_cases h : x = y
  · rw [h, decide_eq_true rfl, decide_eq_true rfl]
  · rw [decide_eq_false h, decide_eq_false fun z => h (by have := V.int.inj z; omega)]

theorem tree_conn {es : List (Int × Int)} {m : Nat} (hl : es.length = m) (T : Tree es) : Conn es m := fun S hS a b a0 a1 b0 b1 => by
  have bd : ∀ x : Int, 0 ≤ x → x ≤ m → x ∈ numsTo (es.length + 1) := fun x x0 x1 => mem_numsTo.mpr (by rw [hl]; omega)
  exact T.2.2.2 _ (bd a a0 a1) _ (bd b b0 b1) S hS
structure FarX (es : List (Int × Int)) (H : Hp) (d : Addr) (m : Nat) (kvs : List (Key × V)) (L : List Int) : Prop extends FarOk H d m kvs L where
  used : Nl.Used es m (valN H kvs) L
theorem FarOk.val_ex {H H' : Hp} {d : Addr} {m : Nat} {kvs : List (Key × V)} {L : List Int} (h : FarOk H d m kvs L) (e : Ex H H') : ∀ y ∈ L, ∀ j, j < m → valN H' kvs y j = valN H kvs y j := fun y hy j _ => by
  obtain ⟨a, ns, h1, h2, _⟩ := h.get hy
  rw [valN_eq h1 h2, valN_eq h1 (e _ _ h2)]
theorem FarX.ex {es : List (Int × Int)} {H H' : Hp} {d : Addr} {m : Nat} {kvs : List (Key × V)} {L : List Int} (h : FarX es H d m kvs L) (e : Ex H H') : FarX es H' d m kvs L := ⟨h.toFarOk.ex e, Nl.used_alike h.used (h.toFarOk.val_ex e)⟩
theorem FarX.put {es : List (Int × Int)} {H : Hp} {d : Addr} {m : Nat} {kvs : List (Key × V)} {L : List Int} {x : Int} {a : Addr} {ns : List Int} {i : Nat} {e : Int × Int} (h : FarX es H d m kvs L) (hx : x ∉ L) (h0 : 0 ≤ x ∧ x ≤ m) (ha : H a = some (.lst (ns.map V.int))) (hl : ns.length = m) (hb : ∀ y ∈ ns, y.natAbs ≤ L.length + 1) (hi : es[i]? = some e) (he : e.1 ∈ L ∧ e.2 = x ∨ e.2 ∈ L ∧ e.1 = x)
    (hd : ∀ j, j < m → (if e.2 = x then ns[j]?.getD 0 else valN H kvs e.2 j) - (if e.1 = x then ns[j]?.getD 0 else valN H kvs e.1 j) = if i = j then 1 else 0) :
    FarX es (upd H d (.dK (putK kvs (Sum.inl x) (.ref a)))) d m (putK kvs (Sum.inl x) (.ref a)) (L ++ [x]) := by
  have P := h.toFarOk.put hx h0 ha hl hb
  have hn := h.toFarOk.no hx
  have ne : ∀ b (l : List V), H b = some (.lst l) → b ≠ d := fun b l g => ne_of g h.toFarOk.at_ (by intro z; cases z)
  have old : ∀ y ∈ L, ∀ j, valN (upd H d (.dK (putK kvs (Sum.inl x) (.ref a)))) (putK kvs (Sum.inl x) (.ref a)) y j = valN H kvs y j := fun y hy j => by
    obtain ⟨b, us, h1, h2, _⟩ := h.toFarOk.get hy
    have nyx : y ≠ x := fun z => hx (z ▸ hy)
    have v2 : valV (putK kvs (Sum.inl x) (.ref a)) (Sum.inl y : Key) = some (.ref b) := by
      rw [valV_put, if_neg (fun z => nyx (Sum.inl.inj z))]
      exact h1
    rw [valN_eq h1 h2, valN_eq v2 (by rw [upd_ne (ne _ _ h2)]; exact h2)]
  have new : ∀ j, valN (upd H d (.dK (putK kvs (Sum.inl x) (.ref a)))) (putK kvs (Sum.inl x) (.ref a)) x j = ns[j]?.getD 0 := fun j => by
    have v2 : valV (putK kvs (Sum.inl x) (.ref a)) (Sum.inl x : Key) = some (.ref a) := by rw [valV_put, if_pos rfl]
    exact valN_eq v2 (by rw [upd_ne (ne _ _ ha)]; exact ha)
  have one : ∀ y j, (y ∈ L ∨ y = x) → (if y = x then ns[j]?.getD 0 else valN H kvs y j) = valN (upd H d (.dK (putK kvs (Sum.inl x) (.ref a)))) (putK kvs (Sum.inl x) (.ref a)) y j := fun y j hy => by
    by_cases z : y = x
    · rw [if_pos z, z, new]
    · rw [if_neg z, old y (hy.resolve_right z)]
  refine ⟨P, Nl.used_more h.used hx hi he (fun y hy j _ => old y hy j) fun j hj => ?_⟩
  have := hd j hj
  rw [one e.2 j (by rcases he with ⟨_, q⟩ | ⟨q, _⟩; exact .inr q; exact .inl q), one e.1 j (by rcases he with ⟨q, _⟩ | ⟨_, q⟩; exact .inl q; exact .inr q)] at this
  exact this
def sp__law_net (K : PySem.W.Frag) : Sp := fun vs H Q _ => ∃ (pE pA : Addr) (as bs : List Addr) (es qs : List (Int × Int)) (m : Nat), vs = [.ref pE, .ref pA] ∧ es.length = m ∧ H pE = some (.lst (as.map V.ref)) ∧ EdgesAt H as es ∧ H pA = some (.lst (bs.map V.ref)) ∧ EdgesAt H bs qs ∧ qs.length ≤ 8 ∧
  Tree es ∧ (∀ e ∈ qs, 0 ≤ e.1 ∧ e.1 ≤ m ∧ 0 ≤ e.2 ∧ e.2 ≤ m) ∧
  ∀ (rs : List Addr) (p : Addr) (H' : Hp), H p = none → (∀ a ∈ rs, H a = none) → rs.Nodup → p ∉ rs → Ex H H' → Tab H' p rs (netT es qs) → Q (.ref p) H'

theorem ok__law_net (T : Txt K mg) : FnOk P w K mg base CX0 1 T.f__law_net T.fd__law_net ["_law_ends_here", "_law_arcs"] (sp__law_net K) := by
  refine Fun.ok T.F__law_net sc__law_net (fun vs H Q E h => ?_) (fun cdv A outer s H vs Q E hr h => ?_)
  · obtain ⟨_, _, _, _, _, _, _, rfl, _⟩ := h; rfl
  · refine ⟨_, (pss_cons (ps_set (i := 2) sc__law_net.nd rfl (by first | exact Or.inl rfl | exact Or.inr rfl) (pe_disp (pps_cons (pe_ix (r := rIxT K) ix_tup (pe_ix (r := rIxL K) ix_list (pv 0) pe_int (fun _ _ => rfl)) pe_int (fun _ _ => rfl)) (pe_op op_rep (pe_lst (pa_cons pe_int pa_nil)) (pe_callB (id := "len") (r := rLenS K) call_len_seq (by rfl) T.n_len PySem.boot_len (pa_cons (pv 0) pa_nil))) pps_nil) (by rfl) (by rfl) (fun z => by cases z) (by decide)))
      (pss_cons (ps_while PassesOwn.never (pt_cmpR op_le (pe_callB (id := "len") call_lenD (by rfl) T.n_len PySem.boot_len (pa_cons (pv 2) pa_nil)) (pe_callB (id := "len") (r := rLenS K) call_len_seq (by rfl) T.n_len PySem.boot_len (pa_cons (pv 0) pa_nil)) (nomark _))
        (pss_one (ps_for PassesOwn.never rfl (pi_enum (by rfl) T.n_enumerate (pa_cons (pv 0) pa_nil)) (pg_tup rfl (pgs_cons (pg_name (i := 3) sc__law_net.nd rfl (by first | exact Or.inl rfl | exact Or.inr rfl)) (pgs_cons (pg_tup rfl (pgs_cons (pg_name (i := 4) sc__law_net.nd rfl (by first | exact Or.inl rfl | exact Or.inr rfl)) (pgs_cons (pg_name (i := 5) sc__law_net.nd rfl (by first | exact Or.inl rfl | exact Or.inr rfl)) pgs_nil))) pgs_nil)))
            (pss_cons (ps_setLc (i := 6) (own := [("_law_other", 7)]) (g := gName 7) (tt := tYes) rfl sc__law_net.nd rfl rfl (sw_true rfl rfl rfl (by decide +kernel)) (pi_range1 (by rfl) T.n_range (pa_cons (pe_callB (id := "len") (r := rLenS K) call_len_seq (by rfl) T.n_len PySem.boot_len (pa_cons (pv 0) pa_nil)) pa_nil)) (blkOk_by (N := ["_law_ends_here", "_law_arcs", "_law_far", "_law_k", "_law_begin", "_law_goal", "_law_step", "_law_other", "_law_a", "_law_b"]) (sc := (defScope s__law_net)) (by decide +kernel)) (fun _ _ _ _ _ => pg_name (i := 7) sc__law_net.nd rfl (Or.inl rfl)) (fun _ _ _ _ _ => pts_nil) (fun _ _ _ _ _ => (pe_callTy (T := "int") call_int1 (by rfl) T.n_int (by decide +kernel) (pa_cons (pe_cmpR op_eq (pv 3) (pv 7) (nomark _)) pa_nil))))
              (pss_one (ps_if (PW.pt (pw_and (pt_cmp (pc_din (hu_of hr) (pv 4) (pv 2))) (pw_and1 (pt_cmp (pc_dnotin (hu_of hr) (pv 5) (pv 2))))))
                (pss_one (ps_dput (hu_of hr) (pv 2) (pv 5) (pe_lc (own := [("_law_a", 8), ("_law_b", 9)]) (wi := iZip K _) (g := gTup K 2 (gCons (gName 8) (gCons (gName 9) gNil))) (tt := tYes) rfl sc__law_net.nd (pi_zip (by rfl) T.n_zip (pa_cons (pe_dget (hu_of hr) (pv 2) (pv 4) (fun _ _ => rfl)) (pa_cons (pv 6) pa_nil))) (blkOk_by (N := ["_law_ends_here", "_law_arcs", "_law_far", "_law_k", "_law_begin", "_law_goal", "_law_step", "_law_other", "_law_a", "_law_b"]) (sc := (defScope s__law_net)) (by decide +kernel)) (fun _ _ _ _ _ => (pg_tup rfl (pgs_cons (pg_name (i := 8) sc__law_net.nd rfl (Or.inl rfl)) (pgs_cons (pg_name (i := 9) sc__law_net.nd rfl (Or.inl rfl)) pgs_nil)))) (fun _ _ _ _ _ => pts_nil) (fun _ _ _ _ _ => (pe_op op_add (pv 8) (pv 9)))) rfl))
                (pss_one (ps_if (PW.pt (pw_and (pt_cmp (pc_din (hu_of hr) (pv 5) (pv 2))) (pw_and1 (pt_cmp (pc_dnotin (hu_of hr) (pv 4) (pv 2))))))
                    (pss_one (ps_dput (hu_of hr) (pv 2) (pv 4) (pe_lc (own := [("_law_a", 8), ("_law_b", 9)]) (wi := iZip K _) (g := gTup K 2 (gCons (gName 8) (gCons (gName 9) gNil))) (tt := tYes) rfl sc__law_net.nd (pi_zip (by rfl) T.n_zip (pa_cons (pe_dget (hu_of hr) (pv 2) (pv 5) (fun _ _ => rfl)) (pa_cons (pv 6) pa_nil))) (blkOk_by (N := ["_law_ends_here", "_law_arcs", "_law_far", "_law_k", "_law_begin", "_law_goal", "_law_step", "_law_other", "_law_a", "_law_b"]) (sc := (defScope s__law_net)) (by decide +kernel)) (fun _ _ _ _ _ => (pg_tup rfl (pgs_cons (pg_name (i := 8) sc__law_net.nd rfl (Or.inl rfl)) (pgs_cons (pg_name (i := 9) sc__law_net.nd rfl (Or.inl rfl)) pgs_nil)))) (fun _ _ _ _ _ => pts_nil) (fun _ _ _ _ _ => (pe_op op_sub (pv 8) (pv 9)))) rfl))
                    pss_nil))))))))
      (pss_one (ps_ret (pe_lc (own := [("_law_k", 3)]) (g := gName 3) (tt := tYes) rfl sc__law_net.nd (pi_range1 (by rfl) T.n_range (pa_cons (pe_callB (id := "len") (r := rLenS K) call_len_seq (by rfl) T.n_len PySem.boot_len (pa_cons (pv 0) pa_nil)) pa_nil)) (blkOk_by (N := ["_law_ends_here", "_law_arcs", "_law_far", "_law_k", "_law_begin", "_law_goal", "_law_step", "_law_other", "_law_a", "_law_b"]) (sc := (defScope s__law_net)) (by decide +kernel)) (fun _ _ _ _ _ => pg_name (i := 3) sc__law_net.nd rfl (Or.inr rfl)) (fun _ _ _ _ _ => pts_nil) (fun _ _ _ _ _ => (pe_lc (own := [("_law_begin", 4), ("_law_goal", 5)]) (wi := iList K _) (g := gTup K 2 (gCons (gName 4) (gCons (gName 5) gNil))) (tt := tYes) rfl sc__law_net.nd (pi_list (pv 1)) (blkOk_by (N := ["_law_ends_here", "_law_arcs", "_law_far", "_law_k", "_law_begin", "_law_goal", "_law_step", "_law_other", "_law_a", "_law_b"]) (sc := (relS ({ kind := .function, names := [(".0", .local), ("_law_k", .cell), ("_law_arcs", .free), ("_law_far", .free)], isGenerator := false, isCoroutine := false } : Scope) (defScope s__law_net))) (by decide +kernel)) (fun _ _ _ _ _ => (pg_tup rfl (pgs_cons (pg_name (i := 4) sc__law_net.nd rfl (Or.inl rfl)) (pgs_cons (pg_name (i := 5) sc__law_net.nd rfl (Or.inl rfl)) pgs_nil)))) (fun _ _ _ _ _ => pts_nil) (fun _ _ _ _ _ => (pe_op op_sub (pe_ix (r := rIxL K) ix_list (pe_dget (hu_of hr) (pv 2) (pv 5) (fun _ _ => rfl)) (pv 3) (fun _ _ => rfl)) (pe_ix (r := rIxL K) ix_list (pe_dget (hu_of hr) (pv 2) (pv 4) (fun _ _ => rfl)) (pv 3) (fun _ _ => rfl))))))))))), ?_⟩
    obtain ⟨pE, pA, as, bs, es, qs, m, rfl, hes, hE, hEE, hA, hAE, hq8, hTr, hq0, k⟩ := h
    have hm1 : 1 ≤ m := hes ▸ hTr.1
    have hm8 : m ≤ 8 := hes ▸ hTr.2.1
    have he0 : ∀ e ∈ es, 0 ≤ e.1 ∧ e.1 ≤ m ∧ 0 ≤ e.2 ∧ e.2 ≤ m := hes ▸ hTr.2.2.1
    have hC : Conn es m := tree_conn hes hTr
    have hal : as.length = m := by rw [Paired.length hEE, hes]
    -- far
    obtain ⟨a0, as', rfl⟩ : ∃ a0 as', as = a0 :: as' := by
      cases as with
      | nil => simp at hal; omega
      | cons a r => exact ⟨a, r, rfl⟩
    obtain ⟨e0, es', rfl, h00⟩ : ∃ e0 es', es = e0 :: es' ∧ H a0 = some (.tup [.int e0.1, .int e0.2]) := by
      cases hEE with
      | cons g t => exact ⟨_, _, rfl, g⟩
    have hE0 := he0 e0 (List.mem_cons_self ..)
    refine fun d nd => ?_
    have x0 : Ex H (upd H d (.dK [])) := Ex.new nd
    refine ⟨_, rfl, pE, _, 0, _, rfl, rfl, SqL.of (x0 _ _ hE), atI_nat (j := 0) rfl, a0, _, 0, _, rfl, rfl, SqT.of (x0 _ _ h00), rfl, ?_⟩
    refine ⟨Nat.le_of_ble_eq_true rfl, fun z1 nz1 => ?_⟩
    have x1 : Ex (upd H d (.dK [])) (upd (upd H d (.dK [])) z1 (.lst [.int 0])) := Ex.new nz1
    refine ⟨_, rfl, pE, _, rfl, .inl (SqL.of ((x0.trans x1) _ _ hE)), z1, _, _, rfl, rfl, upd_same, ?_, ?_, ?_, fun z2 nz2 => ?_⟩
    · rw [List.length_map, hal]; omega
    · rw [List.length_map, hal]; omega
    · rw [List.length_map, hal]
      exact sz_of (by simp; omega)
    have zz : (List.replicate (((a0 :: as').map V.ref).length : Int).toNat [V.int 0]).flatten = (List.replicate m 0).map V.int := by
      rw [List.length_map, hal, Int.toNat_natCast]
      exact rep_flat m
    rw [zz]
    have x2 : Ex (upd (upd H d (.dK [])) z1 (.lst [.int 0])) (upd (upd (upd H d (.dK [])) z1 (.lst [.int 0])) z2 (.lst ((List.replicate m 0).map V.int))) := Ex.new nz2
    have hd2 := (x1.trans x2) _ _ (upd_same (H := H) (a := d) (o := .dK []))
    refine ⟨hd2, [(Sum.inl e0.1, .ref z2)], rfl, Nat.le_of_ble_eq_true rfl, ?_⟩
    have xa := (x0.trans x1).trans x2
    have hz2 : upd (upd (upd H d (.dK [])) z1 (.lst [.int 0])) z2 (.lst ((List.replicate m 0).map V.int)) z2 = some (.lst ((List.replicate m 0).map V.int)) := upd_same
    generalize upd (upd (upd H d (.dK [])) z1 (.lst [.int 0])) z2 (.lst ((List.replicate m 0).map V.int)) = H2 at hd2 xa hz2 ⊢
    clear x0 x1 x2 nz1 nz2 zz
    have z2d : z2 ≠ d := ne_of hz2 hd2 (by intro z; cases z)
    have F0 : FarOk (upd H2 d (.dK (mergeK [] [(Sum.inl e0.1, .ref z2)]))) d m [(Sum.inl e0.1, .ref z2)] [e0.1] := by
      refine ⟨upd_same, rfl, by simp, fun x hx => ?_, fun x v hv => ?_⟩
      · have : x = e0.1 := by simpa using hx
        rw [this]
        exact ⟨hE0.1, hE0.2.1⟩
      · have hx : x = e0.1 ∧ v = .ref z2 := by
          by_cases h : (Sum.inl e0.1 : Key) = Sum.inl x
          · rw [valV_pos (p := (Sum.inl e0.1, V.ref z2)) h] at hv
            exact ⟨(Sum.inl.inj h).symm, (Option.some.inj hv).symm⟩
          · have : valV [((Sum.inl e0.1 : Key), V.ref z2)] (Sum.inl x : Key) = none := by simp [valV, List.find?_cons, h]
            rw [this] at hv
            cases hv
        obtain ⟨_, rfl⟩ := hx
        refine ⟨z2, List.replicate m 0, rfl, ?_, List.length_replicate, fun y hy => ?_⟩
        · rw [upd_ne z2d]
          exact hz2
        · rw [List.eq_of_mem_replicate hy]
          exact Nat.zero_le _
    replace F0 : FarX (e0 :: es') (upd H2 d (.dK (mergeK [] [(Sum.inl e0.1, .ref z2)]))) d m [(Sum.inl e0.1, .ref z2)] [e0.1] := ⟨F0, Nl.used_one⟩
    have XB : ExB d H (upd H2 d (.dK (mergeK [] [(Sum.inl e0.1, .ref z2)]))) := Ex.updB xa
    have ndl : ∀ {b : Addr} {o : HO}, H b = some o → b ≠ d := fun g => ne_of_none g nd
    generalize upd H2 d (.dK (mergeK [] [(Sum.inl e0.1, .ref z2)])) = H3 at F0 XB
    clear hz2 hd2 xa
    -- the loop
    refine ⟨fun μ σ H' => ∃ (y3 y4 y5 y6 y7 y8 y9 : Option V) (kvs : List (Key × V)) (L : List Int), σ = [some (.ref pE), some (.ref pA), some (.ref d), y3, y4, y5, y6, y7, y8, y9] ∧ μ = m + 1 - L.length ∧ ExB d H H' ∧ FarX (e0 :: es') H' d m kvs L ∧ 1 ≤ L.length,
      ⟨m, _, _, _, _, _, _, _, _, _, rfl, rfl, XB, F0, Nat.le_refl 1⟩, ?_⟩
    rintro μ σ H4 ⟨y3, y4, y5, y6, y7, y8, y9, kvs, L, rfl, rfl, e4, F4, hL1⟩
    refine ⟨_, rfl, d, kvs, rfl, F4.at_, _, rfl, pE, _, rfl, .inl (SqL.of (e4 _ _ (ndl hE) hE)), _, _, rfl, rfl, _, rfl, ?_⟩
    rw [F4.len, List.length_map, hal]
    refine ite2 (fun hc => ?_) (fun hc => ?_)
    · have hLm : L.length ≤ m := by have := of_decide_eq_true hc; omega
      refine ⟨fun σ' H' => ∃ (y3 y4 y5 y6 y7 y8 y9 : Option V) (kvs' : List (Key × V)) (L' : List Int), σ' = [some (.ref pE), some (.ref pA), some (.ref d), y3, y4, y5, y6, y7, y8, y9] ∧ L.length < L'.length ∧ ExB d H H' ∧ FarX (e0 :: es') H' d m kvs' L',
        fun σ' H' ⟨z3, z4, z5, z6, z7, z8, z9, kvs', L', a1, a2, a3, a4⟩ => ⟨m + 1 - L'.length, by omega, z3, z4, z5, z6, z7, z8, z9, kvs', L', a1, rfl, a3, a4, by omega⟩, ?_⟩
      refine ⟨_, rfl, pE, _, rfl, SqL.of (e4 _ _ (ndl hE) hE), for_enum (xs := (a0 :: as').map V.ref) (fun i σ' H' => ∃ (y3 y4 y5 y6 y7 y8 y9 : Option V) (kvs' : List (Key × V)) (L' : List Int), σ' = [some (.ref pE), some (.ref pA), some (.ref d), y3, y4, y5, y6, y7, y8, y9] ∧ ExB d H H' ∧ FarX (e0 :: es') H' d m kvs' L' ∧
        (L.length < L'.length ∨ (L' = L ∧ ∀ j, j < i → ∀ e, (e0 :: es')[j]? = some e → (e.1 ∈ L ↔ e.2 ∈ L)))) ?_ (fun i σ' H' ⟨_, _, _, _, _, _, _, _, _, _, x, _, _⟩ => SqL.of (x _ _ (ndl hE) hE)) ?_ ?_⟩
      · exact ⟨_, _, _, _, _, _, _, _, _, rfl, e4, F4, .inr ⟨rfl, fun j hj => absurd hj (Nat.not_lt_zero _)⟩⟩
      · rintro i x T σ' H5 hi ⟨z3, z4, z5, z6, z7, z8, z9, kvs', L', rfl, e5, F5, hor⟩ nT
        rw [List.getElem?_map] at hi
        obtain ⟨ai, hai, rfl⟩ := Option.map_eq_some_iff.mp hi
        obtain ⟨ei, hei, hti⟩ := paired_get hEE hai
        have xT : Ex H5 (upd H5 T (.tup [.int (i : Nat), .ref ai])) := Ex.new nT
        have mi := he0 ei (List.mem_of_getElem? hei)
        refine ⟨T, _, rfl, SqT.of upd_same, rfl, _, _, rfl, _, _, rfl, ⟨ai, _, rfl, SqT.of (xT _ _ (e5 _ _ (ndl hti) hti)), rfl, _, _, rfl, _, _, rfl, rfl, rfl, ?_⟩⟩
        have F6 := F5.ex xT
        have e6 : ExB d H (upd H5 T (.tup [.int (i : Nat), .ref ai])) := e5.trans (ExB.of xT)
        generalize upd H5 T (.tup [.int (i : Nat), .ref ai]) = H6 at F6 e6 ⊢
        -- step
        have Est : EvL (tLc (iRng1 (tCons (tCB (rLenS K) (tCons (tVar 0) tNil)) tNil)) (gName 7) tYes (tCB (fun xs H Q => (∃ i, xs = [V.int i] ∧ Q (V.int i) H) ∨ ∃ k, xs = [V.bl k] ∧ Q (V.int (if k = true then 1 else 0)) H) (tCons (tOp rEq (tVar 3) (tVar 7)) tNil)) [7])
            [some (.ref pE), some (.ref pA), some (.ref d), some (.int (i : Nat)), some (.int ei.1), some (.int ei.2), z6, z7, z8, z9] H6 (((List.range m).map fun o => if decide (V.int (i : Nat) = V.int (o : Nat)) = true then (1 : Int) else 0).map V.int) := by
          have g := el_lcR1 (t := tYes) (te := tCB (fun xs H Q => (∃ i, xs = [V.int i] ∧ Q (V.int i) H) ∨ ∃ k, xs = [V.bl k] ∧ Q (V.int (if k = true then 1 else 0)) H) (tCons (tOp rEq (tVar 3) (tVar 7)) tNil)) (j := 7) (vs := [7]) (σ := [some (.ref pE), some (.ref pA), some (.ref d), some (.int (i : Nat)), some (.int ei.1), some (.int ei.2), z6, z7, z8, z9]) (H := H6) (n := (m : Int)) (ta := tCons (tCB (rLenS K) (tCons (tVar 0) tNil)) tNil)
            (fun _ => true) (fun o => .int (if decide (V.int (i : Nat) = V.int (o : Nat)) = true then 1 else 0)) (ea_cons (ev_is (ev_len (ev_var rfl) (SqL.of (e6 _ _ (ndl hE) hE))) (by rw [List.length_map, hal])) ea_nil) (by omega) (fun x => rfl) (fun o H1 e ho Hx ex Qx qx => qx Hx (Ex.refl _)) (fun o H1 e ho hf H2 e2 Q2 q2 => ⟨_, rfl, _, rfl, rfl, .inr ⟨_, rfl, q2 H2 (Ex.refl _)⟩⟩)
          have eg : given (m : Int).toNat (fun _ => true) (fun o => V.int (if decide (V.int (i : Nat) = V.int (o : Nat)) = true then 1 else 0)) = ((List.range m).map fun o => if decide (V.int (i : Nat) = V.int (o : Nat)) = true then (1 : Int) else 0).map V.int := by
            unfold given
            rw [Int.toNat_natCast, List.filter_eq_self.mpr (fun _ _ => rfl), List.map_map]
            rfl
          rw [eg] at g
          exact g
        refine q_asgL Est fun st H7 _ e7 hst => ?_
        have F7 := F6.ex e7
        have e07 := e6.trans (ExB.of e7)
        have stb : ∀ y ∈ (List.range m).map fun o => if decide (V.int (i : Nat) = V.int (o : Nat)) = true then (1 : Int) else 0, y = 0 ∨ y = 1 := by
          intro y hy
          obtain ⟨o, _, rfl⟩ := List.mem_map.mp hy
          split
          · exact .inr rfl
          · exact .inl rfl
        have stl : ((List.range m).map fun o => if decide (V.int (i : Nat) = V.int (o : Nat)) = true then (1 : Int) else 0).length = m := by
          rw [List.length_map, List.length_range]
        have stv : ∀ j, j < m → ((List.range m).map fun o => if decide (V.int (i : Nat) = V.int (o : Nat)) = true then (1 : Int) else 0)[j]? = some (if i = j then 1 else 0) := by
          intro j hj
          rw [List.getElem?_map, List.getElem?_range hj]
          show some (if decide (V.int (i : Nat) = V.int (j : Nat)) = true then (1 : Int) else 0) = _
          rw [dec_natT]
          by_cases z : i = j
          · rw [if_pos (decide_eq_true z), if_pos z]
          · rw [if_neg (by simp [z]), if_neg z]
        generalize ((List.range m).map fun o => if decide (V.int (i : Nat) = V.int (o : Nat)) = true then (1 : Int) else 0) = sl at hst stb stl stv
        -- the ifs
        have nxt : ∀ H', ExB d H H' → FarX (e0 :: es') H' d m kvs' L' → (ei.1 ∈ L' ↔ ei.2 ∈ L') → ∃ (y3 y4 y5 y6 y7 y8 y9 : Option V) (kvs' : List (Key × V)) (L' : List Int), [some (V.ref pE), some (.ref pA), some (.ref d), some (.int (i : Nat)), some (.int ei.1), some (.int ei.2), some (.ref st), z7, z8, z9] = [some (.ref pE), some (.ref pA), some (.ref d), y3, y4, y5, y6, y7, y8, y9] ∧ ExB d H H' ∧ FarX (e0 :: es') H' d m kvs' L' ∧
            (L.length < L'.length ∨ (L' = L ∧ ∀ j, j < i + 1 → ∀ e, (e0 :: es')[j]? = some e → (e.1 ∈ L ↔ e.2 ∈ L))) := by
          intro H' x1 x2 x3
          refine ⟨_, _, _, _, _, _, _, kvs', L', rfl, x1, x2, ?_⟩
          rcases hor with h | ⟨rfl, h⟩
          · exact .inl h
          · refine .inr ⟨rfl, fun j hj e he => ?_⟩
            by_cases hji : j < i
            · exact h j hji e he
            · have : j = i := by omega
              subst this
              rw [hei] at he
              have := Option.some.inj he
              rw [← this]
              exact x3
        have grow : ∀ (x : Int) (a : Addr) (ns : List Int) (H' : Hp), ExB d H H' → FarX (e0 :: es') H' d m kvs' L' → x ∉ L' → 0 ≤ x ∧ x ≤ m → H' a = some (.lst (ns.map V.int)) → ns.length = m → (∀ y ∈ ns, y.natAbs ≤ L'.length + 1) → (ei.1 ∈ L' ∧ ei.2 = x ∨ ei.2 ∈ L' ∧ ei.1 = x) → (∀ j, j < m → (if ei.2 = x then ns[j]?.getD 0 else valN H' kvs' ei.2 j) - (if ei.1 = x then ns[j]?.getD 0 else valN H' kvs' ei.1 j) = if i = j then 1 else 0) → ∃ (y3 y4 y5 y6 y7 y8 y9 : Option V) (kvs2 : List (Key × V)) (L2 : List Int), [some (V.ref pE), some (.ref pA), some (.ref d), some (.int (i : Nat)), some (.int ei.1), some (.int ei.2), some (.ref st), z7, z8, z9] = [some (.ref pE), some (.ref pA), some (.ref d), y3, y4, y5, y6, y7, y8, y9] ∧ ExB d H (upd H' d (.dK (putK kvs' (Sum.inl x) (.ref a)))) ∧ FarX (e0 :: es') (upd H' d (.dK (putK kvs' (Sum.inl x) (.ref a)))) d m kvs2 L2 ∧
            (L.length < L2.length ∨ (L2 = L ∧ ∀ j, j < i + 1 → ∀ e, (e0 :: es')[j]? = some e → (e.1 ∈ L ↔ e.2 ∈ L))) := by
          intro x a ns H' x1 x2 x3 x4 x5 x6 x7 x8 x9
          refine ⟨_, _, _, _, _, _, _, _, L' ++ [x], rfl, x1.trans (ExB.upd _ _ _), x2.put x3 x4 x5 x6 x7 hei x8 x9, .inl ?_⟩
          rw [List.length_append]
          simp only [List.length_cons, List.length_nil]
          rcases hor with h | ⟨rfl, _⟩ <;> omega
        have hkv : kvs'.length < sizeLine := small1000 (by have := F7.len; have := F7.le; omega)
        show tIfS _ _ _ _ [some (V.ref pE), some (.ref pA), some (.ref d), some (.int (i : Nat)), some (.int ei.1), some (.int ei.2), some (.ref st), z7, z8, z9] H7
        refine ⟨_, rfl, _, rfl, d, _, rfl, DGet.k (k := Sum.inl ei.1) F7.at_, _, rfl, ?_⟩
        rw [F7.some_ ei.1]
        have snd : (∀ H', Ex H7 H' → ei.1 ∉ L' ∨ ei.2 ∈ L' → tIfS (tAnd (tB (tDIn (tVar 5) (tVar 2))) (tB (tDNotIn (tVar 4) (tVar 2)))) (sDPut (tVar 2) (tVar 4) (tLc (iZip K (tCons (tDGet (tVar 2) (tVar 5)) (tCons (tVar 6) tNil))) (g2 K 8 9) tYes (tOp (rI0 fun i j => V.int (i - j)) (tVar 8) (tVar 9)) [8, 9])) tNext
            { nx := fun σ' H' => ∃ (y3 y4 y5 y6 y7 y8 y9 : Option V) (kvs' : List (Key × V)) (L' : List Int), σ' = [some (.ref pE), some (.ref pA), some (.ref d), y3, y4, y5, y6, y7, y8, y9] ∧ ExB d H H' ∧ FarX (e0 :: es') H' d m kvs' L' ∧ (L.length < L'.length ∨ (L' = L ∧ ∀ j, j < i + 1 → ∀ e, (e0 :: es')[j]? = some e → (e.1 ∈ L ↔ e.2 ∈ L))), rt := Q,
              bk := fun σ' H' => ∃ (y3 y4 y5 y6 y7 y8 y9 : Option V) (kvs' : List (Key × V)) (L' : List Int), σ' = [some (.ref pE), some (.ref pA), some (.ref d), y3, y4, y5, y6, y7, y8, y9] ∧ L.length < L'.length ∧ ExB d H H' ∧ FarX (e0 :: es') H' d m kvs' L',
              ct := fun σ' H' => ∃ (y3 y4 y5 y6 y7 y8 y9 : Option V) (kvs' : List (Key × V)) (L' : List Int), σ' = [some (.ref pE), some (.ref pA), some (.ref d), y3, y4, y5, y6, y7, y8, y9] ∧ ExB d H H' ∧ FarX (e0 :: es') H' d m kvs' L' ∧ (L.length < L'.length ∨ (L' = L ∧ ∀ j, j < i + 1 → ∀ e, (e0 :: es')[j]? = some e → (e.1 ∈ L ↔ e.2 ∈ L))) }
            [some (V.ref pE), some (.ref pA), some (.ref d), some (.int (i : Nat)), some (.int ei.1), some (.int ei.2), some (.ref st), z7, z8, z9] H') := by
          intro H' x1 hno
          have F8 := F7.ex x1
          have e8 := e07.trans (ExB.of x1)
          refine ⟨_, rfl, _, rfl, d, _, rfl, DGet.k (k := Sum.inl ei.2) F8.at_, _, rfl, ?_⟩
          rw [F8.some_ ei.2]
          by_cases h2 : ei.2 ∈ L'
          · rw [decide_eq_true h2]
            refine iteT ?_
            refine ⟨_, rfl, _, rfl, d, _, rfl, DGet.k (k := Sum.inl ei.1) F8.at_, _, rfl, ?_⟩
            rw [F8.some_ ei.1]
            by_cases h1 : ei.1 ∈ L'
            · rw [decide_eq_true h1]
              exact iteF (nxt _ e8 F8 ⟨fun _ => h2, fun _ => h1⟩)
            · rw [decide_eq_false h1]
              refine iteT ?_
              obtain ⟨ar, ns, hv, har, hnl, hnb⟩ := F8.get h2
              refine el_zip (K := K) (f := fun i j => i - j) (xs := ns) (ys := sl) (ea_cons (ev_dget rfl rfl F8.at_ hv) (ea_cons (ev_var rfl) ea_nil)) (SqL.of har) (SqL.of (x1 _ _ hst)) (by rw [hnl, stl]) (by omega) (fun u v => rfl) (fun x y H1 _ _ _ => ev_op (ev_var rfl) (ev_var rfl) rv_I0) H' (Ex.refl _) _ fun r H9 nr e9 hr => ?_
              have F9 := F8.ex e9
              refine ⟨_, rfl, _, rfl, d, _, rfl, DPut.k (k := Sum.inl ei.1) F9.at_ hkv, ?_⟩
              refine grow _ r _ H9 (e8.trans (ExB.of e9)) F9 h1 ⟨mi.1, mi.2.1⟩ hr (by rw [List.length_zipWith]; omega) (fun y hy => ?_) (.inr ⟨h2, rfl⟩) (fun j hj => ?_)
              rotate_left
              · have n12 : ei.2 ≠ ei.1 := fun z => h1 (z ▸ h2)
                rw [if_neg n12, if_pos rfl, valN_eq hv (e9 _ _ har), List.getElem?_zipWith, stv j hj, List.getElem?_eq_getElem (show j < ns.length by omega)]
                show ns[j] - (ns[j] - _) = _
                omega
              obtain ⟨u, v, hu, hv', rfl⟩ : ∃ u v, u ∈ ns ∧ v ∈ sl ∧ u - v = y := by
                obtain ⟨j, hj⟩ := List.getElem?_of_mem hy
                rw [List.getElem?_zipWith] at hj
                cases h3 : ns[j]? with
                | none => rw [h3] at hj; simp at hj
                | some u =>
                  cases h4 : sl[j]? with
                  | none => rw [h3, h4] at hj; simp at hj
                  | some v =>
                    rw [h3, h4] at hj
                    exact ⟨u, v, List.mem_of_getElem? h3, List.mem_of_getElem? h4, Option.some.inj hj⟩
              have b1 := hnb u hu
              rcases stb v hv' with rfl | rfl <;> omega
          · rw [decide_eq_false h2]
            refine iteF ?_
            have h1 : ei.1 ∉ L' := hno.resolve_right h2
            exact nxt _ e8 F8 ⟨fun z => absurd z h1, fun z => absurd z h2⟩
        by_cases h1 : ei.1 ∈ L'
        · rw [decide_eq_true h1]
          refine iteT ?_
          refine ⟨_, rfl, _, rfl, d, _, rfl, DGet.k (k := Sum.inl ei.2) F7.at_, _, rfl, ?_⟩
          rw [F7.some_ ei.2]
          by_cases h2 : ei.2 ∈ L'
          · rw [decide_eq_true h2]
            exact iteF (snd H7 (Ex.refl _) (.inr h2))
          · rw [decide_eq_false h2]
            refine iteT ?_
            obtain ⟨ar, ns, hv, har, hnl, hnb⟩ := F7.get h1
            refine el_zip (K := K) (f := fun i j => i + j) (xs := ns) (ys := sl) (ea_cons (ev_dget rfl rfl F7.at_ hv) (ea_cons (ev_var rfl) ea_nil)) (SqL.of har) (SqL.of hst) (by rw [hnl, stl]) (by omega) (fun u v => rfl) (fun x y H1 _ _ _ => ev_op (ev_var rfl) (ev_var rfl) rv_I0) H7 (Ex.refl _) _ fun r H9 nr e9 hr => ?_
            have F9 := F7.ex e9
            refine ⟨_, rfl, _, rfl, d, _, rfl, DPut.k (k := Sum.inl ei.2) F9.at_ hkv, ?_⟩
            refine grow _ r _ H9 (e07.trans (ExB.of e9)) F9 h2 ⟨mi.2.2.1, mi.2.2.2⟩ hr (by rw [List.length_zipWith]; omega) (fun y hy => ?_) (.inl ⟨h1, rfl⟩) (fun j hj => ?_)
            rotate_left
            · have n12 : ei.1 ≠ ei.2 := fun z => h2 (z ▸ h1)
              rw [if_pos rfl, if_neg n12, valN_eq hv (e9 _ _ har), List.getElem?_zipWith, stv j hj, List.getElem?_eq_getElem (show j < ns.length by omega)]
              show ns[j] + _ - ns[j] = _
              omega
            obtain ⟨u, v, hu, hv', rfl⟩ : ∃ u v, u ∈ ns ∧ v ∈ sl ∧ u + v = y := by
              obtain ⟨j, hj⟩ := List.getElem?_of_mem hy
              rw [List.getElem?_zipWith] at hj
              cases h3 : ns[j]? with
              | none => rw [h3] at hj; simp at hj
              | some u =>
                cases h4 : sl[j]? with
                | none => rw [h3, h4] at hj; simp at hj
                | some v =>
                  rw [h3, h4] at hj
                  exact ⟨u, v, List.mem_of_getElem? h3, List.mem_of_getElem? h4, Option.some.inj hj⟩
            have b1 := hnb u hu
            rcases stb v hv' with rfl | rfl <;> omega
        · rw [decide_eq_false h1]
          exact iteF (snd H7 (Ex.refl _) (.inl h1))
      · rintro σ' H5 ⟨z3, z4, z5, z6, z7, z8, z9, kvs', L', rfl, e5, F5, hor⟩
        refine ⟨z3, z4, z5, z6, z7, z8, z9, kvs', L', rfl, ?_, e5, F5⟩
        rcases hor with h | ⟨rfl, h⟩
        · exact h
        · exfalso
          rw [List.length_map, hal] at h
          obtain ⟨x0, hx0⟩ : ∃ x0, x0 ∈ L' := by
            cases L' with
            | nil => simp at hL1
            | cons x r => exact ⟨x, List.mem_cons_self ..⟩
          have hS := hC (fun x => decide (x ∈ L')) (fun e he => by
            obtain ⟨j, hj⟩ := List.getElem?_of_mem he
            have := h j (by have := (List.getElem?_eq_some_iff.mp hj).1; omega) e hj
            by_cases q : e.1 ∈ L'
            · rw [decide_eq_true q, decide_eq_true (this.mp q)]
            · rw [decide_eq_false q, decide_eq_false (fun z => q (this.mpr z))])
          have hall : ∀ x ∈ numsTo (m + 1), x ∈ L' := by
            intro x hx
            have hx := mem_numsTo.mp hx
            have i0 := F5.inn x0 hx0
            have := hS x x0 (by omega) (by omega) i0.1 i0.2
            rw [decide_eq_true hx0] at this
            exact of_decide_eq_true this
          have := nodup_sub (nodup_nums (m + 1)) hall
          rw [numsTo_length] at this
          omega
    · have hLm : m < L.length := by
        have : ¬ ((L.length : Int) ≤ (m : Int)) := fun z => hc (decide_eq_true z)
        omega
      have hall := F4.all hLm
      have hEl := e4 _ _ (ndl hE) hE
      have hAl := e4 _ _ (ndl hA) hA
      have hAE4 : EdgesAt H4 bs qs := EdgesAt.mono (fun a xs g => e4 _ _ (ndl g) g) hAE
      -- the rows
      refine lc_rows (m := m) (F := fun kk => qs.map fun e => (valN H4 kvs e.2 kk) - (valN H4 kvs e.1 kk)) (ea_cons (ev_is (ev_len (ev_var rfl) (SqL.of hEl)) (by rw [List.length_map, hal])) ea_nil) (by omega) (fun u => rfl) ?_ ?_
      · intro kk H5 x5 hkk
        refine el_pairs (K := K) (f := fun e => (valN H4 kvs e.2 kk) - (valN H4 kvs e.1 kk)) rfl (x5 _ _ hAl) (EdgesAt.mono (tups_E x5) hAE4) (by omega) (fun u v => rfl) fun e H6 he x6 => ?_
        have mq := hq0 e he
        obtain ⟨a1, n1, v1, g1, l1, b1⟩ := F4.get (hall e.1 mq.1 mq.2.1)
        obtain ⟨a2, n2, v2, g2, l2, b2⟩ := F4.get (hall e.2 mq.2.2.1 mq.2.2.2)
        have x46 := x5.trans x6
        rw [valN_eq v1 g1, valN_eq v2 g2]
        refine ev_op (ev_op (ev_dget rfl rfl (x46 _ _ F4.at_) v2) (ev_var rfl) (rv_ixL (SqL.of (x46 _ _ g2)) (atI_row (by omega)))) (ev_op (ev_dget rfl rfl (x46 _ _ F4.at_) v1) (ev_var rfl) (rv_ixL (SqL.of (x46 _ _ g1)) (atI_row (by omega)))) rv_I0
      · intro p rs H5 np nrs ndr npr x5 ht
        have hH : ∀ {a : Addr}, H4 a = none → H a = none := fun {a} g => fresh_B e4 g ⟨_, F4.at_⟩
        have eN : ((List.range m).map fun kk => qs.map fun e => (valN H4 kvs e.2 kk) - (valN H4 kvs e.1 kk)) = netT (e0 :: es') qs := by
          have hU := F4.used
          have hl : L.length = m + 1 := by have := F4.le; omega
          subst hes
          exact Nl.used_table hTr hU hl hq0
        rw [eN] at ht
        exact k rs p H5 (hH np) (fun a ha => hH (nrs a ha)) ndr npr (fun b o g => (e4.trans (ExB.of x5)) b o (ndl g) g) ht
-- DEF _law_whole_sums

def sp__law_whole_sums (K : PySem.W.Frag) : Sp := fun vs H Q _ => ∃ (p q : Addr) (as : List Addr) (rows : List (List Int)) (zs : List Int), vs = [.ref p, .ref q] ∧ Tab H p as rows ∧ rows.length ≤ 8 ∧ (∀ r ∈ rows, r.length = zs.length ∧ ∀ y ∈ r, Bd 110 y) ∧ zs.length ≤ 8 ∧ H q = some (.lst (zs.map V.int)) ∧ (∀ z ∈ zs, Bd 110 z) ∧
  ∀ d H', H d = none → Ex H H' → H' d = some (.lst ((Ls.totals rows zs).map V.int)) → Q (.ref d) H'

theorem ok__law_whole_sums (T : Txt K mg) : FnOk P w K mg base CX0 1 T.f__law_whole_sums T.fd__law_whole_sums ["_law_table_here", "_law_xs"] (sp__law_whole_sums K) := by
  refine Fun.ok T.F__law_whole_sums sc__law_whole_sums (fun vs H Q E h => ?_) (fun cdv A outer s H vs Q E hr h => ?_)
  · obtain ⟨_, _, _, _, _, rfl, _⟩ := h; rfl
  · refine ⟨_, (pss_one (ps_ret (pe_lc (own := [("_law_row", 2)]) (wi := iList K _) (g := gName 2) (tt := tYes) rfl sc__law_whole_sums.nd (pi_list (pv 0)) (blkOk_by (N := ["_law_table_here", "_law_xs", "_law_row", "_law_a", "_law_b"]) (sc := (defScope s__law_whole_sums)) (by decide +kernel)) (fun _ _ _ _ _ => pg_name (i := 2) sc__law_whole_sums.nd rfl (Or.inl rfl)) (fun _ _ _ _ _ => pts_nil) (fun _ _ _ _ _ => (pe_callB (id := "sum") (r := rSum K) (cr_sum rfl) (by rfl) T.n_sum (by decide +kernel) (pa_cons (pe_lc (own := [("_law_a", 3), ("_law_b", 4)]) (wi := iZip K _) (g := gTup K 2 (gCons (gName 3) (gCons (gName 4) gNil))) (tt := tYes) rfl sc__law_whole_sums.nd (pi_zip (by rfl) T.n_zip (pa_cons (pv 2) (pa_cons (pv 1) pa_nil))) (blkOk_by (N := ["_law_table_here", "_law_xs", "_law_row", "_law_a", "_law_b"]) (sc := (relS ({ kind := .function, names := [(".0", .local), ("_law_row", .local), ("sum", .globalImplicit), ("zip", .globalImplicit), ("_law_xs", .free)], isGenerator := false, isCoroutine := false } : Scope) (defScope s__law_whole_sums))) (by decide +kernel)) (fun _ _ _ _ _ => (pg_tup rfl (pgs_cons (pg_name (i := 3) sc__law_whole_sums.nd rfl (Or.inl rfl)) (pgs_cons (pg_name (i := 4) sc__law_whole_sums.nd rfl (Or.inl rfl)) pgs_nil)))) (fun _ _ _ _ _ => pts_nil) (fun _ _ _ _ _ => (pe_op op_mulW (pv 3) (pv 4)))) pa_nil)))))), ?_⟩
    obtain ⟨p, q, as, rows, zs, rfl, hT, m8, hr, z8, hq, hz, k⟩ := h
    refine s_retL (el_col (K := K) (n := 0) (f := fun r => Ls.dot r zs) rfl hT.1 hT.2 (by omega) (fun u => rfl) fun b r H1 hr' hb e1 => ?_) fun d H1 nd e1 hd => k d H1 nd e1 hd
    refine ev_sumL (el_zip (K := K) (f := (· * ·)) (ea_cons (ev_var rfl) (ea_cons (ev_var rfl) ea_nil)) (SqL.of (e1 _ _ hb)) (SqL.of (e1 _ _ hq)) (hr r hr').1 (by have := (hr r hr').1; omega) (fun u v => rfl) fun x y H2 hx hy e2 => ?_)
    exact ev_op (ev_var rfl) (ev_var rfl) (rv_I (((hr r hr').2 x hx).mulOk (hz y hy)))
-- DEF is_row

def sp_is_row (K : PySem.W.Frag) : Sp := fun vs H Q _ => ∃ (a : Addr) (ns : List Int), vs = [.ref a] ∧ H a = some (.lst (ns.map V.int)) ∧ 1 ≤ ns.length ∧ ns.length ≤ 8 ∧ ∀ H', Ex H H' → Q (.bl true) H'

theorem ok_is_row (T : Txt K mg) : FnOk P w K mg base CX0 2 T.f_is_row T.fd_is_row ["thing"] (sp_is_row K) := by
  refine Fun.ok T.F_is_row sc_is_row (fun vs H Q E h => ?_) (fun cdv A outer s H vs Q E hr h => ?_)
  · obtain ⟨_, _, rfl, _⟩ := h; rfl
  · refine ⟨_, (pss_cons (ps_if (PW.pt (pw_or (pt_not (pt_val (pe_callB (id := "isinstance") (r := rIsi K) call_isi (by rfl) T.n_isinstance (by decide +kernel) (pa_cons (pv 0) (pa_cons (pe_bltn (v := .ty "list") (by rfl) T.n_list (by decide +kernel) rfl) pa_nil))))) (pw_or1 (pt_not (pt_chain op_le op_le pe_int (pe_callB (id := "len") (r := rLenS K) call_len_seq (by rfl) T.n_len PySem.boot_len (pa_cons (pv 0) pa_nil)) (pe_glob (v := .int 8) (by rfl) T.g_MOST ⟨_, rfl⟩))))))
        (pss_one (ps_ret pe_bl))
        pss_nil)
      (pss_one (ps_ret (pe_callB (id := "all") (r := rAll K) (cr_all rfl) (by rfl) T.n_all (by decide +kernel) (pa_cons (pe_lc (own := [("entry", 1)]) (wi := iList K _) (g := gName 1) (tt := tYes) rfl sc_is_row.nd (pi_list (pv 0)) (blkOk_by (N := ["thing", "entry"]) (sc := (defScope s_is_row)) (by decide +kernel)) (fun _ _ _ _ _ => pg_name (i := 1) sc_is_row.nd rfl (Or.inl rfl)) (fun _ _ _ _ _ => pts_nil) (fun _ _ _ _ _ => (pe_call (ok_is_whole T) hr (by rfl) T.g_is_whole T.k_is_whole T.b_is_whole .nil pass0 (pa_cons (pv 1) pa_nil)))) pa_nil))))), ?_⟩
    obtain ⟨a, ns, rfl, ha, h1, h8, k⟩ := h
    refine q_when (b := false) (et_is (et_or (et_not (et_B (ev_isi (t := "list") (b := true) (ev_var rfl) ev_c (fun H1 e => .base (.lst (e _ _ ha))) (by decide +kernel)))) (fun _ => et_not (et_test (ev_chain ev_c (ev_is (ev_len (ev_var rfl) (SqL.of ha)) (by rw [List.length_map])) ev_c rv_le rv_le)))) ?_) (fun z => nomatch z) (fun _ H1 e1 => ?_)
    · rw [decide_eq_true (show (1 : Int) ≤ (ns.length : Int) by omega), decide_eq_true (show (ns.length : Int) ≤ 8 by omega)]
      rfl
    refine s_ret (ev_all (el_yes (a := a) rfl (e1 _ _ ha) (by rw [List.length_map]; omega) (fun x H' hx e => ?_) (fun x => rfl))) fun H2 e2 => k H2 (e1.trans e2)
    obtain ⟨i, _, rfl⟩ := List.mem_map.mp hx
    exact ev_fn (ea_cons (ev_var rfl) ea_nil) fun H3 e3 Q3 q3 => ⟨_, "int", rfl, .base (.int _), .inl rfl, q3 H3 (Ex.refl _)⟩
-- DEF _law_one

def sp__law_one (K : PySem.W.Frag) : Sp := fun vs H Q _ => ∃ (s l : Addr) (n : Int) (xs : List V), vs = [.ref s, .ref l] ∧ SrcAt H s n ∧ n ≤ 500000000 ∧ l ≠ s ∧ SqL K H l xs ∧ 0 < xs.length ∧ xs.length ≤ 1000 ∧
  ∀ v ∈ xs, ∀ H', ExB s H H' → SrcAt H' s (n + 1) → Q v H'

theorem ok__law_one (T : Txt K mg) : FnOk P w K mg base CX0 2 T.f__law_one T.fd__law_one ["_law_source", "_law_some"] (sp__law_one K) := by
  refine Fun.ok T.F__law_one sc__law_one (fun vs H Q E h => ?_) (fun cdv A outer s H vs Q E hr h => ?_)
  · obtain ⟨_, _, _, _, rfl, _⟩ := h; rfl
  · refine ⟨_, (pss_one (ps_ret (pe_ix (r := rIxL K) ix_list (pv 1) (pe_call (ok__law_next T) hr (by rfl) T.g__law_next T.k__law_next T.b__law_next .nil pass0 (pa_cons (pv 0) (pa_cons (pe_callB (id := "len") (r := rLenS K) call_len_seq (by rfl) T.n_len PySem.boot_len (pa_cons (pv 1) pa_nil)) pa_nil))) (fun _ _ => rfl)))), ?_⟩
    obtain ⟨s, l, n, xs, rfl, hs, hn, nls, hl, h0, h1, k⟩ := h
    refine ⟨_, rfl, _, rfl, _, rfl, l, xs, rfl, .inl hl, s, _, n, rfl, hs, by omega, by omega, (by show xs.length < 2 ^ 8000; exact Nat.lt_of_le_of_lt h1 (by decide +kernel)), fun f H' f0 f1 e s' => ?_⟩
    have hk : f.toNat < xs.length := by omega
    refine ⟨l, xs, f, xs[f.toNat], rfl, rfl, e.l nls hl, at_of (j := f.toNat) (by omega) (List.getElem?_eq_getElem hk), ?_⟩
    exact k _ (List.getElem_mem hk) H' e s'
-- DEF _law_mixed

def sp__law_mixed (K : PySem.W.Frag) : Sp := fun vs H Q _ => ∃ (s l : Addr) (n : Int) (xs : List V), vs = [.ref s, .ref l] ∧ SrcAt H s n ∧ n ≤ 500000000 ∧ l ≠ s ∧ SqL K H l xs ∧ xs.length ≤ 100 ∧ (∀ v ∈ xs, DatV K H s v) ∧
  ∀ (ys : List V) (p : Addr) (H' : Hp), ys.Perm xs → H p = none → ExB s H H' → SrcAt H' s (n + 100) → H' p = some (.lst ys) → Q (.ref p) H'

theorem ok__law_mixed (T : Txt K mg) : FnOk P w K mg base CX0 2 T.f__law_mixed T.fd__law_mixed ["_law_source", "_law_some"] (sp__law_mixed K) := by
  refine Fun.ok T.F__law_mixed sc__law_mixed (fun vs H Q E h => ?_) (fun cdv A outer s H vs Q E hr h => ?_)
  · obtain ⟨_, _, _, _, rfl, _⟩ := h; rfl
  · refine ⟨_, (pss_cons (ps_set (i := 2) sc__law_mixed.nd rfl (by first | exact Or.inl rfl | exact Or.inr rfl) (pe_callTy (T := "list") (r := rListS K) call_list_of (by rfl) T.n_list (by decide +kernel) (pa_cons (pv 1) pa_nil)))
      (pss_cons (ps_set (i := 3) sc__law_mixed.nd rfl (by first | exact Or.inl rfl | exact Or.inr rfl) (pe_lst pa_nil))
      (pss_cons (ps_while PassesOwn.never (pt_cmpR (r := rNeD K) (op_neD hr.units) (pv 2) (pe_lst pa_nil) (nomark _))
        (pss_one (ps_expr (pe_bm PySem.F.plainAttrs_list PySem.F.slot_list_append PySem.F.type_list_append mt_append (pv 3) (pa_cons (pe_bm PySem.F.plainAttrs_list PySem.F.slot_list_pop PySem.F.type_list_pop mt_popAt (pv 2) (pa_cons (pe_call (ok__law_next T) hr (by rfl) T.g__law_next T.k__law_next T.b__law_next .nil pass0 (pa_cons (pv 0) (pa_cons (pe_callB (id := "len") (r := rLenS K) call_len_seq (by rfl) T.n_len PySem.boot_len (pa_cons (pv 2) pa_nil)) pa_nil))) pa_nil)) pa_nil)))))
      (pss_one (ps_ret (pv 3)))))), ?_⟩
    obtain ⟨s, l, n, xs, rfl, hs, hn, nls, hl, h1, hd, k⟩ := h
    -- left, found
    refine ⟨_, rfl, l, xs, rfl, .inl hl, fun q nq => ?_⟩
    refine ⟨Nat.zero_le _, fun p np => ?_⟩
    have nqs : q ≠ s := hs.ne nq
    have nps : p ≠ s := (hs.ex (Ex.new nq)).ne np
    have npq : p ≠ q := (ne_of_none upd_same np).symm
    have npH : H p = none := fresh_back (Ex.new nq) np
    refine ⟨fun m σ H' => ∃ ls fs : List V, σ = [some (.ref s), some (.ref l), some (.ref q), some (.ref p)] ∧ m = ls.length ∧ (fs ++ ls).Perm xs ∧ H' q = some (.lst ls) ∧ H' p = some (.lst fs) ∧ ExB s H H' ∧ SrcAt H' s (n + fs.length),
      ⟨xs.length, xs, [], rfl, rfl, .refl _, ?_, upd_same, ?_, ?_⟩, ?_⟩
    · rw [upd_ne npq.symm]
      exact upd_same
    · exact ExB.of ((Ex.new nq).trans (Ex.new np))
    · exact (hs.ex ((Ex.new nq).trans (Ex.new np))).le (by simp)
    rintro m σ H1 ⟨ls, fs, rfl, rfl, hp, hq, hpf, e1, s1⟩
    have hlen : fs.length + ls.length = xs.length := by
      rw [← List.length_append]
      exact hp.length_eq
    obtain ⟨ds, d1, d2, d3⟩ := dat_all (K := K) (H := H1) (s := s) (xs := ls) fun v hv => (hd v (hp.mem_iff.mp (List.mem_append_right _ hv))).exB e1
    refine ⟨_, rfl, Nat.zero_le _, fun z nz => ?_⟩
    have x1 : Ex H1 (upd H1 z (.lst [])) := Ex.new nz
    refine ⟨_, _, .lst (SqL.of (x1 _ _ hq)) (dpAll_ex x1 d1), .lst (SqL.of upd_same) .nil, shaped_list d2 (by omega), rfl, _, rfl, ?_⟩
    rw [eqv_nil]
    cases ls with
    | nil =>
      cases d1
      refine iteF ?_
      refine ⟨_, rfl, ?_⟩
      rw [List.append_nil] at hp
      exact k fs p _ hp npH (e1.trans (ExB.of x1)) ((s1.ex x1).le (by have := hp.length_eq; omega)) (x1 _ _ hpf)
    | cons y0 ls0 =>
      cases d1 with
      | cons _ _ =>
        refine iteT ?_
        refine ⟨fun σ' H' => ∃ ls' fs' : List V, σ' = [some (.ref s), some (.ref l), some (.ref q), some (.ref p)] ∧ ls'.length < (y0 :: ls0).length ∧ (fs' ++ ls').Perm xs ∧ H' q = some (.lst ls') ∧ H' p = some (.lst fs') ∧ ExB s H H' ∧ SrcAt H' s (n + fs'.length),
          fun σ' H' ⟨ls', fs', a1, a2, a3, a4, a5, a6, a7⟩ => ⟨ls'.length, a2, ls', fs', a1, rfl, a3, a4, a5, a6, a7⟩, ?_⟩
        refine ⟨_, rfl, .inl ⟨rfl, _, SqL.of (x1 _ _ hpf)⟩, _, rfl, .inl ⟨rfl, _, SqL.of (x1 _ _ hq)⟩, _, rfl, _, rfl, q, _, rfl, .inl (SqL.of (x1 _ _ hq)), s, _, n + fs.length, rfl, s1.ex x1, by omega, (by simp only [List.length_cons]; omega), ?_, fun f H2 f0 f1 e2 s2 => ?_⟩
        · show (((y0 :: ls0).length : Nat) : Int).natAbs < 2 ^ 8000
          rw [Int.natAbs_natCast]
          exact Nat.lt_of_le_of_lt (show (y0 :: ls0).length ≤ 100 by omega) (by decide +kernel)
        · have hk : f.toNat < (y0 :: ls0).length := by omega
          have hy := List.getElem?_eq_getElem hk
          refine ⟨q, _, f, f.toNat, _, rfl, rfl, e2 _ _ nqs (x1 _ _ hq), by omega, by omega, seqIx (n := 0) f0 f1, hy, ?_⟩
          refine ⟨p, fs, _, rfl, rfl, ?_, small1000 (by omega), ?_⟩
          · rw [upd_ne npq]
            exact e2 _ _ nps (x1 _ _ hpf)
          · refine ⟨_, _, rfl, ?_, (perm_pop hy).trans hp, ?_, upd_same, ?_, ?_⟩
            · rw [List.length_eraseIdx_of_lt hk]
              omega
            · rw [upd_ne npq.symm]
              exact upd_same
            · refine fun b o nb h => ?_
              have nbp := ne_of_none h npH
              have nbq := ne_of_none h nq
              rw [upd_ne nbp, upd_ne nbq]
              exact e2 _ _ nb (x1 _ _ (e1 _ _ nb h))
            · have s3 : SrcAt H2 s (n + ((fs ++ [(y0 :: ls0)[f.toNat]]).length : Nat)) := s2.le (by rw [List.length_append]; simp; omega)
              obtain ⟨a1, a2, a3, a4, a5⟩ := s3
              exact ⟨a1, a2, a3, by rw [upd_ne nps.symm, upd_ne nqs.symm]; exact a4, a5⟩
-- DEF is_table

def sp_is_table (K : PySem.W.Frag) : Sp := fun vs H Q _ => ∃ (p : Addr) (as : List Addr) (rows : List (List Int)) (m w : Nat), vs = [.ref p] ∧ TabOk H p as rows m w ∧ ∀ H', Ex H H' → Q (.bl true) H'

theorem ok_is_table (T : Txt K mg) : FnOk P w K mg base CX0 3 T.f_is_table T.fd_is_table ["thing"] (sp_is_table K) := by
  refine Fun.ok T.F_is_table sc_is_table (fun vs H Q E h => ?_) (fun cdv A outer s H vs Q E hr h => ?_)
  · obtain ⟨_, _, _, _, _, rfl, _⟩ := h; rfl
  · refine ⟨_, (pss_cons (ps_if (PW.pt (pw_or (pt_not (pt_val (pe_callB (id := "isinstance") (r := rIsi K) call_isi (by rfl) T.n_isinstance (by decide +kernel) (pa_cons (pv 0) (pa_cons (pe_bltn (v := .ty "list") (by rfl) T.n_list (by decide +kernel) rfl) pa_nil))))) (pw_or1 (pt_not (pt_chain op_le op_le pe_int (pe_callB (id := "len") (r := rLenS K) call_len_seq (by rfl) T.n_len PySem.boot_len (pa_cons (pv 0) pa_nil)) (pe_glob (v := .int 8) (by rfl) T.g_MOST ⟨_, rfl⟩))))))
        (pss_one (ps_ret pe_bl))
        pss_nil)
      (pss_cons (ps_if (pt_not (pt_val (pe_callB (id := "all") (r := rAll K) (cr_all rfl) (by rfl) T.n_all (by decide +kernel) (pa_cons (pe_lc (own := [("row", 1)]) (wi := iList K _) (g := gName 1) (tt := tYes) rfl sc_is_table.nd (pi_list (pv 0)) (blkOk_by (N := ["thing", "row"]) (sc := (defScope s_is_table)) (by decide +kernel)) (fun _ _ _ _ _ => pg_name (i := 1) sc_is_table.nd rfl (Or.inl rfl)) (fun _ _ _ _ _ => pts_nil) (fun _ _ _ _ _ => (pe_call (ok_is_row T) hr (by rfl) T.g_is_row T.k_is_row T.b_is_row .nil pass0 (pa_cons (pv 1) pa_nil)))) pa_nil))))
        (pss_one (ps_ret pe_bl))
        pss_nil)
      (pss_one (ps_ret (pe_callB (id := "all") (r := rAll K) (cr_all rfl) (by rfl) T.n_all (by decide +kernel) (pa_cons (pe_lc (own := [("row", 1)]) (wi := iList K _) (g := gName 1) (tt := tYes) rfl sc_is_table.nd (pi_list (pv 0)) (blkOk_by (N := ["thing", "row"]) (sc := (defScope s_is_table)) (by decide +kernel)) (fun _ _ _ _ _ => pg_name (i := 1) sc_is_table.nd rfl (Or.inl rfl)) (fun _ _ _ _ _ => pts_nil) (fun _ _ _ _ _ => (pe_cmpR op_eq (pe_callB (id := "len") (r := rLenS K) call_len_seq (by rfl) T.n_len PySem.boot_len (pa_cons (pv 1) pa_nil)) (pe_callB (id := "len") (r := rLenS K) call_len_seq (by rfl) T.n_len PySem.boot_len (pa_cons (pe_ix (r := rIxL K) ix_list (pv 0) pe_int (fun _ _ => rfl)) pa_nil)) (nomark _)))) pa_nil)))))), ?_⟩
    obtain ⟨p, as, rows, m, w, rfl, hT, k⟩ := h
    have hb := hT.b
    refine q_when (b := false) (et_is (et_or (et_not (et_B (ev_isi (t := "list") (b := true) (ev_var rfl) ev_c (fun H1 e => .base (.lst (e _ _ hT.tab.1))) (by decide +kernel)))) (fun _ => et_not (et_test (ev_chain ev_c (ev_is (ev_len (ev_var rfl) (SqL.of hT.tab.1)) (by rw [List.length_map, hT.al])) ev_c rv_le rv_le)))) ?_) (fun z => nomatch z) (fun _ H1 e1 => ?_)
    · rw [decide_eq_true (show (1 : Int) ≤ (m : Int) by omega), decide_eq_true (show (m : Int) ≤ 8 by omega)]
      rfl
    have hT1 := hT.ex e1
    refine q_when (b := false) (et_not (et_B (ev_all (el_yes (a := p) rfl hT1.tab.1 (by rw [List.length_map, hT.al]; omega) (fun x H' hx e => ?_) (fun x => rfl))))) (fun z => nomatch z) (fun _ H2 e2 => ?_)
    · obtain ⟨a, ha, rfl⟩ := List.mem_map.mp hx
      obtain ⟨r, hr, hh⟩ := paired_mem hT1.tab.2 ha
      have := hT1.w_ r hr
      exact ev_fn (ea_cons (ev_var rfl) ea_nil) fun H3 e3 Q3 q3 => ⟨a, r, rfl, (e.trans e3) _ _ hh, by omega, by omega, q3⟩
    have hT2 := hT1.ex e2
    refine s_ret (ev_all (el_yes (a := p) rfl hT2.tab.1 (by rw [List.length_map, hT.al]; omega) (fun x H' hx e => ?_) (fun x => rfl))) fun H3 e3 => k H3 ((e1.trans e2).trans e3)
    obtain ⟨a, ha, rfl⟩ := List.mem_map.mp hx
    obtain ⟨r, hr, hh⟩ := paired_mem hT2.tab.2 ha
    obtain ⟨a0, r0, _, _, hh0, hl0, at0⟩ := hT2.row0
    have := hT2.w_ r hr
    refine ev_is (ev_op (ev_len (ev_var rfl) (SqL.of (e _ _ hh))) (ev_len (ev_op (ev_var rfl) ev_c (rv_ixL (SqL.of (e _ _ hT2.tab.1)) at0)) (SqL.of (e _ _ hh0))) (rv_eq rfl)) ?_
    rw [List.length_map, List.length_map, hl0, this]
    exact congrArg V.bl (decide_eq_true rfl)
-- DEF _law_ends

def sp__law_ends (K : PySem.W.Frag) : Sp := fun vs H Q _ => ∃ (s : Addr) (n m : Int), vs = [.ref s, .int m] ∧ SrcAt H s n ∧ n ≤ 400000000 ∧ 1 ≤ m ∧ m ≤ 8 ∧
  ∀ (as : List Addr) (es : List (Int × Int)) (p : Addr) (H' : Hp), (es.length : Int) = m → (∀ e ∈ es, 0 ≤ e.1 ∧ e.1 ≤ m ∧ 0 ≤ e.2 ∧ e.2 ≤ m) → Conn es m → EdgesAt H' as es → H' p = some (.lst (as.map V.ref)) → H p = none → ExB s H H' → SrcAt H' s (n + 300) → Q (.ref p) H'

theorem ok__law_ends (T : Txt K mg) : FnOk P w K mg base CX0 3 T.f__law_ends T.fd__law_ends ["_law_source", "_law_many"] (sp__law_ends K) := by
  refine Fun.ok T.F__law_ends sc__law_ends (fun vs H Q E h => ?_) (fun cdv A outer s H vs Q E hr h => ?_)
  · obtain ⟨_, _, _, rfl, _⟩ := h; rfl
  · refine ⟨_, (pss_cons (ps_set (i := 2) sc__law_ends.nd rfl (by first | exact Or.inl rfl | exact Or.inr rfl) (pe_call (ok__law_mixed T) hr (by rfl) T.g__law_mixed T.k__law_mixed T.b__law_mixed .nil pass0 (pa_cons (pv 0) (pa_cons (pe_listRg rfl (by rfl) T.n_list (prg_1 (by rfl) T.n_range (pe_op op_add (pv 1) pe_int))) pa_nil))))
      (pss_cons (ps_set (i := 3) sc__law_ends.nd rfl (by first | exact Or.inl rfl | exact Or.inr rfl) (pe_lst pa_nil))
      (pss_cons (ps_for PassesOwn.never rfl (pi_range1 (by rfl) T.n_range (pa_cons (pv 1) pa_nil)) (pg_name (i := 4) sc__law_ends.nd rfl (by first | exact Or.inl rfl | exact Or.inr rfl))
        (pss_cut (ps_set (i := 5) sc__law_ends.nd rfl (by first | exact Or.inl rfl | exact Or.inr rfl) (pe_tup (pa_cons (pe_ix (r := rIxL K) ix_list (pv 2) (pe_call (ok__law_next T) (hr.mono (by decide)) (by rfl) T.g__law_next T.k__law_next T.b__law_next .nil pass0 (pa_cons (pv 0) (pa_cons (pe_op op_add (pv 4) pe_int) pa_nil))) (fun _ _ => rfl)) (pa_cons (pe_ix (r := rIxL K) ix_list (pv 2) (pe_op op_add (pv 4) pe_int) (fun _ _ => rfl)) pa_nil))))
          (pss_one (ps_expr (pe_bm PySem.F.plainAttrs_list PySem.F.slot_list_append PySem.F.type_list_append mt_append (pv 3) (pa_cons (pe_ix (r := rIxL K) ix_list (pe_lst (pa_cons (pv 5) (pa_cons (pe_revT (pv 5)) pa_nil))) (pe_call (ok__law_next T) (hr.mono (by decide)) (by rfl) T.g__law_next T.k__law_next T.b__law_next .nil pass0 (pa_cons (pv 0) (pa_cons pe_int pa_nil))) (fun _ _ => rfl)) pa_nil))))))
      (pss_one (ps_ret (pe_call (ok__law_mixed T) hr (by rfl) T.g__law_mixed T.k__law_mixed T.b__law_mixed .nil pass0 (pa_cons (pv 0) (pa_cons (pv 3) pa_nil)))))))), ?_⟩
    obtain ⟨s, n, m, rfl, hs, hn, hm1, hm8, k⟩ := h
    refine ⟨_, rfl, _, rfl, _, _, rfl, rfl, _, rfl, RgOk.of_le (by omega) (by omega) (by omega) (by omega), fun q nq => ?_⟩
    have x1 := Ex.new (o := .lst (rgV 0 (m + 1))) nq
    refine ⟨s, q, n, _, rfl, hs.ex x1, by omega, hs.ne nq, SqL.of upd_same, ?_, ?_, fun ys p1 H1 hp np1 e1 s1 h1 => ?_⟩
    · rw [rgV_length]
      omega
    · intro v hv
      rw [rgV_nums] at hv
      obtain ⟨i, _, rfl⟩ := List.mem_map.mp hv
      exact datv_int i
    rw [rgV_nums] at hp
    obtain ⟨pl, rfl, hpl⟩ := perm_ints hp
    have np1H : H p1 = none := fresh_back x1 np1
    have e01 : ExB s H H1 := (ExB.of x1).trans e1
    have hpll : pl.length = m.toNat + 1 := by
      rw [hpl.length_eq, numsTo_length]
      omega
    have hplm : ∀ a, a ∈ pl ↔ 0 ≤ a ∧ a ≤ m := fun a => by
      rw [hpl.mem_iff, mem_numsTo]
      omega
    have np1s : p1 ≠ s := (hs.ex x1).ne np1
    clear hp x1 e1 np1 nq
    -- found
    refine ⟨Nat.zero_le _, fun p2 np2 => ?_⟩
    have x2 : Ex H1 (upd H1 p2 (.lst [])) := Ex.new np2
    have np2s : p2 ≠ s := s1.ne np2
    have np12 : p1 ≠ p2 := ne_of_none h1 np2
    have np2H : H p2 = none := fresh_B e01 np2 s1.obj
    refine ⟨_, rfl, _, rfl, by omega, by omega, for_range (lo := 0) (n := m.toNat) (fun i σ H' => ∃ (y4 y5 : Option V) (as : List Addr) (es : List (Int × Int)), σ = [some (.ref s), some (.int m), some (.ref p1), some (.ref p2), y4, y5] ∧ es.length = i ∧ EdgesAt H' as es ∧ H' p2 = some (.lst (as.map V.ref)) ∧
      ExB s H H' ∧ SrcAt H' s (n + 100 + 2 * i) ∧ H' p1 = some (.lst (pl.map V.int)) ∧ EdgeTree pl es ∧ (∀ e ∈ es, 0 ≤ e.1 ∧ e.1 ≤ m ∧ 0 ≤ e.2 ∧ e.2 ≤ m)) ?_ ?_ ?_⟩
    · exact ⟨_, _, [], [], rfl, rfl, .nil, upd_same, e01.trans (ExB.of x2), (s1.ex x2).le (by omega), x2 _ _ h1, fun j hj => absurd hj (Nat.not_lt_zero _), fun e he => by simp at he⟩
    · rintro i σ H2 hi ⟨y4, y5, as, es, rfl, hes, hE, h2, e2, s2, g1, hT, hb⟩
      have hsz := hes
      have sat : ∀ {j : Nat}, j < pl.length → ∃ z, (pl.map V.int)[j]? = some (.int z) ∧ pl[j]? = some z := fun {j} hj => ⟨pl[j], by rw [List.getElem?_map, List.getElem?_eq_getElem hj]; rfl, List.getElem?_eq_getElem hj⟩
      -- two
      refine ⟨fun σ' H' => ∃ (t : Addr) (f : Nat) (a b : Int), σ' = [some (.ref s), some (.int m), some (.ref p1), some (.ref p2), some (.int (0 + (i : Int))), some (.ref t)] ∧ H' t = some (.tup [.int a, .int b]) ∧ f ≤ i ∧ pl[f]? = some a ∧ pl[i + 1]? = some b ∧ ExB s H2 H' ∧ SrcAt H' s (n + 100 + 2 * i + 1), ?_, ?_⟩
      · refine ⟨_, rfl, _, rfl, _, rfl, _, _, rfl, rfl, s, _, _, rfl, s2, by omega, by omega, ?_, fun f H3 f0 f1 e3 s3 => ?_⟩
        · unfold Bd
          exact Nat.lt_of_lt_of_le (show (0 + (i : Int) + 1).natAbs < 1024 by omega) (by decide +kernel)
        · obtain ⟨a, ha, ha'⟩ := sat (j := f.toNat) (by omega)
          obtain ⟨b, hb, hb'⟩ := sat (j := i + 1) (by omega)
          refine ⟨p1, _, _, _, rfl, rfl, SqL.of (e3 _ _ np1s g1), at_of (j := f.toNat) (by omega) ha, ?_⟩
          refine ⟨_, rfl, _, rfl, _, _, rfl, rfl, p1, _, _, _, rfl, rfl, SqL.of (e3 _ _ np1s g1), at_of (j := i + 1) (by omega) hb, (by show 2 ≤ sizeLine; decide), fun t nt => ?_⟩
          exact ⟨t, f.toNat, a, b, rfl, upd_same, by omega, ha', hb', e3.trans (ExB.of (Ex.new nt)), s3.ex (Ex.new nt)⟩
      · rintro σ' H3 ⟨t, f, a, b, rfl, ht, hf, ha, hb', e3, s3⟩
        have h2' := e3 _ _ np2s h2
        refine ⟨_, rfl, .inl ⟨rfl, _, SqL.of h2'⟩, _, rfl, _, rfl, t, _, _, rfl, SqT.of ht, fun u nu => ?_⟩
        have xu : Ex H3 (upd H3 u (.tup [.int b, .int a])) := Ex.new nu
        refine ⟨(by show 2 ≤ sizeLine; decide), fun l nl => ?_⟩
        have xl : Ex (upd H3 u (.tup [.int b, .int a])) (upd (upd H3 u (.tup [.int b, .int a])) l (.lst [.ref t, .ref u])) := Ex.new nl
        have xx := xu.trans xl
        refine ⟨_, rfl, s, 2, _, rfl, s3.ex xx, by omega, by decide, (by unfold Bd; decide +kernel), fun g H4 g0 gl e4 s4 => ?_⟩
        have nls : l ≠ s := (s3.ex xu).ne nl
        have hl4 := e4 _ _ nls (upd_same (H := upd H3 u (.tup [.int b, .int a])) (a := l) (o := .lst [.ref t, .ref u]))
        have st : ∀ c xs, H2 c = some (.tup xs) → H4 c = some (.tup xs) := fun c xs h => tups_B (s3.ex xx) e4 _ _ (tups_E xx _ _ (tups_B s2 e3 _ _ h))
        have st3 : ∀ c xs, H3 c = some (.tup xs) → H4 c = some (.tup xs) := fun c xs h => tups_B (s3.ex xx) e4 _ _ (tups_E xx _ _ h)
        have stu : H4 u = some (.tup [.int b, .int a]) := tups_B (s3.ex xx) e4 _ _ (xl _ _ upd_same)
        have p2' := e4 _ _ np2s (xx _ _ h2')
        have al : as.length = i := by rw [Paired.length hE, hes]
        have fin : ∀ (v : Addr) (e : Int × Int), H4 v = some (.tup [.int e.1, .int e.2]) → (e = (a, b) ∨ e = (b, a)) → rAppend (.ref p2) [.ref v] H4 fun _ H' => ∃ (y4 y5 : Option V) (as : List Addr) (es : List (Int × Int)), [some (V.ref s), some (.int m), some (.ref p1), some (.ref p2), some (.int (0 + (i : Int))), some (.ref t)] = [some (.ref s), some (.int m), some (.ref p1), some (.ref p2), y4, y5] ∧ es.length = i + 1 ∧ EdgesAt H' as es ∧ H' p2 = some (.lst (as.map V.ref)) ∧
            ExB s H H' ∧ SrcAt H' s (n + 100 + 2 * ((i + 1 : Nat) : Int)) ∧ H' p1 = some (.lst (pl.map V.int)) ∧ EdgeTree pl es ∧ (∀ e ∈ es, 0 ≤ e.1 ∧ e.1 ≤ m ∧ 0 ≤ e.2 ∧ e.2 ≤ m) := by
          intro v e hv he
          refine ⟨p2, _, _, rfl, rfl, p2', small1000 (by rw [List.length_map]; omega), _, _, as ++ [v], es ++ [e], rfl, ?_, ?_, ?_, ?_, ?_, ?_, ?_, ?_⟩
          · rw [List.length_append, hes]
            rfl
          · exact paired_imp (fun c d h => tups_U p2' _ _ h) (paired_snoc (EdgesAt.mono st hE) hv)
          · rw [upd_same, List.map_append]
            rfl
          · refine fun c o nc h => ?_
            rw [upd_ne (ne_of_none h np2H)]
            exact e4 _ _ nc (xx _ _ (e3 _ _ nc (e2 _ _ nc h)))
          · obtain ⟨a1, a2, a3, a4, a5, a6, a7, a8⟩ := s4
            exact ⟨a1, a2, a3, by rw [upd_ne np2s.symm]; exact a4, a5, a6, a7, by omega⟩
          · rw [upd_ne np12]
            exact e4 _ _ np1s (xx _ _ (e3 _ _ np1s g1))
          · exact hT.more (by omega) ha (by rw [hes]; exact hb') he
          · intro e' he'
            rcases List.mem_append.mp he' with h | h
            · exact hb e' h
            · have e1 : e' = e := by simpa using h
              subst e1
              have ma := (hplm a).mp (List.mem_of_getElem? ha)
              have mb := (hplm b).mp (List.mem_of_getElem? hb')
              rcases he with rfl | rfl
              · exact ⟨ma.1, ma.2, mb.1, mb.2⟩
              · exact ⟨mb.1, mb.2, ma.1, ma.2⟩
        have hg : g = 0 ∨ g = 1 := by omega
        rcases hg with rfl | rfl
        · exact ⟨l, _, _, .ref t, rfl, rfl, SqL.of hl4, rfl, fin t (a, b) (st3 _ _ ht) (.inl rfl)⟩
        · exact ⟨l, _, _, .ref u, rfl, rfl, SqL.of hl4, rfl, fin u (b, a) stu (.inr rfl)⟩
    · rintro σ H2 ⟨y4, y5, as, es, rfl, hes, hE, h2, e2, s2, g1, hT, hb⟩
      have al : as.length = m.toNat := by rw [Paired.length hE, hes]
      refine ⟨_, rfl, _, rfl, s, p2, _, _, rfl, s2, by omega, np2s, SqL.of h2, (by rw [List.length_map]; omega), fun v hv => ?_, fun ys p H3 hp np e3 s3 h3 => ?_⟩
      · obtain ⟨c, hc, rfl⟩ := List.mem_map.mp hv
        obtain ⟨d, _, hd⟩ := paired_mem hE hc
        exact datv_pair hd (s2.neT hd)
      · obtain ⟨as', es', rfl, pe, hE', _⟩ := perm_refs hp hE
        refine k as' es' p H3 ?_ (fun e he => hb e (pe.mem_iff.mp he)) ?_ (EdgesAt.mono (tups_B s2 e3) hE') h3 (fresh_B e2 np s2.obj) (e2.trans e3) (s3.le (by omega))
        · rw [pe.length_eq, hes]
          omega
        · have c := EdgeTree.conn (m := m.toNat) hT hes hpll fun a h0 h1 => (hplm a).mpr ⟨h0, by omega⟩
          have c2 := c.perm pe
          have em : ((m.toNat : Nat) : Int) = m := by omega
          rw [em] at c2
          exact c2
-- DEF _law_stretches
def Swung (rows rows' : List (List Int)) (m w m' w' : Nat) : Prop := ∃ rows1 rows2 : List (List Int), rows1.Perm rows ∧ ((m' = m ∧ w' = w ∧ rows2 = rows1) ∨ (m' = w ∧ w' = m ∧ rows2 = (List.range w).map fun kk => rows1.map fun r => r[kk]?.getD 0)) ∧
  ∃ fs sg : List Int, fs.length = m' ∧ sg.length = w' ∧ (∀ x ∈ fs, x = 1 ∨ x = -1) ∧ (∀ x ∈ sg, x = 1 ∨ x = -1) ∧ rows' = List.zipWith (fun f r => List.zipWith (fun x y => f * x * y) r sg) fs rows2

def transp (rows : List (List Int)) (w : Nat) : List (List Int) := (List.range w).map fun kk => rows.map fun r => r[kk]?.getD 0
theorem zwAt {α β γ : Type} {f : α → β → γ} {xs : List α} {ys : List β} {i : Nat} {x : α} {y : β} (hx : xs[i]? = some x) (hy : ys[i]? = some y) : (List.zipWith f xs ys)[i]? = some (f x y) := by
  rw [List.getElem?_zipWith, hx, hy]
theorem transp_at {R : List (List Int)} {m w a b : Nat} (hm : R.length = m) (ha : a < w) (hb : b < m) : Dt.at_ (transp R w) a b = Dt.at_ R b a := by
  unfold Dt.at_ transp
  rw [List.getElem?_map, List.getElem?_range ha]
  show ((R.map fun r => r[a]?.getD 0)[b]?).getD 0 = _
  rw [List.getElem?_map, List.getElem?_eq_getElem (show b < R.length by omega)]
  rfl
theorem uni_transp {R : List (List Int)} {m w : Nat} (hm : R.length = m) : Tu.Uni R m w ↔ Tu.Uni (transp R w) w m := Tu.uni_turn fun a b ha hb => transp_at hm ha hb
theorem sgns_at {ns : List Int} {m a : Nat} (ha : a < m) : (sgns ns m)[a]? = some (sgnAt ns a) := by
  unfold sgns
  rw [List.getElem?_map, List.getElem?_range ha]
  rfl
theorem rowAt_ {R : List (List Int)} {m w : Nat} (hm : R.length = m) (hw : ∀ r ∈ R, r.length = w) {a : Nat} (ha : a < m) : ∃ r, R[a]? = some r ∧ r.length = w ∧ ∀ b, b < w → r[b]? = some (Dt.at_ R a b) := by
  have hl : a < R.length := by omega
  refine ⟨R[a], List.getElem?_eq_getElem hl, hw _ (List.getElem_mem hl), fun b hb => ?_⟩
  have hb2 : b < R[a].length := by rw [hw _ (List.getElem_mem hl)]; exact hb
  unfold Dt.at_
  rw [List.getElem?_eq_getElem hl]
  show _ = some ((R[a])[b]?.getD 0)
  rw [List.getElem?_eq_getElem hb2]
  rfl
theorem uni_signed {R : List (List Int)} {m w : Nat} {ris cis : List Int} (hm : R.length = m) (hw : ∀ r ∈ R, r.length = w) : Tu.Uni R m w ↔ Tu.Uni (signedOf R ris cis m w) m w := by
  refine Tu.uni_sign (s := sgnAt ris) (t := sgnAt cis) (fun a _ => sgnAt_two ris a) (fun b _ => sgnAt_two cis b) fun a b ha hb => ?_
  obtain ⟨r, hr, rl, rb⟩ := rowAt_ hm hw ha
  unfold signedOf
  have h1 := zwAt (f := fun s (r : List Int) => List.zipWith (fun c y => s * c * y) (sgns cis w) r) (sgns_at (ns := ris) ha) hr
  have h2 := zwAt (f := fun c y => sgnAt ris a * c * y) (sgns_at (ns := cis) hb) (rb b hb)
  unfold Dt.at_
  rw [h1]
  show ((List.zipWith (fun c y => sgnAt ris a * c * y) (sgns cis w) r)[b]?).getD 0 = _
  rw [h2]
  show sgnAt ris a * sgnAt cis b * Dt.at_ R a b = sgnAt ris a * Dt.at_ R a b * sgnAt cis b
  rw [Int.mul_assoc, Int.mul_assoc, Int.mul_comm (sgnAt cis b)]
theorem swung_uni {R S : List (List Int)} {m w m' w' : Nat} (hm : R.length = m) (hw : ∀ r ∈ R, r.length = w) (h : Swung R S m w m' w') : Tu.Uni R m w ↔ Tu.Uni S m' w' := by
  obtain ⟨R1, R2, pr, h2, fs, sg, hf, hs, f1, s1, rfl⟩ := h
  have m1 : R1.length = m := by rw [pr.length_eq, hm]
  have w1 : ∀ r ∈ R1, r.length = w := fun r hr => hw r (pr.mem_iff.mp hr)
  have A : Tu.Uni R1 m w ↔ Tu.Uni R2 m' w' := by
    rcases h2 with ⟨rfl, rfl, rfl⟩ | ⟨rfl, rfl, rfl⟩
    · exact Iff.rfl
    · exact uni_transp m1
  have m2 : R2.length = m' := by
    rcases h2 with ⟨rfl, rfl, rfl⟩ | ⟨rfl, rfl, rfl⟩
    · exact m1
    · rw [List.length_map, List.length_range]
  have w2 : ∀ r ∈ R2, r.length = w' := by
    rcases h2 with ⟨rfl, rfl, rfl⟩ | ⟨rfl, rfl, rfl⟩
    · exact w1
    · intro r hr
      obtain ⟨k, _, rfl⟩ := List.mem_map.mp hr
      rw [List.length_map, m1]
  refine (Tu.uni_perm hm pr).trans (A.trans (Tu.uni_sign (s := fun a => fs[a]?.getD 1) (t := fun b => sg[b]?.getD 1) (fun a ha => ?_) (fun b hb => ?_) fun a b ha hb => ?_))
  · show fs[a]?.getD 1 = 1 ∨ fs[a]?.getD 1 = -1
    rw [List.getElem?_eq_getElem (show a < fs.length by omega)]
    exact f1 _ (List.getElem_mem _)
  · show sg[b]?.getD 1 = 1 ∨ sg[b]?.getD 1 = -1
    rw [List.getElem?_eq_getElem (show b < sg.length by omega)]
    exact s1 _ (List.getElem_mem _)
  · obtain ⟨r, hr, rl, rb⟩ := rowAt_ m2 w2 ha
    have hfa : fs[a]? = some fs[a] := List.getElem?_eq_getElem (show a < fs.length by omega)
    have hsb : sg[b]? = some sg[b] := List.getElem?_eq_getElem (show b < sg.length by omega)
    have h1 := zwAt (f := fun f (r : List Int) => List.zipWith (fun x y => f * x * y) r sg) hfa hr
    have h3 := zwAt (f := fun x y => fs[a] * x * y) (rb b hb) hsb
    show (((List.zipWith (fun f (r : List Int) => List.zipWith (fun x y => f * x * y) r sg) fs R2)[a]?).getD [])[b]?.getD 0 = fs[a]?.getD 1 * Dt.at_ R2 a b * sg[b]?.getD 1
    rw [h1]
    show ((List.zipWith (fun x y => fs[a] * x * y) r sg)[b]?).getD 0 = _
    rw [h3, hfa, hsb]
    rfl

def IsStr (pl : List Int) (w : Nat) (r : List Int) : Prop := ∃ f g : Int, 0 ≤ f ∧ 0 ≤ g ∧ r = (List.range w).map fun o => if (decide (f ≤ pl[o]?.getD 0) && decide (pl[o]?.getD 0 < f + g)) = true then 1 else 0
theorem numsN (k : Nat) : (numsTo k).Nodup := by
  unfold numsTo
  refine List.pairwise_map.mpr ?_
  exact (List.nodup_range (n := k)).imp fun {a b} h z => h (by have : (a : Int) = (b : Int) := z; omega)
theorem str_uni {pl : List Int} {rows : List (List Int)} {m w : Nat} (hp : pl.Perm (numsTo w)) (hm : rows.length = m) (h : ∀ r ∈ rows, IsStr pl w r) : Tu.Uni rows m w := by
  have hpl : pl.length = w := by rw [hp.length_eq, numsTo_length]
  have nd : pl.Nodup := hp.nodup_iff.mpr (numsN w)
  have ps : ∀ c, c < w → ∃ y, pl[c]? = some y ∧ 0 ≤ y := fun c hc => by
    have hc' : c < pl.length := by omega
    exact ⟨pl[c], List.getElem?_eq_getElem hc', (mem_numsTo.mp (hp.mem_iff.mp (List.getElem_mem hc'))).1⟩
  have ex : ∀ k, ∃ p : Int × Int, k < m → 0 ≤ p.1 ∧ 0 ≤ p.2 ∧ rows[k]? = some ((List.range w).map fun o => if (decide (p.1 ≤ pl[o]?.getD 0) && decide (pl[o]?.getD 0 < p.1 + p.2)) = true then 1 else 0) := fun k => by
    by_cases hk : k < m
    · have hk' : k < rows.length := by omega
      obtain ⟨f, g, f0, g0, e⟩ := h rows[k] (List.getElem_mem hk')
      exact ⟨(f, g), fun _ => ⟨f0, g0, by rw [List.getElem?_eq_getElem hk', e]⟩⟩
    · exact ⟨(0, 0), fun z => absurd z hk⟩
  obtain ⟨F, hF⟩ := Classical.axiomOfChoice ex
  rw [uni_transp hm]
  refine Tu.TU.congr (Tu.stretch_tu (o := fun c => (pl[c]?.getD 0).toNat) (s := fun k => (F k).1.toNat) (e := fun k => ((F k).1 + (F k).2).toNat) (P := (· < w)) (w := m) (fun a b ha hb e => ?_) (fun k hk => ?_)) fun c k hc hk => ?_
  · obtain ⟨y, hy, y0⟩ := ps a ha
    obtain ⟨z, hz, z0⟩ := ps b hb
    have e : (pl[a]?.getD 0).toNat = (pl[b]?.getD 0).toNat := e
    rw [hy, hz] at e
    have e : y.toNat = z.toNat := e
    have yz : y = z := by omega
    have h1 := (List.getElem?_eq_some_iff.mp hy)
    have h2 := (List.getElem?_eq_some_iff.mp hz)
    obtain ⟨l1, e1⟩ := h1
    obtain ⟨l2, e2⟩ := h2
    exact (List.getElem_inj nd).mp (e1.trans (yz.trans e2.symm))
  · have := hF k hk
    show (F k).1.toNat ≤ ((F k).1 + (F k).2).toNat
    omega
  · obtain ⟨f0, g0, hr⟩ := hF k hk
    obtain ⟨y, hy, y0⟩ := ps c hc
    rw [transp_at hm hc hk]
    unfold Dt.at_
    rw [hr]
    show ((List.range w).map _)[c]?.getD 0 = _
    rw [List.getElem?_map, List.getElem?_range hc]
    show (if (decide ((F k).1 ≤ pl[c]?.getD 0) && decide (pl[c]?.getD 0 < (F k).1 + (F k).2)) = true then (1 : Int) else 0) = if (F k).1.toNat ≤ (pl[c]?.getD 0).toNat ∧ (pl[c]?.getD 0).toNat < ((F k).1 + (F k).2).toNat then 1 else 0
    rw [hy]
    show (if (decide ((F k).1 ≤ y) && decide (y < (F k).1 + (F k).2)) = true then (1 : Int) else 0) = if (F k).1.toNat ≤ y.toNat ∧ y.toNat < ((F k).1 + (F k).2).toNat then 1 else 0
    by_cases a : (F k).1 ≤ y
    · by_cases b : y < (F k).1 + (F k).2
      · rw [if_pos (by rw [decide_eq_true a, decide_eq_true b]; rfl), if_pos (by omega)]
      · rw [if_neg (by rw [decide_eq_false b]; simp), if_neg (by omega)]
    · rw [if_neg (by rw [decide_eq_false a]; simp), if_neg (by omega)]

def sp__law_stretches (K : PySem.W.Frag) : Sp := fun vs H Q _ => ∃ (s : Addr) (n : Int) (m w : Nat), vs = [.ref s, .int m, .int w] ∧ SrcAt H s n ∧ n ≤ 300000000 ∧ 1 ≤ m ∧ m ≤ 8 ∧ 1 ≤ w ∧ w ≤ 8 ∧
  ∀ (rs : List Addr) (rows : List (List Int)) (p : Addr) (H' : Hp), NewTab H H' p rs rows w 100 → rows.length = m → Tu.Uni rows m w → ExB s H H' → SrcAt H' s (n + 400) → Q (.ref p) H'

theorem ok__law_stretches (T : Txt K mg) : FnOk P w K mg base CX0 3 T.f__law_stretches T.fd__law_stretches ["_law_source", "_law_many", "_law_wide"] (sp__law_stretches K) := by
  refine Fun.ok T.F__law_stretches sc__law_stretches (fun vs H Q E h => ?_) (fun cdv A outer s H vs Q E hr h => ?_)
  · obtain ⟨_, _, _, _, rfl, _⟩ := h; rfl
  · refine ⟨_, (pss_cons (ps_set (i := 3) sc__law_stretches.nd rfl (by first | exact Or.inl rfl | exact Or.inr rfl) (pe_call (ok__law_mixed T) hr (by rfl) T.g__law_mixed T.k__law_mixed T.b__law_mixed .nil pass0 (pa_cons (pv 0) (pa_cons (pe_listRg rfl (by rfl) T.n_list (prg_1 (by rfl) T.n_range (pv 2))) pa_nil))))
      (pss_cons (ps_set (i := 4) sc__law_stretches.nd rfl (by first | exact Or.inl rfl | exact Or.inr rfl) (pe_lst pa_nil))
      (pss_cons (ps_for PassesOwn.never rfl (pi_range1 (by rfl) T.n_range (pa_cons (pv 1) pa_nil)) (pg_name (i := 5) sc__law_stretches.nd rfl (by first | exact Or.inl rfl | exact Or.inr rfl))
        (pss_cut (ps_set (i := 6) sc__law_stretches.nd rfl (by first | exact Or.inl rfl | exact Or.inr rfl) (pe_call (ok__law_next T) (hr.mono (by decide)) (by rfl) T.g__law_next T.k__law_next T.b__law_next .nil pass0 (pa_cons (pv 0) (pa_cons (pv 2) pa_nil))))
          (pss_cut (ps_set (i := 7) sc__law_stretches.nd rfl (by first | exact Or.inl rfl | exact Or.inr rfl) (pe_call (ok__law_next T) (hr.mono (by decide)) (by rfl) T.g__law_next T.k__law_next T.b__law_next .nil pass0 (pa_cons (pv 0) (pa_cons (pe_op op_add (pe_op op_sub (pv 2) (pv 6)) pe_int) pa_nil))))
          (pss_one (ps_expr (pe_bm PySem.F.plainAttrs_list PySem.F.slot_list_append PySem.F.type_list_append mt_append (pv 4) (pa_cons (pe_lc (own := [("_law_column", 8)]) (g := gName 8) (tt := tYes) rfl sc__law_stretches.nd (pi_range1 (by rfl) T.n_range (pa_cons (pv 2) pa_nil)) (blkOk_by (N := ["_law_source", "_law_many", "_law_wide", "_law_order", "_law_found", "_law_k", "_law_start", "_law_length", "_law_column"]) (sc := (defScope s__law_stretches)) (by decide +kernel)) (fun _ _ _ _ _ => pg_name (i := 8) sc__law_stretches.nd rfl (Or.inl rfl)) (fun _ _ _ _ _ => pts_nil) (fun _ _ _ _ _ => (pe_callTy (T := "int") call_int1 (by rfl) T.n_int (by decide +kernel) (pa_cons (pe_chain op_le op_lt (pv 6) (pe_ix (r := rIxL K) ix_list (pv 3) (pv 8) (fun _ _ => rfl)) (pe_op op_add (pv 6) (pv 7))) pa_nil)))) pa_nil)))))))
      (pss_one (ps_ret (pv 4)))))), ?_⟩
    obtain ⟨s, n, m, w, rfl, hs, hn, hm1, hm8, hw1, hw8, k⟩ := h
    -- order
    refine ⟨_, rfl, _, rfl, _, rfl, RgOk.of_le (by omega) (by omega) (by omega) (by omega), fun q nq => ?_⟩
    have x1 := Ex.new (o := .lst (rgV 0 (w : Int))) nq
    refine ⟨s, q, n, _, rfl, hs.ex x1, by omega, hs.ne nq, SqL.of upd_same, ?_, ?_, fun ys p1 H1 hp np1 e1 s1 h1 => ?_⟩
    · rw [rgV_length]
      omega
    · intro v hv
      rw [rgV_nums] at hv
      obtain ⟨i, _, rfl⟩ := List.mem_map.mp hv
      exact datv_int i
    rw [rgV_nums] at hp
    obtain ⟨pl, rfl, hpl⟩ := perm_ints hp
    have hpll : pl.length = w := by
      rw [hpl.length_eq, numsTo_length]
      omega
    have e01 : ExB s H H1 := (ExB.of x1).trans e1
    have np1s : p1 ≠ s := (hs.ex x1).ne np1
    -- found
    refine ⟨Nat.zero_le _, fun p2 np2 => ?_⟩
    have x2 : Ex H1 (upd H1 p2 (.lst [])) := Ex.new np2
    have np2s : p2 ≠ s := s1.ne np2
    have np12 : p1 ≠ p2 := ne_of_none h1 np2
    have np2H : H p2 = none := fresh_B e01 np2 s1.obj
    refine ⟨_, rfl, _, rfl, by omega, by omega, for_range (lo := 0) (n := (m : Int).toNat) (fun i σ H' => ∃ (y5 y6 y7 y8 : Option V) (as : List Addr) (rows : List (List Int)), σ = [some (.ref s), some (.int m), some (.int w), some (.ref p1), some (.ref p2), y5, y6, y7, y8] ∧ rows.length = i ∧ (∀ r ∈ rows, IsStr pl w r) ∧ NewTab H H' p2 as rows w 100 ∧
      ExB s H H' ∧ SrcAt H' s (n + 100 + 2 * i) ∧ H' p1 = some (.lst (pl.map V.int))) ?_ ?_ ?_⟩
    · exact ⟨_, _, _, _, [], [], rfl, rfl, fun r hr => (nomatch hr), NewTab.new np2H upd_same, e01.trans (ExB.of x2), (s1.ex x2).le (by omega), x2 _ _ h1⟩
    · rintro i σ H2 hi ⟨y5, y6, y7, y8, as, rows, rfl, hl, hI, hN, e2, s2, g1⟩
      refine ⟨fun σ' H' => ∃ f : Int, σ' = [some (.ref s), some (.int m), some (.int w), some (.ref p1), some (.ref p2), some (.int (0 + (i : Int))), some (.int f), y7, y8] ∧ 0 ≤ f ∧ f < w ∧ ExB s H2 H' ∧ SrcAt H' s (n + 100 + 2 * i + 1), ?_, ?_⟩
      · refine ⟨_, rfl, _, rfl, s, _, _, rfl, s2, by omega, by omega, ?_, fun f H3 f0 f1 e3 s3 => ⟨f, rfl, f0, f1, e3, s3⟩⟩
        unfold Bd
        exact Nat.lt_of_lt_of_le (show ((w : Int)).natAbs < 1024 by omega) (by decide +kernel)
      rintro σ' H3 ⟨f, rfl, f0, f1, e3, s3⟩
      refine ⟨fun σ' H' => ∃ g : Int, σ' = [some (.ref s), some (.int m), some (.int w), some (.ref p1), some (.ref p2), some (.int (0 + (i : Int))), some (.int f), some (.int g), y8] ∧ 0 ≤ g ∧ ExB s H2 H' ∧ SrcAt H' s (n + 100 + 2 * i + 1 + 1), ?_, ?_⟩
      · refine ⟨_, rfl, _, rfl, _, rfl, _, _, rfl, rfl, _, _, rfl, rfl, s, _, _, rfl, s3, by omega, by omega, ?_, fun g H4 g0 gl e4 s4 => ⟨g, rfl, g0, e3.trans e4, s4⟩⟩
        unfold Bd
        exact Nat.lt_of_lt_of_le (show ((w : Int) - f + 1).natAbs < 1024 by omega) (by decide +kernel)
      rintro σ' H4 ⟨g, rfl, g0, e4, s4⟩
      have N4 := hN.exB e4 hs.obj
      have al : as.length = i := by rw [Paired.length N4.tab.2, hl]
      have hp1 := e4 _ _ np1s g1
      refine ⟨_, rfl, .inl ⟨rfl, _, SqL.of N4.tab.1⟩, ?_⟩
      refine el_rng (m := w) (fun o => if (decide (f ≤ pl[o]?.getD 0) && decide (pl[o]?.getD 0 < f + g)) = true then 1 else 0) (ea_cons (ev_var rfl) ea_nil) (by omega) (fun x => rfl) (fun o H5 x5 ho => ev_int1 (ev_chain (ev_var rfl) (ev_op (ev_var rfl) (ev_var rfl) (rv_ixL (SqL.of (x5 _ _ hp1)) (atI_row (by omega)))) (ev_op (ev_var rfl) (ev_var rfl) rv_I0) rv_I0 rv_I0)) H4 (Ex.refl _) _ fun r H5 nr e5 hr => ?_
      refine ⟨p2, _, _, rfl, rfl, e5 _ _ N4.tab.1, small1000 (by rw [List.length_map]; omega), ?_⟩
      refine ⟨_, _, _, _, as ++ [r], rows ++ [_], rfl, by rw [List.length_append, hl]; rfl, fun q hq => (List.mem_append.mp hq).elim (hI q) fun z => List.mem_singleton.mp z ▸ ⟨f, g, f0, g0, rfl⟩, N4.app (noneB (e2.trans e4) s4.obj) e5 nr hr (by rw [List.length_map, List.length_range]) (fun y hy => ?_), ?_, ?_, ?_⟩
      · obtain ⟨o, _, rfl⟩ := List.mem_map.mp hy
        split <;> decide
      · refine fun b o nb h => ?_
        rw [upd_ne (ne_of_none h np2H)]
        exact e5 _ _ (e4 _ _ nb (e2 _ _ nb h))
      · obtain ⟨a1, a2, a3, a4, a5, a6, a7, a8⟩ := s4.ex e5
        exact ⟨a1, a2, a3, by rw [upd_ne np2s.symm]; exact a4, a5, a6, a7, by omega⟩
      · rw [upd_ne np12]
        exact e5 _ _ hp1
    · rintro σ H2 ⟨y5, y6, y7, y8, as, rows, rfl, hl, hI, hN, e2, s2, g1⟩
      refine ⟨_, rfl, ?_⟩
      have hlm : rows.length = m := by rw [hl]; omega
      exact k as rows p2 H2 hN hlm (str_uni hpl hlm hI) e2 (s2.le (by omega))
-- DEF _law_swung

/-- rows mixed, perhaps turned, with signs -/

theorem zw_snoc {α β γ : Type} (f : α → β → γ) {xs : List α} {ys : List β} {i : Nat} {x : α} {y : β} (hx : xs.length = i) (hy : ys[i]? = some y) : List.zipWith f (xs ++ [x]) (ys.take (i + 1)) = List.zipWith f xs (ys.take i) ++ [f x y] := by
  have hi := (List.getElem?_eq_some_iff.mp hy).1
  rw [take_snoc hy, List.zipWith_append (by rw [List.length_take]; omega)]
  rfl

def sp__law_swung (K : PySem.W.Frag) : Sp := fun vs H Q _ => ∃ (s g : Addr) (n : Int) (as : List Addr) (rows : List (List Int)) (m w c : Nat), vs = [.ref s, .ref g] ∧ SrcAt H s n ∧ n ≤ 200000000 ∧ g ≠ s ∧ (∀ a ∈ as, a ≠ s) ∧ Tab H g as rows ∧ rows.length = m ∧ (∀ r ∈ rows, r.length = w ∧ ∀ y ∈ r, y.natAbs ≤ c) ∧ c ≤ 10 ^ 30 ∧ 1 ≤ m ∧ m ≤ 8 ∧ 1 ≤ w ∧ w ≤ 8 ∧
  ∀ (rs : List Addr) (rows' : List (List Int)) (p : Addr) (H' : Hp) (m' w' : Nat), (m' = m ∧ w' = w ∨ m' = w ∧ w' = m) → Swung rows rows' m w m' w' → NewTab H H' p rs rows' w' c → rows'.length = m' → ExB s H H' → SrcAt H' s (n + 200) → Q (.ref p) H'

theorem ok__law_swung (T : Txt K mg) : FnOk P w K mg base CX0 3 T.f__law_swung T.fd__law_swung ["_law_source", "_law_table_here"] (sp__law_swung K) := by
  refine Fun.ok T.F__law_swung sc__law_swung (fun vs H Q E h => ?_) (fun cdv A outer s H vs Q E hr h => ?_)
  · obtain ⟨_, _, _, _, _, _, _, _, rfl, _⟩ := h; rfl
  · refine ⟨_, (pss_cut (ps_set (i := 2) sc__law_swung.nd rfl (by first | exact Or.inl rfl | exact Or.inr rfl) (pe_call (ok__law_mixed T) hr (by rfl) T.g__law_mixed T.k__law_mixed T.b__law_mixed .nil pass0 (pa_cons (pv 0) (pa_cons (pv 1) pa_nil))))
      (pss_cut (ps_if (pt_cmpR op_eq (pe_call (ok__law_next T) (hr.mono (by decide)) (by rfl) T.g__law_next T.k__law_next T.b__law_next .nil pass0 (pa_cons (pv 0) (pa_cons pe_int pa_nil))) pe_int (nomark _))
        (pss_one (ps_set (i := 2) sc__law_swung.nd rfl (by first | exact Or.inl rfl | exact Or.inr rfl) (pe_lc (own := [("_law_k", 7)]) (g := gName 7) (tt := tYes) rfl sc__law_swung.nd (pi_range1 (by rfl) T.n_range (pa_cons (pe_callB (id := "len") (r := rLenS K) call_len_seq (by rfl) T.n_len PySem.boot_len (pa_cons (pe_ix (r := rIxL K) ix_list (pv 2) pe_int (fun _ _ => rfl)) pa_nil)) pa_nil)) (blkOk_by (N := ["_law_source", "_law_table_here", "_law_rows", "_law_signs", "_law_found", "_law_row", "_law_sign", "_law_k", "_law_column", "_law_a", "_law_b"]) (sc := (defScope s__law_swung)) (by decide +kernel)) (fun _ _ _ _ _ => pg_name (i := 7) sc__law_swung.nd rfl (Or.inr rfl)) (fun _ _ _ _ _ => pts_nil) (fun _ _ _ _ _ => (pe_lc (own := [("_law_row", 5)]) (wi := iList K _) (g := gName 5) (tt := tYes) rfl sc__law_swung.nd (pi_list (pv 2)) (blkOk_by (N := ["_law_source", "_law_table_here", "_law_rows", "_law_signs", "_law_found", "_law_row", "_law_sign", "_law_k", "_law_column", "_law_a", "_law_b"]) (sc := (relS ({ kind := .function, names := [(".0", .local), ("_law_k", .cell), ("_law_rows", .free)], isGenerator := false, isCoroutine := false } : Scope) (defScope s__law_swung))) (by decide +kernel)) (fun _ _ _ _ _ => pg_name (i := 5) sc__law_swung.nd rfl (Or.inl rfl)) (fun _ _ _ _ _ => pts_nil) (fun _ _ _ _ _ => (pe_ix (r := rIxL K) ix_list (pv 5) (pv 7) (fun _ _ => rfl))))))))
        pss_nil)
      (pss_cut (ps_setLc (i := 3) (own := [("_law_column", 8)]) (wi := iList K _) (g := gName 8) (tt := tYes) rfl sc__law_swung.nd rfl rfl (sw_true rfl rfl rfl (by decide +kernel)) (pi_list (pe_ix (r := rIxL K) ix_list (pv 2) pe_int (fun _ _ => rfl))) (blkOk_by (N := ["_law_source", "_law_table_here", "_law_rows", "_law_signs", "_law_found", "_law_row", "_law_sign", "_law_k", "_law_column", "_law_a", "_law_b"]) (sc := (defScope s__law_swung)) (by decide +kernel)) (fun _ _ _ _ _ => pg_name (i := 8) sc__law_swung.nd rfl (Or.inl rfl)) (fun _ _ _ _ _ => pts_nil) (fun _ _ _ _ _ => (pe_ix (r := rIxL K) ix_list (pe_lst (pa_cons pe_int (pa_cons (pe_un un_neg pe_int) pa_nil))) (pe_call (ok__law_next T) (hr.mono (by decide)) (by rfl) T.g__law_next T.k__law_next T.b__law_next .nil pass0 (pa_cons (pv 0) (pa_cons pe_int pa_nil))) (fun _ _ => rfl))))
      (pss_cons (ps_set (i := 4) sc__law_swung.nd rfl (by first | exact Or.inl rfl | exact Or.inr rfl) (pe_lst pa_nil))
      (pss_cons (ps_for PassesOwn.never rfl (pi_list (pv 2)) (pg_name (i := 5) sc__law_swung.nd rfl (by first | exact Or.inl rfl | exact Or.inr rfl))
        (pss_cut (ps_set (i := 6) sc__law_swung.nd rfl (by first | exact Or.inl rfl | exact Or.inr rfl) (pe_ix (r := rIxL K) ix_list (pe_lst (pa_cons pe_int (pa_cons pe_int (pa_cons (pe_un un_neg pe_int) pa_nil)))) (pe_call (ok__law_next T) (hr.mono (by decide)) (by rfl) T.g__law_next T.k__law_next T.b__law_next .nil pass0 (pa_cons (pv 0) (pa_cons pe_int pa_nil))) (fun _ _ => rfl)))
          (pss_one (ps_expr (pe_bm PySem.F.plainAttrs_list PySem.F.slot_list_append PySem.F.type_list_append mt_append (pv 4) (pa_cons (pe_lc (own := [("_law_a", 9), ("_law_b", 10)]) (wi := iZip K _) (g := gTup K 2 (gCons (gName 9) (gCons (gName 10) gNil))) (tt := tYes) rfl sc__law_swung.nd (pi_zip (by rfl) T.n_zip (pa_cons (pv 5) (pa_cons (pv 3) pa_nil))) (blkOk_by (N := ["_law_source", "_law_table_here", "_law_rows", "_law_signs", "_law_found", "_law_row", "_law_sign", "_law_k", "_law_column", "_law_a", "_law_b"]) (sc := (defScope s__law_swung)) (by decide +kernel)) (fun _ _ _ _ _ => (pg_tup rfl (pgs_cons (pg_name (i := 9) sc__law_swung.nd rfl (Or.inl rfl)) (pgs_cons (pg_name (i := 10) sc__law_swung.nd rfl (Or.inl rfl)) pgs_nil)))) (fun _ _ _ _ _ => pts_nil) (fun _ _ _ _ _ => (pe_op op_mulW (pe_op op_mulW (pv 6) (pv 9)) (pv 10)))) pa_nil))))))
      (pss_one (ps_ret (pv 4)))))))), ?_⟩
    obtain ⟨s, g, n, as, rows, m, w, c, rfl, hs, hn, hgs, has, hT, hm, hok, hc30, hm1, hm8, hw1, hw8, k⟩ := h
    have hal : as.length = m := by rw [Paired.length hT.2, hm]
    -- row_list
    refine ⟨fun σ' H1 => ∃ (p : Addr) (as1 : List Addr) (rows1 : List (List Int)), σ' = [some (.ref s), some (.ref g), some (.ref p), none, none, none, none, none, none, none, none] ∧ Tab H1 p as1 rows1 ∧ rows1.length = m ∧ rows1.Perm rows ∧ (∀ r ∈ rows1, r.length = w ∧ ∀ y ∈ r, y.natAbs ≤ c) ∧ p ≠ s ∧ (∀ a ∈ as1, a ≠ s) ∧ ExB s H H1 ∧ SrcAt H1 s (n + 100), ?_, ?_⟩
    · refine ⟨_, rfl, _, rfl, s, g, n, _, rfl, hs, by omega, hgs, SqL.of hT.1, (by rw [List.length_map]; omega), fun v hv => ?_, fun ys p H1 hp np e1 s1 h1 => ?_⟩
      · obtain ⟨a, ha, rfl⟩ := List.mem_map.mp hv
        obtain ⟨r, _, hr⟩ := paired_mem hT.2 ha
        exact datv_row hr (has a ha)
      · obtain ⟨as1, rows1, rfl, pr, hR, pa⟩ := perm_refs hp hT.2
        refine ⟨p, as1, rows1, rfl, ⟨h1, rows_but hR fun a ha o q => e1 a o (has a (pa.mem_iff.mp ha)) q⟩, by rw [pr.length_eq, hm], pr, fun r hr => hok r (pr.mem_iff.mp hr), hs.ne np, fun a ha => has a (pa.mem_iff.mp ha), e1, s1⟩
    rintro σ' H1 ⟨p, as1, rows1, rfl, hT1, hm', hpr, hok1, nps, nas, e1, s1⟩
    -- perhaps turned
    refine ⟨fun σ' H2 => ∃ (y5 y7 : Option V) (p2 : Addr) (as2 : List Addr) (rows2 : List (List Int)) (m2 w2 : Nat), (m2 = m ∧ w2 = w ∨ m2 = w ∧ w2 = m) ∧ ((m2 = m ∧ w2 = w ∧ rows2 = rows1) ∨ (m2 = w ∧ w2 = m ∧ rows2 = (List.range w).map fun kk => rows1.map fun r => r[kk]?.getD 0)) ∧ σ' = [some (.ref s), some (.ref g), some (.ref p2), none, none, y5, none, y7, none, none, none] ∧ Tab H2 p2 as2 rows2 ∧ rows2.length = m2 ∧ (∀ r ∈ rows2, r.length = w2 ∧ ∀ y ∈ r, y.natAbs ≤ c) ∧ p2 ≠ s ∧ (∀ a ∈ as2, a ≠ s) ∧ ExB s H H2 ∧ SrcAt H2 s (n + 101), ?_, ?_⟩
    · refine ⟨_, rfl, s, 2, _, rfl, s1, by omega, by decide, (by unfold Bd; decide +kernel), fun f H2 f0 f1 e2 s2 => ⟨rfl, _, rfl, ?_⟩⟩
      have hT2 : Tab H2 p as1 rows1 := ⟨e2 _ _ nps hT1.1, rows_but hT1.2 fun a ha o q => e2 a o (nas a ha) q⟩
      refine ite2 (fun _ => ?_) (fun _ => ?_)
      · have h0 : ∃ a0 r0, as1[0]? = some a0 ∧ rows1[0]? = some r0 ∧ H2 a0 = some (.lst (r0.map V.int)) ∧ r0.length = w := by
          have hl1 : as1.length = m := by rw [Paired.length hT2.2, hm']
          obtain ⟨a0, ha0⟩ : ∃ a0, as1[0]? = some a0 := ⟨_, List.getElem?_eq_getElem (by omega)⟩
          obtain ⟨r0, hr0, hh⟩ := paired_get hT2.2 ha0
          exact ⟨a0, r0, ha0, hr0, hh, (hok1 r0 (List.mem_of_getElem? hr0)).1⟩
        obtain ⟨a0, r0, ha0, hr0, hh0, hl0⟩ := h0
        have at0 : atI (as1.map V.ref) 0 = some (.ref a0) := atI_nat (j := 0) (by rw [List.getElem?_map, ha0]; rfl)
        refine lc_rows (m := w) (F := fun kk => rows1.map fun r => r[kk]?.getD 0) (ea_cons (ev_is (ev_len (ev_op (ev_var rfl) ev_c (rv_ixL (SqL.of hT2.1) at0)) (SqL.of hh0)) (by rw [List.length_map, hl0])) ea_nil) (by omega) (fun u => rfl) (fun kk H3 x3 hkk => ?_) (fun p2 rs H3 np2 nrs ndr npr x3 ht => ?_)
        · refine el_col (K := K) (f := fun r => r[kk]?.getD 0) rfl (x3 _ _ hT2.1) (hT2.2.ex x3) (by omega) (fun u => rfl) fun b r H4 hr hb x4 => ?_
          have lr := (hok1 r hr).1
          exact ev_op (ev_var rfl) (ev_var rfl) (rv_ixL (SqL.of (x4 _ _ hb)) (atI_row (by omega)))
        · refine ⟨_, _, p2, rs, _, w, m, .inr ⟨rfl, rfl⟩, .inr ⟨rfl, rfl, rfl⟩, rfl, ht, by rw [List.length_map, List.length_range], fun r hr => ?_, s2.ne np2, fun a ha => s2.ne (nrs a ha), (e1.trans e2).trans (ExB.of x3), (s2.ex x3).le (by omega)⟩
          obtain ⟨kk, hkk, rfl⟩ := List.mem_map.mp hr
          have hkk := List.mem_range.mp hkk
          refine ⟨by rw [List.length_map, hm'], fun y hy => ?_⟩
          obtain ⟨r, hr, rfl⟩ := List.mem_map.mp hy
          have o := hok1 r hr
          rw [List.getElem?_eq_getElem (by omega)]
          exact o.2 _ (List.getElem_mem _)
      · exact ⟨_, _, p, as1, rows1, m, w, .inl ⟨rfl, rfl⟩, .inl ⟨rfl, rfl, rfl⟩, rfl, hT2, hm', hok1, nps, nas, e1.trans e2, s2.le (by omega)⟩
    rintro σ' H2 ⟨y5, y7, p2, as2, rows2, m2, w2, hmw, htw, rfl, hT2, hm2, hok2, np2s, nas2, e2, s2⟩
    clear hT1 hm' hok1 nps nas e1 s1
    have hm2b : 1 ≤ m2 ∧ m2 ≤ 8 ∧ 1 ≤ w2 ∧ w2 ≤ 8 := by
      rcases hmw with ⟨rfl, rfl⟩ | ⟨rfl, rfl⟩ <;> exact ⟨by omega, by omega, by omega, by omega⟩
    -- signs
    refine ⟨fun σ' H3 => ∃ (y8 : Option V) (q : Addr) (sg : List Int), σ' = [some (.ref s), some (.ref g), some (.ref p2), some (.ref q), none, y5, none, y7, y8, none, none] ∧ H3 q = some (.lst (sg.map V.int)) ∧ sg.length = w2 ∧ (∀ x ∈ sg, x = 1 ∨ x = -1) ∧ q ≠ s ∧ H q = none ∧ ExB s H2 H3 ∧ SrcAt H3 s (n + 109), ?_, ?_⟩
    · have h0 : ∃ a0 r0, as2[0]? = some a0 ∧ rows2[0]? = some r0 ∧ H2 a0 = some (.lst (r0.map V.int)) ∧ r0.length = w2 := by
        have hl1 : as2.length = m2 := by rw [Paired.length hT2.2, hm2]
        obtain ⟨a0, ha0⟩ : ∃ a0, as2[0]? = some a0 := ⟨_, List.getElem?_eq_getElem (by omega)⟩
        obtain ⟨r0, hr0, hh⟩ := paired_get hT2.2 ha0
        exact ⟨a0, r0, ha0, hr0, hh, (hok2 r0 (List.mem_of_getElem? hr0)).1⟩
      obtain ⟨a0, r0, ha0, hr0, hh0, hl0⟩ := h0
      have at0 : atI (as2.map V.ref) 0 = some (.ref a0) := atI_nat (j := 0) (by rw [List.getElem?_map, ha0]; rfl)
      refine lc_drawL (K := K) (s := s) (n := n + 101) (xs := r0) (fun x => x = 1 ∨ x = -1) (ev_op (ev_var rfl) ev_c (rv_ixL (SqL.of hT2.1) at0)) hh0 (nas2 a0 (List.mem_of_getElem? ha0)) (by omega) s2 (fun u => rfl) (fun i y H3 e3 hi s3 Q1 kq => ?_) (fun D ns H3 hD e3 s3 hD3 hl3 hP => ?_)
      · refine ⟨_, rfl, (by show 2 ≤ sizeLine; decide), fun l nl => ?_⟩
        have xl : Ex H3 (upd H3 l (.lst [.int 1, .int (-1)])) := Ex.new nl
        have nls : l ≠ s := s3.ne nl
        refine ⟨_, rfl, s, 2, _, rfl, s3.ex xl, by omega, by decide, (by unfold Bd; decide +kernel), fun f H4 f0 f1 e4 s4 => ?_⟩
        have hl4 := e4 _ _ nls (upd_same (H := H3) (a := l) (o := .lst [.int 1, .int (-1)]))
        have hf : f = 0 ∨ f = 1 := by omega
        rcases hf with rfl | rfl
        · exact ⟨l, _, _, .int 1, rfl, rfl, SqL.of hl4, rfl, kq 1 H4 (.inl rfl) ((ExB.of xl).trans e4) s4⟩
        · exact ⟨l, _, _, .int (-1), rfl, rfl, SqL.of hl4, rfl, kq (-1) H4 (.inr rfl) ((ExB.of xl).trans e4) s4⟩
      · exact ⟨_, D, ns, rfl, hD3, by omega, hP, s2.ne hD, fresh_B e2 hD s2.obj, e3, s3.le (by omega)⟩
    rintro σ' H3 ⟨y8, q, sg, rfl, hq, hql, hqs, nqs, nqH, e3, s3⟩
    have hT3 : Tab H3 p2 as2 rows2 := ⟨e3 _ _ np2s hT2.1, rows_but hT2.2 fun a ha o z => e3 a o (nas2 a ha) z⟩
    have e03 := e2.trans e3
    -- found
    refine ⟨Nat.zero_le _, fun p3 np3 => ?_⟩
    have x3 : Ex H3 (upd H3 p3 (.lst [])) := Ex.new np3
    have np3s : p3 ≠ s := s3.ne np3
    have np3H : H p3 = none := fresh_B e03 np3 s3.obj
    have ne3 : ∀ {b : Addr} {o : HO}, H3 b = some o → b ≠ p3 := fun h => ne_of_none h np3
    have qp3 := ne3 hq
    refine ⟨_, rfl, p2, rfl, ⟨_, SqL.of (x3 _ _ hT3.1)⟩, for_list (K := K) (a := p2) (xs := as2.map V.ref) (fun i σ H' => ∃ (y5 y6 y9 y10 : Option V) (as : List Addr) (rws : List (List Int)) (fs : List Int), σ = [some (.ref s), some (.ref g), some (.ref p2), some (.ref q), some (.ref p3), y5, y6, y7, y8, y9, y10] ∧ rws.length = i ∧ fs.length = i ∧ (∀ x ∈ fs, x = 1 ∨ x = -1) ∧ rws = List.zipWith (fun f r => List.zipWith (fun x y => f * x * y) r sg) fs (rows2.take i) ∧ NewTab H H' p3 as rws w2 c ∧ ExB s H H' ∧ SrcAt H' s (n + 109 + i) ∧
      Tab H' p2 as2 rows2 ∧ H' q = some (.lst (sg.map V.int))) ?_ (fun i σ H' _ ⟨_, _, _, _, _, _, _, _, _, _, _, _, _, _, _, t, _⟩ => SqL.of t.1) ?_ ?_⟩
    · exact ⟨_, _, _, _, [], [], [], rfl, rfl, rfl, fun x hx => (nomatch hx), rfl, NewTab.new np3H upd_same, e03.trans (ExB.of x3), (s3.ex x3).le (by omega), hT3.ex x3, x3 _ _ hq⟩
    · rintro i x σ H4 hi ⟨z5, z6, z9, z10, as, rws, fs, rfl, hl, hfl, hfs, hrw, hN, e4, s4, hT4, hq4⟩
      rw [List.getElem?_map] at hi
      obtain ⟨ai, hai, rfl⟩ := Option.map_eq_some_iff.mp hi
      obtain ⟨ri, hri, hti⟩ := paired_get hT4.2 hai
      have lri := hok2 ri (List.mem_of_getElem? hri)
      have i8 : i < m2 := by rw [← hm2]; exact (List.getElem?_eq_some_iff.mp hri).1
      have nai := nas2 ai (List.mem_of_getElem? hai)
      refine ⟨fun σ' H' => ∃ f : Int, (f = 1 ∨ f = -1) ∧ σ' = [some (.ref s), some (.ref g), some (.ref p2), some (.ref q), some (.ref p3), some (.ref ai), some (.int f), y7, y8, z9, z10] ∧ ExB s H4 H' ∧ SrcAt H' s (n + 109 + i + 1), ?_, ?_⟩
      · refine ⟨_, rfl, (by show 3 ≤ sizeLine; decide), fun l nl => ?_⟩
        have xl : Ex H4 (upd H4 l (.lst [.int 1, .int 1, .int (-1)])) := Ex.new nl
        have nls : l ≠ s := s4.ne nl
        refine ⟨_, rfl, s, 3, _, rfl, s4.ex xl, by omega, by decide, (by unfold Bd; decide +kernel), fun f H5 f0 f1 e5 s5 => ?_⟩
        have hl5 := e5 _ _ nls (upd_same (H := H4) (a := l) (o := .lst [.int 1, .int 1, .int (-1)]))
        have hf : f = 0 ∨ f = 1 ∨ f = 2 := by omega
        rcases hf with rfl | rfl | rfl
        · exact ⟨l, _, _, .int 1, rfl, rfl, SqL.of hl5, rfl, 1, .inl rfl, rfl, (ExB.of xl).trans e5, s5⟩
        · exact ⟨l, _, _, .int 1, rfl, rfl, SqL.of hl5, rfl, 1, .inl rfl, rfl, (ExB.of xl).trans e5, s5⟩
        · exact ⟨l, _, _, .int (-1), rfl, rfl, SqL.of hl5, rfl, -1, .inr rfl, rfl, (ExB.of xl).trans e5, s5⟩
      rintro σ' H5 ⟨f, hf, rfl, e5, s5⟩
      have N5 := hN.exB e5 hs.obj
      have hT5 : Tab H5 p2 as2 rows2 := ⟨e5 _ _ np2s hT4.1, rows_but hT4.2 fun a ha o z => e5 a o (nas2 a ha) z⟩
      have hq5 := e5 _ _ nqs hq4
      have hti5 := e5 _ _ nai hti
      have al : as.length = i := by rw [Paired.length N5.tab.2, hl]
      have bf : Bd 2 f := by
        rcases hf with rfl | rfl <;> (unfold Bd; decide)
      have small : ∀ {x : Int}, x.natAbs ≤ c → Bd 100 x := fun {x} h => Nat.lt_of_le_of_lt h (Nat.lt_of_le_of_lt hc30 (by decide +kernel))
      refine ⟨_, rfl, .inl ⟨rfl, _, SqL.of N5.tab.1⟩, ?_⟩
      refine el_zip (K := K) (f := fun x y => f * x * y) (xs := ri) (ys := sg) (ea_cons (ev_var rfl) (ea_cons (ev_var rfl) ea_nil)) (SqL.of hti5) (SqL.of hq5) (by omega) (by omega) (fun u v => rfl) (fun x y H1 hx hy _ => ev_op (ev_op (ev_var rfl) (ev_var rfl) (rv_I (bf.mulOk (small (lri.2 x hx))))) (ev_var rfl) (rv_I ((bf.mul (small (lri.2 x hx))).mulOk (show Bd 2 y by rcases hqs y hy with rfl | rfl <;> (unfold Bd; decide))))) H5 (Ex.refl _) _ fun r H6 nr e6 hr => ?_
      refine ⟨p3, _, _, rfl, rfl, e6 _ _ N5.tab.1, small1000 (by rw [List.length_map]; omega), ?_⟩
      refine ⟨_, _, _, _, as ++ [r], rws ++ [_], fs ++ [f], rfl, by rw [List.length_append, hl]; rfl, by rw [List.length_append, hfl]; rfl, (fun x hx => (List.mem_append.mp hx).elim (hfs x) fun z => by rw [List.mem_singleton.mp z]; exact hf), by rw [zw_snoc _ hfl hri, ← hrw], N5.app (noneB (e4.trans e5) s5.obj) e6 nr hr (by rw [List.length_zipWith]; omega) (fun y hy => ?_), ?_, ?_, ?_, ?_⟩
      · obtain ⟨u, v, hu, hv, rfl⟩ : ∃ u v, u ∈ ri ∧ v ∈ sg ∧ f * u * v = y := by
          obtain ⟨j, hj⟩ := List.getElem?_of_mem hy
          rw [List.getElem?_zipWith] at hj
          cases h3 : ri[j]? with
          | none => rw [h3] at hj; simp at hj
          | some u =>
            cases h4 : sg[j]? with
            | none => rw [h3, h4] at hj; simp at hj
            | some v =>
              rw [h3, h4] at hj
              exact ⟨u, v, List.mem_of_getElem? h3, List.mem_of_getElem? h4, Option.some.inj hj⟩
        have b1 := lri.2 u hu
        rcases hf with rfl | rfl <;> rcases hqs v hv with rfl | rfl <;> omega
      · refine fun b o nb h => ?_
        rw [upd_ne (ne_of_none h np3H)]
        exact e6 _ _ (e5 _ _ nb (e4 _ _ nb h))
      · obtain ⟨a1, a2, a3, a4, a5, a6, a7, a8⟩ := s5.ex e6
        exact ⟨a1, a2, a3, by rw [upd_ne np3s.symm]; exact a4, a5, a6, a7, by omega⟩
      · refine ⟨?_, rows_but hT5.2 fun a ha o z => ?_⟩
        · rw [upd_ne (ne3 hT3.1)]
          exact e6 _ _ hT5.1
        · obtain ⟨_, _, h3⟩ := paired_mem hT3.2 ha
          rw [upd_ne (ne3 h3)]
          exact e6 _ _ z
      · rw [upd_ne qp3]
        exact e6 _ _ hq5
    · rintro σ H4 ⟨z5, z6, z9, z10, as, rws, fs, rfl, hl, hfl, hfs, hrw, hN, e4, s4, _, _⟩
      refine ⟨_, rfl, ?_⟩
      rw [List.length_map] at hl hfl hrw s4
      have := Paired.length hT3.2
      rw [this, List.take_length] at hrw
      exact k as rws p3 H4 m2 w2 hmw ⟨rows1, rows2, hpr, htw, fs, sg, by omega, hql, hfs, hqs, hrw⟩ hN (by omega) e4 (s4.le (by omega))
-- DEF check_table

def sp_check_table (K : PySem.W.Frag) : Sp := fun vs H Q _ => ∃ (p : Addr) (as : List Addr) (rows : List (List Int)) (m w : Nat), vs = [.ref p] ∧ TabOk H p as rows m w ∧ ∀ H', Ex H H' → Q .non H'

theorem ok_check_table (T : Txt K mg) : FnOk P w K mg base CX0 4 T.f_check_table T.fd_check_table ["thing"] (sp_check_table K) := by
  refine Fun.ok T.F_check_table sc_check_table (fun vs H Q E h => ?_) (fun cdv A outer s H vs Q E hr h => ?_)
  · obtain ⟨_, _, _, _, _, rfl, _⟩ := h; rfl
  · refine ⟨_, (pss_one (ps_if (pt_not (pt_val (pe_call (ok_is_table T) hr (by rfl) T.g_is_table T.k_is_table T.b_is_table .nil pass0 (pa_cons (pv 0) pa_nil))))
        (pss_one ps_never)
        pss_nil)), ?_⟩
    obtain ⟨p, as, rows, m, w, rfl, hT, k⟩ := h
    exact ⟨_, rfl, p, as, rows, m, w, rfl, hT, fun H' e => ⟨true, rfl, iteF (k H' e)⟩⟩
-- DEF _law_net_drawn
theorem net_at {es qs : Gr.Edges} {i j : Nat} {f : Int × Int} (hi : i < es.length) (hj : qs[j]? = some f) : Dt.at_ (netT es qs) i j = sd es i f.1 - sd es i f.2 := by
  unfold Dt.at_ netT
  rw [List.getElem?_map, List.getElem?_range hi]
  show (List.map _ qs)[j]?.getD 0 = _
  rw [List.getElem?_map, hj]
  rfl
theorem sd_two (es : Gr.Edges) (i : Nat) (x : Int) : sd es i x = 0 ∨ sd es i x = 1 := by
  unfold sd
  split
  · exact .inr rfl
  · exact .inl rfl
theorem net_len (es qs : Gr.Edges) : (netT es qs).length = es.length := by unfold netT; rw [List.length_map, List.length_range]
theorem net_ok {es qs : Gr.Edges} {r : List Int} (hr : r ∈ netT es qs) : r.length = qs.length ∧ ∀ y ∈ r, y.natAbs ≤ 100 := by
  unfold netT at hr
  obtain ⟨i, _, rfl⟩ := List.mem_map.mp hr
  refine ⟨List.length_map .., fun y hy => ?_⟩
  obtain ⟨f, _, rfl⟩ := List.mem_map.mp hy
  rcases sd_two es i f.1 with a | a <;> rcases sd_two es i f.2 with b | b <;> rw [a, b] <;> decide
theorem conn_tree {es : Gr.Edges} {m : Nat} (hl : es.length = m) (h1 : 1 ≤ m) (h8 : m ≤ 8) (he : ∀ e ∈ es, 0 ≤ e.1 ∧ e.1 ≤ m ∧ 0 ≤ e.2 ∧ e.2 ≤ m) (hC : Conn es m) : Tree es := by
  refine ⟨by omega, by omega, fun e h => by rw [hl]; exact he e h, fun a ha b hb => ?_⟩
  rw [hl] at ha hb
  have ha := mem_numsTo.mp ha
  have hb := mem_numsTo.mp hb
  exact fun S hS => hC S hS a b (by omega) (by omega) (by omega) (by omega)
def pull (es : Gr.Edges) (rs : List Nat) (x : Nat → Int) (p : Int) : Int := (rs.map fun i => x i * sd es i p).sum
theorem pull_step {es : Gr.Edges} (T : Tree es) {x : Nat → Int} {k : Nat} {e : Int × Int} (hk : es[k]? = some e) : ∀ {rs : List Nat}, rs.Nodup → pull es rs x e.1 - pull es rs x e.2 = if k ∈ rs then x k else 0
  | [], _ => by rw [if_neg (fun h => nomatch h)]; rfl
  | a :: rs, nd => by
    have nd' := List.nodup_cons.mp nd
    have ih := pull_step T (x := x) hk nd'.2
    have un : ∀ p, pull es (a :: rs) x p = x a * sd es a p + pull es rs x p := fun p => by
      unfold pull
      rw [List.map_cons, List.sum_cons]
    rw [un, un]
    by_cases z : k = a
    · subst z
      rw [if_neg nd'.1] at ih
      rw [if_pos (.head _), Nl.sd_begin hk, Nl.sd_goal T hk]
      omega
    · rw [Nl.sd_other hk z]
      by_cases h : k ∈ rs
      · rw [if_pos (.tail _ h)]
        rw [if_pos h] at ih
        omega
      · rw [if_neg fun q => (List.mem_cons.mp q).elim z h]
        rw [if_neg h] at ih
        omega
/-- a net's table is unimodular -/
theorem net_uni {es qs : Gr.Edges} (T : Tree es) (hq : ∀ e ∈ qs, 0 ≤ e.1 ∧ e.1 ≤ es.length ∧ 0 ≤ e.2 ∧ e.2 ≤ es.length) : Tu.Uni (netT es qs) es.length qs.length := by
  refine Tu.signs_tu fun rs _ u hP => ?_
  have nd := Tu.up_nodup u
  let S : Int → Int := fun p => pull es rs (fun _ => 1) p % 2
  let x : Nat → Int := fun k => S (es[k]?.getD (0, 0)).1 - S (es[k]?.getD (0, 0)).2
  have same : ∀ e ∈ es, pull es rs x e.1 - S e.1 = pull es rs x e.2 - S e.2 := fun e he => by
    obtain ⟨k, hk⟩ := List.mem_iff_getElem?.mp he
    have h1 := pull_step T (x := x) hk nd
    have h2 := pull_step T (x := fun _ => 1) hk nd
    have xk : x k = S e.1 - S e.2 := by
      show S (es[k]?.getD (0, 0)).1 - S (es[k]?.getD (0, 0)).2 = _
      rw [hk]
      rfl
    by_cases h : k ∈ rs
    · rw [if_pos h] at h1
      omega
    · rw [if_neg h] at h1 h2
      have : S e.1 = S e.2 := by
        show pull es rs (fun _ => 1) e.1 % 2 = pull es rs (fun _ => 1) e.2 % 2
        omega
      omega
  refine ⟨x, fun k hk => ?_, fun j hj => ?_⟩
  · have hkl := hP k hk
    have hke : es[k]? = some es[k] := List.getElem?_eq_getElem hkl
    have h2 := pull_step T (x := fun _ => 1) hke nd
    rw [if_pos hk] at h2
    show S (es[k]?.getD (0, 0)).1 - S (es[k]?.getD (0, 0)).2 = 1 ∨ S (es[k]?.getD (0, 0)).1 - S (es[k]?.getD (0, 0)).2 = -1
    rw [hke]
    show pull es rs (fun _ => 1) es[k].1 % 2 - pull es rs (fun _ => 1) es[k].2 % 2 = 1 ∨ pull es rs (fun _ => 1) es[k].1 % 2 - pull es rs (fun _ => 1) es[k].2 % 2 = -1
    omega
  · have hf : qs[j]? = some qs[j] := List.getElem?_eq_getElem hj
    have hb := hq qs[j] (List.getElem_mem hj)
    have bd : ∀ x : Int, 0 ≤ x → x ≤ es.length → x ∈ numsTo (es.length + 1) := fun x x0 x1 => mem_numsTo.mpr (by omega)
    have sm : Gr.Same es qs[j].1 qs[j].2 := T.2.2.2 _ (bd _ hb.1 hb.2.1) _ (bd _ hb.2.2.1 hb.2.2.2)
    have al := Nl.alike (c := fun p => pull es rs x p - S p) same sm
    have al : pull es rs x qs[j].1 - S qs[j].1 = pull es rs x qs[j].2 - S qs[j].2 := al
    have val : ∀ l : List Nat, (∀ i ∈ l, i < es.length) → Tu.vs (Dt.at_ (netT es qs)) l x j = pull es l x qs[j].1 - pull es l x qs[j].2 := by
      intro l
      induction l with
      | nil => intro _; rfl
      | cons a l ih =>
        intro h
        have ih := ih fun i hi => h i (.tail _ hi)
        have e1 : Tu.vs (Dt.at_ (netT es qs)) (a :: l) x j = x a * Dt.at_ (netT es qs) a j + Tu.vs (Dt.at_ (netT es qs)) l x j := by
          unfold Tu.vs
          rw [List.map_cons, List.sum_cons]
        have un : ∀ p, pull es (a :: l) x p = x a * sd es a p + pull es l x p := fun p => by
          unfold pull
          rw [List.map_cons, List.sum_cons]
        rw [e1, ih, un, un, net_at (h a (.head _)) hf, Int.mul_sub]
        omega
    rw [val rs hP]
    have p1 : S qs[j].1 = pull es rs (fun _ => 1) qs[j].1 % 2 := rfl
    have p2 : S qs[j].2 = pull es rs (fun _ => 1) qs[j].2 % 2 := rfl
    omega

def sp__law_net_drawn (K : PySem.W.Frag) : Sp := fun vs H Q _ => ∃ (s : Addr) (n : Int) (m w : Nat), vs = [.ref s, .int m, .int w] ∧ SrcAt H s n ∧ n ≤ 300000000 ∧ 1 ≤ m ∧ m ≤ 8 ∧ 1 ≤ w ∧ w ≤ 8 ∧
  ∀ (rs : List Addr) (rows : List (List Int)) (p : Addr) (H' : Hp), NewTab H H' p rs rows w 100 → rows.length = m → Tu.Uni rows m w → ExB s H H' → SrcAt H' s (n + 400) → Q (.ref p) H'

theorem ok__law_net_drawn (T : Txt K mg) : FnOk P w K mg base CX0 4 T.f__law_net_drawn T.fd__law_net_drawn ["_law_source", "_law_many", "_law_wide"] (sp__law_net_drawn K) := by
  refine Fun.ok T.F__law_net_drawn sc__law_net_drawn (fun vs H Q E h => ?_) (fun cdv A outer s H vs Q E hr h => ?_)
  · obtain ⟨_, _, _, _, rfl, _⟩ := h; rfl
  · refine ⟨_, (pss_cons (ps_setLc (i := 3) (own := [("_law_k", 4)]) (g := gName 4) (tt := tYes) rfl sc__law_net_drawn.nd rfl rfl (sw_true rfl rfl rfl (by decide +kernel)) (pi_range1 (by rfl) T.n_range (pa_cons (pv 2) pa_nil)) (blkOk_by (N := ["_law_source", "_law_many", "_law_wide", "_law_arcs", "_law_k"]) (sc := (defScope s__law_net_drawn)) (by decide +kernel)) (fun _ _ _ _ _ => pg_name (i := 4) sc__law_net_drawn.nd rfl (Or.inl rfl)) (fun _ _ _ _ _ => pts_nil) (fun _ _ _ _ _ => (pe_tup (pa_cons (pe_call (ok__law_next T) (hr.mono (by decide)) (by rfl) T.g__law_next T.k__law_next T.b__law_next .nil pass0 (pa_cons (pv 0) (pa_cons (pe_op op_add (pv 1) pe_int) pa_nil))) (pa_cons (pe_call (ok__law_next T) (hr.mono (by decide)) (by rfl) T.g__law_next T.k__law_next T.b__law_next .nil pass0 (pa_cons (pv 0) (pa_cons (pe_op op_add (pv 1) pe_int) pa_nil))) pa_nil)))))
      (pss_one (ps_ret (pe_call (ok__law_net T) (hr.mono (by decide)) (by rfl) T.g__law_net T.k__law_net T.b__law_net .nil pass0 (pa_cons (pe_call (ok__law_ends T) hr (by rfl) T.g__law_ends T.k__law_ends T.b__law_ends .nil pass0 (pa_cons (pv 0) (pa_cons (pv 1) pa_nil))) (pa_cons (pv 3) pa_nil)))))), ?_⟩
    obtain ⟨s, n, m, w, rfl, hs, hn, hm1, hm8, hw1, hw8, k⟩ := h
    refine ⟨_, rfl, _, rfl, by omega, by omega, fun D hD => ?_⟩
    have hDs : D ≠ s := hs.ne hD
    refine lc_range (lo := 0) (n := (w : Int).toNat) (fun i H' => ∃ (bs : List Addr) (qs : List (Int × Int)), H' D = some (.lst (bs.map V.ref)) ∧ EdgesAt H' bs qs ∧ qs.length = i ∧ ExB s H H' ∧ SrcAt H' s (n + 2 * i) ∧ ∀ e ∈ qs, 0 ≤ e.1 ∧ e.1 ≤ (m : Int) ∧ 0 ≤ e.2 ∧ e.2 ≤ (m : Int))
      ⟨[], [], upd_same, .nil, rfl, ExB.of (Ex.new hD), (hs.ex (Ex.new hD)).le (by omega), fun e he => by simp at he⟩ (fun i H1 hi p => ?_) (fun H1 p => ?_)
    · obtain ⟨bs, qs, h1, h2, h3, h4, h5, h6⟩ := p
      have bm : Bd 8000 ((m : Int) + 1) := by
        unfold Bd
        exact Nat.lt_of_lt_of_le (show ((m : Int) + 1).natAbs < 1024 by omega) (by decide +kernel)
      refine ⟨rfl, ?_⟩
      refine ⟨_, rfl, _, rfl, _, _, rfl, rfl, s, _, _, rfl, h5, by omega, by omega, bm, fun f H2 f0 f1 e2 s2 => ?_⟩
      refine ⟨_, rfl, _, rfl, _, _, rfl, rfl, s, _, _, rfl, s2, by omega, by omega, bm, fun g H3 g0 gl e3 s3 => ?_⟩
      refine ⟨(by show 2 ≤ sizeLine; decide), fun t nt => ?_⟩
      have xt : Ex H3 (upd H3 t (.tup [.int f, .int g])) := Ex.new nt
      have e13 := e2.trans e3
      have hD3 := e13 _ _ hDs h1
      have el : bs.length = i := by rw [Paired.length h2, h3]
      refine ⟨_, xt _ _ hD3, small1000 (by rw [List.length_map]; omega), bs ++ [t], qs ++ [(f, g)], ?_, ?_, ?_, ?_, ?_, ?_⟩
      · rw [upd_same, List.map_append]
        rfl
      · exact paired_imp (fun c d h => tups_U (xt _ _ hD3) _ _ h) (paired_snoc (EdgesAt.mono (fun c xs h => xt _ _ (tups_B h5 e13 _ _ h)) h2) (upd_same : upd H3 t (.tup [.int f, .int g]) t = some (.tup [.int f, .int g])))
      · rw [List.length_append, h3]
        rfl
      · refine fun b o nb h => ?_
        rw [upd_ne (ne_of_none h hD)]
        exact xt _ _ (e13 _ _ nb (h4 _ _ nb h))
      · obtain ⟨a1, a2, a3, a4, a5, a6, a7, a8⟩ := s3.ex xt
        exact ⟨a1, a2, a3, by rw [upd_ne hDs.symm]; exact a4, a5, a6, a7, by omega⟩
      · intro e he
        rcases List.mem_append.mp he with q | q
        · exact h6 e q
        · have : e = (f, g) := by simpa using q
          rw [this]
          exact ⟨f0, by omega, g0, by omega⟩
    · obtain ⟨bs, qs, h1, h2, h3, h4, h5, h6⟩ := p
      have h3' : qs.length = w := by rw [h3]; omega
      refine ⟨_, rfl, _, rfl, s, _, _, rfl, h5, by omega, by omega, by omega, fun as es p H2 l2 b2 c2 d2 e2 f2 g2' s2 => ?_⟩
      have l2' : es.length = m := by omega
      have T := conn_tree l2' hm1 hm8 b2 c2
      refine ⟨_, rfl, p, D, as, bs, es, qs, m, rfl, l2', e2, d2, g2' _ _ hDs h1, EdgesAt.mono (tups_B h5 g2') h2, by omega, T, h6, fun rs p' H3 x1 x2 x3 x4 x5 x6 => ?_⟩
      have nt : NewTab H2 H3 p' rs (netT es qs) w 100 := ⟨x1, x2, x3, x4, x6, fun r hr => by rw [← h3']; exact net_ok hr⟩
      have u := net_uni (qs := qs) T (by rw [l2']; exact h6)
      rw [l2', h3'] at u
      exact k rs _ p' H3 (nt.back (h4.trans g2') s2.obj) (by rw [net_len]; omega) u ((h4.trans g2').trans (ExB.of x5)) ((s2.ex x5).le (by omega))
-- DEF _law_table

def sp__law_table (K : PySem.W.Frag) : Sp := fun vs H Q _ => ∃ (s : Addr) (n : Int) (most : Nat), vs = [.ref s, .int most] ∧ SrcAt H s n ∧ n ≤ 100000000 ∧ 1 ≤ most ∧ most ≤ 8 ∧
  ∀ (rs : List Addr) (rows : List (List Int)) (p : Addr) (H' : Hp) (m w : Nat), 1 ≤ m → m ≤ most → 1 ≤ w → w ≤ most → NewTab H H' p rs rows w (10 ^ 30) → rows.length = m → ExB s H H' → SrcAt H' s (n + 1000) → Q (.ref p) H'

theorem ok__law_table (T : Txt K mg) : FnOk P w K mg base CX0 5 T.f__law_table T.fd__law_table ["_law_source", "_law_most"] (sp__law_table K) := by
  refine Fun.ok T.F__law_table sc__law_table (fun vs H Q E h => ?_) (fun cdv A outer s H vs Q E hr h => ?_)
  · obtain ⟨_, _, _, rfl, _⟩ := h; rfl
  · refine ⟨_, (pss_cut (ps_set (i := 2) sc__law_table.nd rfl (by first | exact Or.inl rfl | exact Or.inr rfl) (pe_op op_add pe_int (pe_call (ok__law_next T) (hr.mono (by decide)) (by rfl) T.g__law_next T.k__law_next T.b__law_next .nil pass0 (pa_cons (pv 0) (pa_cons (pv 1) pa_nil)))))
      (pss_cut (ps_set (i := 3) sc__law_table.nd rfl (by first | exact Or.inl rfl | exact Or.inr rfl) (pe_op op_add pe_int (pe_call (ok__law_next T) (hr.mono (by decide)) (by rfl) T.g__law_next T.k__law_next T.b__law_next .nil pass0 (pa_cons (pv 0) (pa_cons (pv 1) pa_nil)))))
      (pss_cut (ps_set (i := 4) sc__law_table.nd rfl (by first | exact Or.inl rfl | exact Or.inr rfl) (pe_call (ok__law_next T) (hr.mono (by decide)) (by rfl) T.g__law_next T.k__law_next T.b__law_next .nil pass0 (pa_cons (pv 0) (pa_cons pe_int pa_nil))))
      (pss_cut (ps_if (pt_cmpR op_lt (pv 4) pe_int (nomark _))
        (pss_one (ps_setLc (i := 5) (own := [("_law_row", 7)]) (g := gName 7) (tt := tYes) rfl sc__law_table.nd rfl rfl (sw_true rfl rfl rfl (by decide +kernel)) (pi_range1 (by rfl) T.n_range (pa_cons (pv 2) pa_nil)) (blkOk_by (N := ["_law_source", "_law_most", "_law_many", "_law_wide", "_law_kind", "_law_table_here", "_law_k", "_law_row"]) (sc := (defScope s__law_table)) (by decide +kernel)) (fun _ _ _ _ _ => pg_name (i := 7) sc__law_table.nd rfl (Or.inl rfl)) (fun _ _ _ _ _ => pts_nil) (fun _ _ _ _ _ => (pe_lc (own := [("_law_k", 6)]) (g := gName 6) (tt := tYes) rfl sc__law_table.nd (pi_range1 (by rfl) T.n_range (pa_cons (pv 3) pa_nil)) (blkOk_by (N := ["_law_source", "_law_most", "_law_many", "_law_wide", "_law_kind", "_law_table_here", "_law_k", "_law_row"]) (sc := (relS ({ kind := .function, names := [(".0", .local), ("_law_row", .local), ("range", .globalImplicit), ("_law_source", .free), ("_law_wide", .free)], isGenerator := false, isCoroutine := false } : Scope) (defScope s__law_table))) (by decide +kernel)) (fun _ _ _ _ _ => pg_name (i := 6) sc__law_table.nd rfl (Or.inl rfl)) (fun _ _ _ _ _ => pts_nil) (fun _ _ _ _ _ => (pe_op op_sub (pe_call (ok__law_next T) (hr.mono (by decide)) (by rfl) T.g__law_next T.k__law_next T.b__law_next .nil pass0 (pa_cons (pv 0) (pa_cons pe_int pa_nil))) pe_int))))))
        (pss_one (ps_if (pt_cmpR op_lt (pv 4) pe_int (nomark _))
            (pss_one (ps_set (i := 5) sc__law_table.nd rfl (by first | exact Or.inl rfl | exact Or.inr rfl) (pe_call (ok__law_net_drawn T) hr (by rfl) T.g__law_net_drawn T.k__law_net_drawn T.b__law_net_drawn .nil pass0 (pa_cons (pv 0) (pa_cons (pv 2) (pa_cons (pv 3) pa_nil))))))
            (pss_one (ps_set (i := 5) sc__law_table.nd rfl (by first | exact Or.inl rfl | exact Or.inr rfl) (pe_call (ok__law_stretches T) (hr.mono (by decide)) (by rfl) T.g__law_stretches T.k__law_stretches T.b__law_stretches .nil pass0 (pa_cons (pv 0) (pa_cons (pv 2) (pa_cons (pv 3) pa_nil)))))))))
      (pss_cut (ps_if (pt_cmpR op_eq (pe_call (ok__law_next T) (hr.mono (by decide)) (by rfl) T.g__law_next T.k__law_next T.b__law_next .nil pass0 (pa_cons (pv 0) (pa_cons pe_int pa_nil))) pe_int (nomark _))
        (pss_one (ps_set (i := 5) sc__law_table.nd rfl (by first | exact Or.inl rfl | exact Or.inr rfl) (pe_call (ok__law_swung T) (hr.mono (by decide)) (by rfl) T.g__law_swung T.k__law_swung T.b__law_swung .nil pass0 (pa_cons (pv 0) (pa_cons (pv 5) pa_nil)))))
        pss_nil)
      (pss_cons (ps_for PassesOwn.never rfl (pi_range1 (by rfl) T.n_range (pa_cons (pe_call (ok__law_one T) (hr.mono (by decide)) (by rfl) T.g__law_one T.k__law_one T.b__law_one .nil pass0 (pa_cons (pv 0) (pa_cons (pe_lst (pa_cons pe_int (pa_cons pe_int (pa_cons pe_int (pa_cons pe_int pa_nil))))) pa_nil))) pa_nil)) (pg_name (i := 6) sc__law_table.nd rfl (by first | exact Or.inl rfl | exact Or.inr rfl))
        (pss_cut (ps_set (i := 7) sc__law_table.nd rfl (by first | exact Or.inl rfl | exact Or.inr rfl) (pe_ix (r := rIxL K) ix_list (pv 5) (pe_call (ok__law_next T) (hr.mono (by decide)) (by rfl) T.g__law_next T.k__law_next T.b__law_next .nil pass0 (pa_cons (pv 0) (pa_cons (pe_callB (id := "len") (r := rLenS K) call_len_seq (by rfl) T.n_len PySem.boot_len (pa_cons (pv 5) pa_nil)) pa_nil))) (fun _ _ => rfl)))
          (pss_one (ps_asg (pe_call (ok__law_one T) (hr.mono (by decide)) (by rfl) T.g__law_one T.k__law_one T.b__law_one .nil pass0 (pa_cons (pv 0) (pa_cons (pe_lst (pa_cons pe_int (pa_cons (pe_un un_neg pe_int) (pa_cons pe_int (pa_cons pe_int (pa_cons (pe_un un_neg pe_int) (pa_cons pe_int (pa_cons pe_int (pa_cons (pe_un un_neg pe_int) (pa_cons (pe_op op_pow pe_int pe_int) pa_nil)))))))))) pa_nil))) (pg_sub (pv 7) (pe_call (ok__law_next T) (hr.mono (by decide)) (by rfl) T.g__law_next T.k__law_next T.b__law_next .nil pass0 (pa_cons (pv 0) (pa_cons (pe_callB (id := "len") (r := rLenS K) call_len_seq (by rfl) T.n_len PySem.boot_len (pa_cons (pv 7) pa_nil)) pa_nil))) set_list)))))
      (pss_one (ps_ret (pv 5))))))))), ?_⟩
    obtain ⟨s, n, most, rfl, hs, hn, hm1, hm8, k⟩ := h
    have bmost : Bd 8000 (most : Int) := by
      unfold Bd
      exact Nat.lt_of_lt_of_le (show ((most : Int)).natAbs < 1024 by omega) (by decide +kernel)
    -- many, wide, kind
    refine ⟨fun σ' H1 => ∃ m : Nat, σ' = [some (.ref s), some (.int most), some (.int m), none, none, none, none, none] ∧ 1 ≤ m ∧ m ≤ most ∧ ExB s H H1 ∧ SrcAt H1 s (n + 1), ?_, ?_⟩
    · refine ⟨_, rfl, _, rfl, s, _, n, rfl, hs, by omega, by omega, bmost, fun f H1 f0 f1 e1 s1 => ⟨_, _, rfl, rfl, (1 + f).toNat, ?_, by omega, by omega, e1, s1⟩⟩
      have : (((1 + f).toNat : Nat) : Int) = 1 + f := by omega
      rw [this]
      rfl
    rintro σ' H1 ⟨m, rfl, m1, m2, e1, s1⟩
    refine ⟨fun σ' H2 => ∃ w : Nat, σ' = [some (.ref s), some (.int most), some (.int m), some (.int w), none, none, none, none] ∧ 1 ≤ w ∧ w ≤ most ∧ ExB s H H2 ∧ SrcAt H2 s (n + 2), ?_, ?_⟩
    · refine ⟨_, rfl, _, rfl, s, _, _, rfl, s1, by omega, by omega, bmost, fun f H2 f0 f1 e2 s2 => ⟨_, _, rfl, rfl, (1 + f).toNat, ?_, by omega, by omega, e1.trans e2, s2.le (by omega)⟩⟩
      have : (((1 + f).toNat : Nat) : Int) = 1 + f := by omega
      rw [this]
      rfl
    rintro σ' H2 ⟨w, rfl, w1, w2, e2, s2⟩
    refine ⟨fun σ' H3 => ∃ f : Int, σ' = [some (.ref s), some (.int most), some (.int m), some (.int w), some (.int f), none, none, none] ∧ ExB s H H3 ∧ SrcAt H3 s (n + 3), ?_, ?_⟩
    · exact ⟨_, rfl, s, 8, _, rfl, s2, by omega, by decide, (by unfold Bd; decide +kernel), fun f H3 f0 f1 e3 s3 => ⟨f, rfl, e2.trans e3, s3.le (by omega)⟩⟩
    rintro σ' H3 ⟨f, rfl, e3, s3⟩
    clear e1 s1 e2 s2
    -- the table
    refine ⟨fun σ' H4 => ∃ (y6 y7 : Option V) (p : Addr) (as : List Addr) (rows : List (List Int)), σ' = [some (.ref s), some (.int most), some (.int m), some (.int w), some (.int f), some (.ref p), y6, y7] ∧ NewTab H H4 p as rows w 100 ∧ rows.length = m ∧ ExB s H H4 ∧ SrcAt H4 s (n + 403), ?_, ?_⟩
    · refine ⟨_, rfl, _, _, rfl, rfl, _, rfl, ?_⟩
      refine ite2 (fun _ => ?_) (fun _ => ?_)
      · -- drawn
        refine ⟨_, rfl, _, rfl, by omega, by omega, fun D hD => ?_⟩
        have hDs : D ≠ s := s3.ne hD
        have hDH : H D = none := fresh_B e3 hD s3.obj
        refine lc_range (lo := 0) (n := (m : Int).toNat) (fun i H' => ∃ as rows, NewTab H H' D as rows w 100 ∧ rows.length = i ∧ ExB s H H' ∧ SrcAt H' s (n + 3 + 10 * i)) ⟨[], [], NewTab.new hDH upd_same, rfl, e3.trans (ExB.of (Ex.new hD)), (s3.ex (Ex.new hD)).le (by omega)⟩ (fun i H4 hi p => ?_) (fun H4 p => ?_)
        · obtain ⟨as, rows, hN, hl, e4, s4⟩ := p
          have al : as.length = i := by rw [Paired.length hN.tab.2, hl]
          refine ⟨rfl, ?_⟩
          dsimp only [tYes]
          rw [if_pos rfl]
          refine lc_draw (s := s) (n := n + 3 + 10 * i) (m := w) (fun x => x.natAbs ≤ 100) (ea_cons (ev_var rfl) ea_nil) (by omega) s4 (fun u => rfl) (fun j H5 e5 hj s5 Q1 kq => ?_) (fun r ns H5 nr e5 s5 hr hln hP => ?_)
          · exact ⟨_, rfl, s, 3, _, rfl, s5, by omega, by decide, (by unfold Bd; decide +kernel), fun g H6 g0 g1 e6 s6 => ⟨_, _, rfl, rfl, kq (g - 1) H6 (by omega) e6 s6⟩⟩
          · have N5 := hN.exB e5 hs.obj
            have nr0 : H r = none := fresh_B e4 nr s4.obj
            have nrD : r ≠ D := fun z => by
              rw [z, hN.tab.1] at nr
              cases nr
            have nra : r ∉ as := fun ha => by
              obtain ⟨x, _, hx⟩ := paired_mem hN.tab.2 ha
              rw [nr] at hx
              cases hx
            refine ⟨_, N5.tab.1, small1000 (by rw [List.length_map]; omega), as ++ [r], rows ++ [ns], ?_, ?_, ?_, ?_⟩
            · refine ⟨hDH, fun a ha => ?_, ?_, ?_, ⟨?_, ?_⟩, fun x hx => ?_⟩
              · rcases List.mem_append.mp ha with q | q
                · exact hN.a0 a q
                · rw [show a = r by simpa using q]
                  exact nr0
              · refine List.nodup_append.mpr ⟨hN.nd, by simp, fun a ha b hb z => ?_⟩
                have : b = r := by simpa using hb
                exact nra (by rw [← this, ← z]; exact ha)
              · intro ha
                rcases List.mem_append.mp ha with q | q
                · exact hN.np q
                · exact nrD (by simpa using q : D = r).symm
              · rw [upd_same, List.map_append]
                rfl
              · refine paired_snoc (rows_but N5.tab.2 fun a ha o g => ?_) ?_
                · rw [upd_ne (fun z => hN.np (by rw [← z]; exact ha))]
                  exact g
                · rw [upd_ne nrD]
                  exact hr
              · rcases List.mem_append.mp hx with q | q
                · exact hN.ok x q
                · rw [show x = ns by simpa using q]
                  exact ⟨hln, hP⟩
            · rw [List.length_append, hl]
              rfl
            · refine fun b o nb h => ?_
              rw [upd_ne (ne_of_none h hDH)]
              exact e5 _ _ nb (e4 _ _ nb h)
            · obtain ⟨a1, a2, a3, a4, a5, a6, a7, a8⟩ := s5
              exact ⟨a1, a2, a3, by rw [upd_ne hDs.symm]; exact a4, a5, a6, a7, by omega⟩
        · obtain ⟨as, rows, hN, hl, e4, s4⟩ := p
          exact ⟨_, _, D, as, rows, rfl, hN, by omega, e4, s4.le (by omega)⟩
      · refine ⟨_, rfl, _, _, rfl, rfl, _, rfl, ?_⟩
        refine ite2 (fun _ => ?_) (fun _ => ?_)
        · refine ⟨_, rfl, _, rfl, _, rfl, s, _, m, w, rfl, s3, by omega, by omega, by omega, by omega, by omega, fun rs rows p H4 hN hl _ e4 s4 => ?_⟩
          exact ⟨_, _, p, rs, rows, rfl, hN.back e3 s3.obj, hl, e3.trans e4, s4.le (by omega)⟩
        · refine ⟨_, rfl, _, rfl, _, rfl, s, _, m, w, rfl, s3, by omega, by omega, by omega, by omega, by omega, fun rs rows p H4 hN hl _ e4 s4 => ?_⟩
          exact ⟨_, _, p, rs, rows, rfl, hN.back e3 s3.obj, hl, e3.trans e4, s4.le (by omega)⟩
    rintro σ' H4 ⟨y6, y7, p, as, rows, rfl, hN, hl, e4, s4⟩
    -- perhaps swung
    have nin : ∀ {a : Addr}, H a = none → a ≠ s := fun h => hs.ne h
    refine ⟨fun σ' H5 => ∃ (p : Addr) (as : List Addr) (rows : List (List Int)) (m' w' : Nat), σ' = [some (.ref s), some (.int most), some (.int m), some (.int w), some (.int f), some (.ref p), y6, y7] ∧ 1 ≤ m' ∧ m' ≤ most ∧ 1 ≤ w' ∧ w' ≤ most ∧ NewTab H H5 p as rows w' 100 ∧ rows.length = m' ∧ ExB s H H5 ∧ SrcAt H5 s (n + 604), ?_, ?_⟩
    · refine ⟨_, rfl, s, 2, _, rfl, s4, by omega, by decide, (by unfold Bd; decide +kernel), fun g H5 g0 g1 e5 s5 => ⟨rfl, _, rfl, ?_⟩⟩
      have N5 := hN.exB e5 hs.obj
      refine ite2 (fun _ => ?_) (fun _ => ?_)
      · refine ⟨_, rfl, _, rfl, s, p, _, as, rows, m, w, 100, rfl, s5, by omega, nin hN.p0, fun a ha => nin (hN.a0 a ha), N5.tab, hl, hN.ok, by decide, by omega, by omega, by omega, by omega, fun rs rows' p' H6 m' w' hmw _ hN' hl' e6 s6 => ?_⟩
        refine ⟨p', rs, rows', m', w', rfl, ?_, ?_, ?_, ?_, hN'.back (e4.trans e5) s5.obj, hl', (e4.trans e5).trans e6, s6.le (by omega)⟩ <;> rcases hmw with ⟨rfl, rfl⟩ | ⟨rfl, rfl⟩ <;> omega
      · exact ⟨p, as, rows, m, w, rfl, m1, m2, w1, w2, N5, hl, e4.trans e5, s5.le (by omega)⟩
    rintro σ' H5 ⟨p, as, rows, m', w', rfl, m1', m2', w1', w2', hN5, hl5, e5, s5⟩
    clear hN hl e4 s4
    have hN5 := hN5.mono (show 100 ≤ 10 ^ 30 by decide)
    -- other entries
    refine ⟨_, rfl, (by show 4 ≤ sizeLine; decide), fun l nl => ?_⟩
    have xl : Ex H5 (upd H5 l (.lst [.int 0, .int 0, .int 1, .int 2])) := Ex.new nl
    refine ⟨s, l, _, _, rfl, s5.ex xl, by omega, s5.ne nl, SqL.of upd_same, by decide, Nat.le_of_ble_eq_true rfl, fun v hv H6 e6 s6 => ?_⟩
    obtain ⟨c, rfl, hc0, hc2⟩ : ∃ c : Int, v = .int c ∧ 0 ≤ c ∧ c ≤ 2 := by
      simp only [List.mem_cons, List.not_mem_nil, or_false] at hv
      rcases hv with rfl | rfl | rfl | rfl
      · exact ⟨0, rfl, by decide, by decide⟩
      · exact ⟨0, rfl, by decide, by decide⟩
      · exact ⟨1, rfl, by decide, by decide⟩
      · exact ⟨2, rfl, by decide, by decide⟩
    have N6 := (hN5.ex xl).exB e6 hs.obj
    have e06 := (e5.trans (ExB.of xl)).trans e6
    clear xl nl
    refine ⟨_, rfl, by omega, by omega, for_range (lo := 0) (n := c.toNat) (fun i σ H' => ∃ (y6 y7 : Option V) (rows : List (List Int)), σ = [some (.ref s), some (.int most), some (.int m), some (.int w), some (.int f), some (.ref p), y6, y7] ∧ NewTab H H' p as rows w' (10 ^ 30) ∧ rows.length = m' ∧ ExB s H H' ∧ SrcAt H' s (n + 605 + 3 * i)) ⟨_, _, rows, rfl, N6, hl5, e06, s6.le (by omega)⟩ ?_ ?_⟩
    · rintro i σ H7 hi ⟨z6, z7, rows7, rfl, hN7, hl7, e7, s7⟩
      have al : as.length = m' := by rw [Paired.length hN7.tab.2, hl7]
      have i2 : i < 2 := by omega
      refine ⟨fun σ' H8 => ∃ (kk : Nat) (x : Addr) (row : List Int), σ' = [some (.ref s), some (.int most), some (.int m), some (.int w), some (.int f), some (.ref p), some (.int (0 + (i : Int))), some (.ref x)] ∧ as[kk]? = some x ∧ rows7[kk]? = some row ∧ ExB s H7 H8 ∧ SrcAt H8 s (n + 605 + 3 * i + 1), ?_, ?_⟩
      · refine ⟨_, rfl, _, rfl, _, rfl, p, _, rfl, .inl (SqL.of hN7.tab.1), s, _, _, rfl, s7, by omega, (by rw [List.length_map]; omega), ?_, fun g H8 g0 g1 e8 s8 => ?_⟩
        · unfold Bd
          exact Nat.lt_of_lt_of_le (show (((as.map V.ref).length : Nat) : Int).natAbs < 1024 by rw [List.length_map]; omega) (by decide +kernel)
        · rw [List.length_map] at g1
          obtain ⟨x, hx⟩ : ∃ x, as[g.toNat]? = some x := ⟨_, List.getElem?_eq_getElem (by omega)⟩
          obtain ⟨row, hrow, _⟩ := paired_get hN7.tab.2 hx
          have N8 := hN7.exB e8 hs.obj
          exact ⟨p, _, _, _, rfl, rfl, SqL.of N8.tab.1, at_of (j := g.toNat) (by omega) (by rw [List.getElem?_map, hx]; rfl), g.toNat, x, row, rfl, hx, hrow, e8, s8⟩
      rintro σ' H8 ⟨kk, x, row, rfl, hx, hrow, e8, s8⟩
      have N8 := hN7.exB e8 hs.obj
      have nxs : x ≠ s := nin (hN7.a0 x (List.mem_of_getElem? hx))
      have o := hN7.ok row (List.mem_of_getElem? hrow)
      have hxr : H8 x = some (.lst (row.map V.int)) := by
        obtain ⟨r', hr', hh⟩ := paired_get N8.tab.2 hx
        rw [hrow] at hr'
        rw [Option.some.inj hr']
        exact hh
      refine ⟨_, rfl, _, rfl, _, rfl, _, rfl, _, _, rfl, rfl, ⟨by decide, by decide, by decide⟩, (by show 9 ≤ sizeLine; decide), fun l nl => ?_⟩
      have xl : Ex H8 (upd H8 l (.lst [.int 1, .int (-1), .int 0, .int 1, .int (-1), .int 0, .int 2, .int (-3), .int (10 ^ (30 : Int).toNat)])) := Ex.new nl
      refine ⟨s, l, _, _, rfl, s8.ex xl, by omega, s8.ne nl, SqL.of upd_same, by decide, Nat.le_of_ble_eq_true rfl, fun v hv H9 e9 s9 => ?_⟩
      obtain ⟨y, rfl, hy⟩ : ∃ y : Int, v = .int y ∧ y.natAbs ≤ 10 ^ 30 := by
        simp only [List.mem_cons, List.not_mem_nil, or_false] at hv
        rcases hv with rfl | rfl | rfl | rfl | rfl | rfl | rfl | rfl | rfl <;> exact ⟨_, rfl, by decide +kernel⟩
      have x9 := e9 _ _ nxs (xl _ _ hxr)
      refine ⟨_, rfl, _, rfl, _, rfl, x, _, rfl, .inl (SqL.of x9), s, _, _, rfl, s9, by omega, (by rw [List.length_map, o.1]; omega), ?_, fun g HA g0 g1 eA sA => ?_⟩
      · unfold Bd
        exact Nat.lt_of_lt_of_le (show (((row.map V.int).length : Nat) : Int).natAbs < 1024 by rw [List.length_map, o.1]; omega) (by decide +kernel)
      · rw [List.length_map] at g1
        have e8A := (e8.trans (ExB.of xl)).trans (e9.trans eA)
        have NA := hN7.exB e8A hs.obj
        have ix : ixN (row.map V.int).length g = some g.toNat := by
          have := Evl.ixN_nat (n := (row.map V.int).length) (j := g.toNat) (by rw [List.length_map]; omega)
          rw [← this]
          congr 1
          omega
        refine ⟨x, _, g, g.toNat, rfl, rfl, eA _ _ nxs x9, ix, ?_⟩
        refine ⟨_, _, rows7.set kk (row.set g.toNat y), rfl, NA.set hx hrow hy, by rw [List.length_set]; exact hl7, ?_, ?_⟩
        · refine fun b o' nb h => ?_
          rw [upd_ne (ne_of_none h (hN7.a0 x (List.mem_of_getElem? hx)))]
          exact e8A _ _ nb (e7 _ _ nb h)
        · obtain ⟨a1, a2, a3, a4, a5, a6, a7, a8⟩ := sA
          exact ⟨a1, a2, a3, by rw [upd_ne nxs.symm]; exact a4, a5, a6, a7, by omega⟩
    · rintro σ H7 ⟨z6, z7, rows7, rfl, hN7, hl7, e7, s7⟩
      refine ⟨_, rfl, ?_⟩
      exact k as rows7 p H7 m' w' m1' m2' w1' w2' hN7 hl7 e7 (s7.le (by omega))
-- DEF _law_whole_table

def sp__law_whole_table (K : PySem.W.Frag) : Sp := fun vs H Q _ => ∃ (s : Addr) (n : Int) (most : Nat), vs = [.ref s, .int most] ∧ SrcAt H s n ∧ n ≤ 100000000 ∧ 1 ≤ most ∧ most ≤ 8 ∧
  ∀ (rs : List Addr) (rows : List (List Int)) (p : Addr) (H' : Hp) (m w : Nat), 1 ≤ m → m ≤ most → 1 ≤ w → w ≤ most → NewTab H H' p rs rows w 100 → rows.length = m → Tu.Uni rows m w → ExB s H H' → SrcAt H' s (n + 1200) → Q (.ref p) H'

theorem ok__law_whole_table (T : Txt K mg) : FnOk P w K mg base CX0 5 T.f__law_whole_table T.fd__law_whole_table ["_law_source", "_law_most"] (sp__law_whole_table K) := by
  refine Fun.ok T.F__law_whole_table sc__law_whole_table (fun vs H Q E h => ?_) (fun cdv A outer s H vs Q E hr h => ?_)
  · obtain ⟨_, _, _, rfl, _⟩ := h; rfl
  · refine ⟨_, (pss_cut (ps_set (i := 2) sc__law_whole_table.nd rfl (by first | exact Or.inl rfl | exact Or.inr rfl) (pe_op op_add pe_int (pe_call (ok__law_next T) (hr.mono (by decide)) (by rfl) T.g__law_next T.k__law_next T.b__law_next .nil pass0 (pa_cons (pv 0) (pa_cons (pv 1) pa_nil)))))
      (pss_cut (ps_set (i := 3) sc__law_whole_table.nd rfl (by first | exact Or.inl rfl | exact Or.inr rfl) (pe_op op_add pe_int (pe_call (ok__law_next T) (hr.mono (by decide)) (by rfl) T.g__law_next T.k__law_next T.b__law_next .nil pass0 (pa_cons (pv 0) (pa_cons (pv 1) pa_nil)))))
      (pss_cut (ps_set (i := 4) sc__law_whole_table.nd rfl (by first | exact Or.inl rfl | exact Or.inr rfl) (pe_ix (r := rIxL K) ix_list (pe_lst (pa_cons (pe_call (ok__law_net_drawn T) hr (by rfl) T.g__law_net_drawn T.k__law_net_drawn T.b__law_net_drawn .nil pass0 (pa_cons (pv 0) (pa_cons (pv 2) (pa_cons (pv 3) pa_nil)))) (pa_cons (pe_call (ok__law_stretches T) (hr.mono (by decide)) (by rfl) T.g__law_stretches T.k__law_stretches T.b__law_stretches .nil pass0 (pa_cons (pv 0) (pa_cons (pv 2) (pa_cons (pv 3) pa_nil)))) pa_nil))) (pe_call (ok__law_next T) (hr.mono (by decide)) (by rfl) T.g__law_next T.k__law_next T.b__law_next .nil pass0 (pa_cons (pv 0) (pa_cons pe_int pa_nil))) (fun _ _ => rfl)))
      (pss_one (ps_ret (pe_call (ok__law_swung T) (hr.mono (by decide)) (by rfl) T.g__law_swung T.k__law_swung T.b__law_swung .nil pass0 (pa_cons (pv 0) (pa_cons (pv 4) pa_nil)))))))), ?_⟩
    obtain ⟨s, n, most, rfl, hs, hn, hm1, hm8, k⟩ := h
    have bm : Bd 8000 (most : Int) := by
      unfold Bd
      exact Nat.lt_of_lt_of_le (show ((most : Int)).natAbs < 1024 by omega) (by decide +kernel)
    refine ⟨fun σ' H' => ∃ a : Nat, σ' = [some (.ref s), some (.int most), some (.int a), none, none] ∧ 1 ≤ a ∧ a ≤ most ∧ ExB s H H' ∧ SrcAt H' s (n + 1), ?_, ?_⟩
    · refine ⟨_, rfl, _, rfl, s, _, _, rfl, hs, by omega, by omega, bm, fun f H1 f0 f1 e1 s1 => ?_⟩
      exact ⟨_, _, rfl, rfl, (1 + f).toNat, by rw [show (((1 + f).toNat : Nat) : Int) = 1 + f by omega]; rfl, by omega, by omega, e1, s1⟩
    rintro _ H1 ⟨a, rfl, a1, am, e1, s1⟩
    refine ⟨fun σ' H' => ∃ b : Nat, σ' = [some (.ref s), some (.int most), some (.int a), some (.int b), none] ∧ 1 ≤ b ∧ b ≤ most ∧ ExB s H H' ∧ SrcAt H' s (n + 1 + 1), ?_, ?_⟩
    · refine ⟨_, rfl, _, rfl, s, _, _, rfl, s1, by omega, by omega, bm, fun f H2 f0 f1 e2 s2 => ?_⟩
      exact ⟨_, _, rfl, rfl, (1 + f).toNat, by rw [show (((1 + f).toNat : Nat) : Int) = 1 + f by omega]; rfl, by omega, by omega, e1.trans e2, s2⟩
    rintro _ H2 ⟨b, rfl, b1, bm2, e2, s2⟩
    refine ⟨fun σ' H' => ∃ (p : Addr) (as : List Addr) (rows : List (List Int)), σ' = [some (.ref s), some (.int most), some (.int a), some (.int b), some (.ref p)] ∧ Tab H' p as rows ∧ rows.length = a ∧ (∀ r ∈ rows, r.length = b ∧ ∀ y ∈ r, y.natAbs ≤ 100) ∧ Tu.Uni rows a b ∧ p ≠ s ∧ (∀ x ∈ as, x ≠ s) ∧ ExB s H H' ∧ SrcAt H' s (n + 900), ?_, ?_⟩
    · refine ⟨_, rfl, _, rfl, _, rfl, s, _, a, b, rfl, s2, by omega, a1, by omega, b1, by omega, fun as A p H3 hN hm hu e3 s3 => ?_⟩
      refine ⟨_, rfl, _, rfl, _, rfl, s, _, a, b, rfl, s3, by omega, a1, by omega, b1, by omega, fun bs B q H4 hN' hm' hu' e4 s4 => ?_⟩
      refine ⟨(by show 2 ≤ sizeLine; decide), fun l nl => ?_⟩
      have xl : Ex H4 (upd H4 l (.lst [.ref p, .ref q])) := Ex.new nl
      have sl := s4.ex xl
      have nls : l ≠ s := s4.ne nl
      refine ⟨_, rfl, s, 2, _, rfl, sl, by omega, by decide, (by unfold Bd; decide +kernel), fun f H5 f0 f1 e5 s5 => ?_⟩
      have E5 : ExB s H H5 := (((e2.trans e3).trans e4).trans (ExB.of xl)).trans e5
      have hl5 := e5 _ _ nls (upd_same (H := H4) (a := l) (o := .lst [.ref p, .ref q]))
      have ps : p ≠ s := s2.ne hN.p0
      have qs : q ≠ s := s3.ne hN'.p0
      have as' : ∀ x ∈ as, x ≠ s := fun x hx => s2.ne (hN.a0 x hx)
      have bs' : ∀ x ∈ bs, x ≠ s := fun x hx => s3.ne (hN'.a0 x hx)
      have up : ∀ {G G' : Hp} {p : Addr} {as : List Addr} {R : List (List Int)}, ExB s G G' → p ≠ s → (∀ x ∈ as, x ≠ s) → Tab G p as R → Tab G' p as R := fun e h1 h2 t => ⟨e _ _ h1 t.1, rows_but t.2 fun a ha o z => e a o (h2 a ha) z⟩
      have hf : f = 0 ∨ f = 1 := by omega
      rcases hf with rfl | rfl
      · exact ⟨l, _, _, .ref p, rfl, rfl, SqL.of hl5, rfl, p, as, A, rfl, up ((e4.trans (ExB.of xl)).trans e5) ps as' hN.tab, hm, hN.ok, hu, ps, as', E5, s5.le (by omega)⟩
      · exact ⟨l, _, _, .ref q, rfl, rfl, SqL.of hl5, rfl, q, bs, B, rfl, up ((ExB.of xl).trans e5) qs bs' hN'.tab, hm', hN'.ok, hu', qs, bs', E5, s5.le (by omega)⟩
    rintro _ H3 ⟨p, as, rows, rfl, hT, hm, hok, hu, ps, nas, e3, s3⟩
    refine ⟨_, rfl, _, rfl, s, p, _, as, rows, a, b, 100, rfl, s3, by omega, ps, nas, hT, hm, hok, by decide, a1, by omega, b1, by omega, fun rs rows' p' H' m' w' hmw hS hN hl e sH => ?_⟩
    have mw : 1 ≤ m' ∧ m' ≤ most ∧ 1 ≤ w' ∧ w' ≤ most := by omega
    exact k rs rows' p' H' m' w' mw.1 mw.2.1 mw.2.2.1 mw.2.2.2 (hN.back e3 s3.obj) hl ((swung_uni hm (fun r hr => (hok r hr).1) hS).mp hu) (e3.trans e) (sH.le (by omega))
-- DEF _law_signings

theorem rep_snoc {α : Type} (x : α) (i : Nat) : List.replicate (i + 1) x = List.replicate i x ++ [x] := List.replicate_succ'
theorem sig_len (i : Nat) (h : i ≤ 8) : (Ls.allL (List.replicate i [1, -1])).length ≤ 256 := by
  refine Nat.le_trans (Ls.allL_len (b := 2) fun c hc => by rw [List.eq_of_mem_replicate hc]; exact Nat.le_refl _) ?_
  rw [List.length_replicate]
  exact Nat.le_trans (Nat.pow_le_pow_right (by decide) h) (by decide)
theorem sig_grow (L : List (List Int)) : Ls.grow L [1, -1] = L.flatMap fun r => [r ++ [1], r ++ [-1]] := rfl
theorem sig_lens {i : Nat} : ∀ z ∈ Ls.allL (List.replicate i [1, -1]), z.length = i := fun z hz => by
  rw [Paired.length (Ls.allL_each _ _ rfl z hz), List.length_replicate]
theorem fm_len (L : List (List Int)) : (L.flatMap fun r => [r ++ [1], r ++ [-1]]).length = 2 * L.length := by
  induction L with
  | nil => rfl
  | cons r L ih =>
    rw [List.flatMap_cons, List.length_append, ih]
    simp only [List.length_cons, List.length_nil]
    omega

def sp__law_signings (K : PySem.W.Frag) : Sp := fun vs H Q _ => ∃ (n : Nat), vs = [.int n] ∧ n ≤ 8 ∧
  ∀ p as H', H p = none → Ex H H' → Tab H' p as (Ls.allL (List.replicate n [1, -1])) → Q (.ref p) H'

theorem ok__law_signings (T : Txt K mg) : FnOk P w K mg base CX0 1 T.f__law_signings T.fd__law_signings ["_law_many"] (sp__law_signings K) := by
  refine Fun.ok T.F__law_signings sc__law_signings (fun vs H Q E h => ?_) (fun cdv A outer s H vs Q E hr h => ?_)
  · obtain ⟨_, rfl, _⟩ := h; rfl
  · refine ⟨_, (pss_cut (ps_set (i := 1) sc__law_signings.nd rfl (by first | exact Or.inl rfl | exact Or.inr rfl) (pe_lst (pa_cons (pe_lst pa_nil) pa_nil)))
      (pss_cons (ps_for PassesOwn.never rfl (pi_range1 (by rfl) T.n_range (pa_cons (pv 0) pa_nil)) (pg_name (i := 2) sc__law_signings.nd rfl (by first | exact Or.inl rfl | exact Or.inr rfl))
        (pss_cons (ps_set (i := 3) sc__law_signings.nd rfl (by first | exact Or.inl rfl | exact Or.inr rfl) (pe_lst pa_nil))
          (pss_cons (ps_for PassesOwn.never rfl (pi_list (pv 1)) (pg_name (i := 4) sc__law_signings.nd rfl (by first | exact Or.inl rfl | exact Or.inr rfl))
            (pss_one (ps_set (i := 3) sc__law_signings.nd rfl (by first | exact Or.inl rfl | exact Or.inr rfl) (pe_op op_cat (pv 3) (pe_lst (pa_cons (pe_op op_cat (pv 4) (pe_lst (pa_cons pe_int pa_nil))) (pa_cons (pe_op op_cat (pv 4) (pe_lst (pa_cons (pe_un un_neg pe_int) pa_nil))) pa_nil)))))))
          (pss_one (ps_set (i := 1) sc__law_signings.nd rfl (by first | exact Or.inl rfl | exact Or.inr rfl) (pv 3))))))
      (pss_one (ps_ret (pv 1))))), ?_⟩
    obtain ⟨n, rfl, n8, k⟩ := h
    refine ⟨fun σ' H' => ∃ (pf : Addr) (bs : List Addr), σ' = [some (.int n), some (.ref pf), none, none, none] ∧ Ex H H' ∧ H pf = none ∧ Tab H' pf bs [[]], ?_, ?_⟩
    · exact ⟨Nat.zero_le _, fun l nl => ⟨(by show 1 ≤ sizeLine; decide), fun t nt => ⟨t, [l], rfl, (Ex.new nl).trans (Ex.new nt), fresh_back (Ex.new nl) nt, upd_same, .cons (Ex.new nt _ _ upd_same) .nil⟩⟩⟩
    rintro σ' H1 ⟨pf, bs, rfl, e1, nf, hf⟩
    refine ⟨_, rfl, _, rfl, by omega, by omega, for_range (lo := 0) (n := (n : Int).toNat) (fun i σ' H' => ∃ (pf : Addr) (bs : List Addr) (y2 y3 y4 : Option V), σ' = [some (.int n), some (.ref pf), y2, y3, y4] ∧ Ex H H' ∧ H pf = none ∧ Tab H' pf bs (Ls.allL (List.replicate i [1, -1]))) ⟨pf, bs, _, _, _, rfl, e1, nf, hf⟩ ?_ ?_⟩
    rotate_left
    · rintro σ' H2 ⟨pf, bs, y2, y3, y4, rfl, e2, nf, hf⟩
      rw [Int.toNat_natCast] at hf
      exact s_ret (v := .ref pf) (ev_var (i := 1) rfl) fun H3 e3 => k pf bs H3 nf (e2.trans e3) (hf.ex e3)
    rintro i σ' H2 hi ⟨pf, bs, y2, y3, y4, rfl, e2, nf, hf⟩
    rw [Int.toNat_natCast] at hi
    have l256 := sig_len i (by omega)
    have bl : bs.length = (Ls.allL (List.replicate i [1, -1])).length := Paired.length hf.2
    refine ⟨Nat.zero_le _, fun pl0 nl0 => ?_⟩
    have x0 := Ex.new (o := .lst []) nl0
    have hf0 := hf.ex x0
    refine q_forL (xs := bs.map V.ref) (ev_var (i := 1) rfl) (SqL.of hf0.1) (fun a σ' H' => ∃ (pl : Addr) (cs : List Addr) (y2 y4 : Option V), σ' = [some (.int n), some (.ref pf), y2, some (.ref pl), y4] ∧ Ex H H' ∧ Ex (upd H2 pl0 (.lst [])) H' ∧ H pl = none ∧ Tab H' pl cs (((Ls.allL (List.replicate i [1, -1])).take a).flatMap fun r => [r ++ [1], r ++ [-1]])) (fun H4 e4 => ⟨pl0, [], _, _, rfl, (e2.trans x0).trans e4, e4, fresh_back e2 nl0, e4 _ _ upd_same, .nil⟩) (fun a σ' H' _ ⟨_, _, _, _, _, _, h, _, _⟩ => SqL.of (h _ _ hf0.1)) (fun a x σ' H4 hx hP => ?_) (fun σ' H4 hP => ?_)
    · obtain ⟨pl, cs, y2, y4, rfl, e4, e34, nl, hcs⟩ := hP
      rw [List.getElem?_map] at hx
      obtain ⟨b, hb, rfl⟩ := Option.map_eq_some_iff.mp hx
      obtain ⟨r, hr, hh⟩ := paired_get hf0.2 hb
      have la := (List.getElem?_eq_some_iff.mp hr).1
      have lr : r.length ≤ 8 := by
        rw [sig_lens r (List.mem_of_getElem? hr)]
        omega
      have lcs : cs.length ≤ 512 := by
        rw [Paired.length hcs.2, fm_len, List.length_take]
        omega
      have hb4 := e34 _ _ hh
      refine ⟨_, rfl, ?_⟩
      refine (el_catVL (xs := r.map V.int) (ys := [.int 1]) (ev_var (i := 4) rfl) hb4 (el_lst (vs := [.int 1]) (ea_cons ev_c ea_nil) (Nat.le_of_ble_eq_true rfl)) (by rw [List.length_map]; show _ + 1 ≤ 100000; omega)) H4 (Ex.refl _) _ fun a1 H5 n1 e5 h1 => ?_
      refine (el_catVL (xs := r.map V.int) (ys := [.int (-1)]) (ev_var (i := 4) rfl) (e5 _ _ hb4) (el_lst (vs := [.int (-1)]) (ea_cons (ev_is (ev_un ev_c ru_neg) rfl) ea_nil) (Nat.le_of_ble_eq_true rfl)) (by rw [List.length_map]; show _ + 1 ≤ 100000; omega)) H5 (Ex.refl _) _ fun a2 H6 n2 e6 h2 => ?_
      refine ⟨(by show 2 ≤ sizeLine; decide), fun d nd => ?_⟩
      have xd := Ex.new (o := .lst [V.ref a1, .ref a2]) nd
      have eA := e5.trans (e6.trans xd)
      refine ⟨pl, d, _, _, rfl, rfl, eA _ _ hcs.1, upd_same, ?_, fun u nu => ?_⟩
      · refine sz_of ?_
        show (cs.map V.ref).length + 2 ≤ 100000
        rw [List.length_map]
        omega
      · have xu := Ex.new (o := .lst (cs.map V.ref ++ [V.ref a1, .ref a2])) nu
        refine ⟨u, cs ++ [a1, a2], _, _, rfl, e4.trans (eA.trans xu), e34.trans (eA.trans xu), fresh_back (e4.trans eA) nu, by rw [upd_same, List.map_append]; rfl, ?_⟩
        rw [take_snoc hr, List.flatMap_append]
        have e2a : cs ++ [a1, a2] = (cs ++ [a1]) ++ [a2] := by simp
        show RowsAt _ _ ((((Ls.allL (List.replicate i [1, -1])).take a).flatMap fun r => [r ++ [1], r ++ [-1]]) ++ [r ++ [1], r ++ [-1]])
        rw [e2a, show ((((Ls.allL (List.replicate i [1, -1])).take a).flatMap fun r => [r ++ [1], r ++ [-1]]) ++ [r ++ [1], r ++ [-1]]) = ((((Ls.allL (List.replicate i [1, -1])).take a).flatMap fun r => [r ++ [1], r ++ [-1]]) ++ [r ++ [1]]) ++ [r ++ [-1]] by simp]
        refine paired_snoc (paired_snoc (hcs.2.ex (eA.trans xu)) ?_) ?_
        · rw [List.map_append]
          exact (e6.trans (xd.trans xu)) _ _ h1
        · rw [List.map_append]
          exact (xd.trans xu) _ _ h2
    · obtain ⟨pl, cs, y2, y4, rfl, e4, e34, nl, hcs⟩ := hP
      rw [List.length_map, bl, List.take_length] at hcs
      refine s_asg (v := .ref pl) (ev_var (i := 3) rfl) fun H5 e5 => ⟨pl, cs, _, _, _, rfl, e4.trans e5, nl, ?_⟩
      rw [rep_snoc, Ls.allL_snoc, sig_grow]
      exact hcs.ex e5
-- DEF how_far

theorem el_mapNL {K : PySem.W.Frag} {tl te : TE} {vs : List Nat} {j : Nat} {σ : L2.St} {H : Hp} {qs : List Int} (f : Int → Int) (h : EvL tl σ H (qs.map V.int)) (hz : qs.length ≤ 1000) (hw : ∀ x, wipe ((wipe σ vs).set j (some x)) vs = wipe σ vs)
    (he : ∀ y H1, y ∈ qs → Ex H H1 → Ev te ((wipe σ vs).set j (some (.int y))) H1 (.int (f y))) : EvL (tLc (iList K tl) (gName j) tYes te vs) σ H ((qs.map f).map V.int) := by
  have g := el_lcNL (K := K) (t := tYes) (te := te) (j := j) (vs := vs) (σ := σ) (H := H) (fun _ => true) (fun i => .int (f (qs[i]?.getD 0))) h (by rw [List.length_map]; omega) hw (fun i x H1 e hx Hx ex Qx qx => qx Hx (Ex.refl _)) (fun i x H1 e hx _ => by
    rw [List.getElem?_map] at hx
    obtain ⟨y, hy, rfl⟩ := Option.map_eq_some_iff.mp hx
    rw [hy]
    exact he y H1 (List.mem_of_getElem? hy) e)
  have eg : given (qs.map V.int).length (fun _ => true) (fun i => V.int (f (qs[i]?.getD 0))) = (qs.map f).map V.int := by
    unfold given
    rw [List.length_map, List.filter_eq_self.mpr (fun _ _ => rfl), List.map_map]
    refine List.ext_getElem (by rw [List.length_map, List.length_map, List.length_range]) fun i h1 h2 => ?_
    rw [List.length_map, List.length_range] at h1
    rw [List.getElem_map, List.getElem_map, List.getElem_range, List.getElem?_eq_getElem h1]
    rfl
  rw [eg] at g
  exact g
theorem s_retMax {K : PySem.W.Frag} {te : TE} {D : Ends} {σ : L2.St} {H : Hp} {ns : List Int} (h : EvL te σ H (ns.map V.int)) (hn : 0 < ns.length) (k : ∀ m H1, Ex H H1 → m ∈ ns → (∀ y ∈ ns, y ≤ m) → D.rt (.int m) H1) : tRet (tCB (rMax K) (tCons te tNil)) D σ H := h H (Ex.refl H) _ fun d H1 nd e1 hd => ⟨d, ns, rfl, SqL.of hd, hn, fun m hm hle => k m H1 e1 hm hle⟩

def mx46 : List Int → Int
  | [] => 0
  | y :: l => if mx46 l < y then y else mx46 l
theorem le_mx46 : ∀ {l : List Int} {y : Int}, y ∈ l → y ≤ mx46 l
  | a :: l, y, h => by
    unfold mx46
    rcases List.mem_cons.mp h with rfl | h
    · split <;> omega
    · have := le_mx46 h
      split <;> omega
theorem mx46_le : ∀ {l : List Int} {m : Int}, 0 ≤ m → (∀ y ∈ l, y ≤ m) → mx46 l ≤ m
  | [], m, h0, _ => h0
  | a :: l, m, h0, h => by
    unfold mx46
    have h1 := h a (List.mem_cons_self ..)
    have h2 := mx46_le h0 fun y hy => h y (List.mem_cons_of_mem _ hy)
    split <;> assumption
theorem mx46_is {l : List Int} {m : Int} (h0 : ∀ y ∈ l, 0 ≤ y) (hm : m ∈ l) (hle : ∀ y ∈ l, y ≤ m) : m = mx46 l := Int.le_antisymm (le_mx46 hm) (mx46_le (h0 m hm) hle)
/-- how far signs are out -/
def outI (rows : List (List Int)) (zs : List Int) : Int := mx46 ((Ls.totals rows zs).map Ls.absI)
theorem absI_nn {l : List Int} : ∀ y ∈ l.map Ls.absI, 0 ≤ y := fun y hy => by
  obtain ⟨z, _, rfl⟩ := List.mem_map.mp hy
  unfold Ls.absI
  split <;> omega
theorem mem_allL : ∀ (n : Nat) (cs : List (List Int)), cs.length = n → ∀ z : List Int, z.length = n → (∀ (i : Nat) (y : Int) (c : List Int), z[i]? = some y → cs[i]? = some c → y ∈ c) → z ∈ Ls.allL cs
  | 0, cs, hc, z, hz, _ => by
    have c0 : cs = [] := List.length_eq_zero_iff.mp hc
    have z0 : z = [] := List.length_eq_zero_iff.mp hz
    rw [c0, z0]
    exact .head _
  | n + 1, cs, hc, z, hz, h => by
    obtain ⟨cs', c, rfl⟩ : ∃ cs' c, cs = cs' ++ [c] := ⟨cs.dropLast, cs.getLast (by intro z; rw [z] at hc; cases hc), (List.dropLast_concat_getLast _).symm⟩
    obtain ⟨z', y, rfl⟩ : ∃ z' y, z = z' ++ [y] := ⟨z.dropLast, z.getLast (by intro q; rw [q] at hz; cases hz), (List.dropLast_concat_getLast _).symm⟩
    rw [List.length_append, List.length_singleton] at hc hz
    have ih := mem_allL n cs' (by omega) z' (by omega) fun i y c h1 h2 => by
      have l1 := (List.getElem?_eq_some_iff.mp h1).1
      have l2 := (List.getElem?_eq_some_iff.mp h2).1
      exact h i y c (by rw [List.getElem?_append_left l1]; exact h1) (by rw [List.getElem?_append_left l2]; exact h2)
    have hy := h n y c (by rw [List.getElem?_append_right (by omega), show n - z'.length = 0 by omega]; rfl) (by rw [List.getElem?_append_right (by omega), show n - cs'.length = 0 by omega]; rfl)
    rw [Ls.allL_snoc]
    unfold Ls.grow
    exact List.mem_flatMap.mpr ⟨z', ih, List.mem_map.mpr ⟨y, hy, rfl⟩⟩
theorem best46 (kz : List Int) : ∀ k : Nat, argBest (fun i j => decide (kz.getD i 0 < kz.getD j 0)) k ≤ k ∧ (∀ i, i ≤ k → kz.getD (argBest (fun i j => decide (kz.getD i 0 < kz.getD j 0)) k) 0 ≤ kz.getD i 0) ∧ ∀ i, i < argBest (fun i j => decide (kz.getD i 0 < kz.getD j 0)) k → kz.getD (argBest (fun i j => decide (kz.getD i 0 < kz.getD j 0)) k) 0 < kz.getD i 0
  | 0 => ⟨Nat.le_refl _, fun i hi => by rw [Nat.le_zero.mp hi]; exact Int.le_refl _, fun i hi => absurd hi (Nat.not_lt_zero _)⟩
  | k + 1 => by
    obtain ⟨h1, h2, h3⟩ := best46 kz k
    show (if decide (kz.getD (k + 1) 0 < kz.getD (argBest (fun i j => decide (kz.getD i 0 < kz.getD j 0)) k) 0) = true then k + 1 else argBest (fun i j => decide (kz.getD i 0 < kz.getD j 0)) k) ≤ k + 1 ∧ (∀ i, i ≤ k + 1 → kz.getD (if decide (kz.getD (k + 1) 0 < kz.getD (argBest (fun i j => decide (kz.getD i 0 < kz.getD j 0)) k) 0) = true then k + 1 else argBest (fun i j => decide (kz.getD i 0 < kz.getD j 0)) k) 0 ≤ kz.getD i 0) ∧ ∀ i, i < (if decide (kz.getD (k + 1) 0 < kz.getD (argBest (fun i j => decide (kz.getD i 0 < kz.getD j 0)) k) 0) = true then k + 1 else argBest (fun i j => decide (kz.getD i 0 < kz.getD j 0)) k) → kz.getD (if decide (kz.getD (k + 1) 0 < kz.getD (argBest (fun i j => decide (kz.getD i 0 < kz.getD j 0)) k) 0) = true then k + 1 else argBest (fun i j => decide (kz.getD i 0 < kz.getD j 0)) k) 0 < kz.getD i 0
    generalize argBest (fun i j => decide (kz.getD i 0 < kz.getD j 0)) k = b at h1 h2 h3 ⊢
    by_cases c : kz.getD (k + 1) 0 < kz.getD b 0
    · rw [if_pos (decide_eq_true c)]
      refine ⟨Nat.le_refl _, fun i hi => ?_, fun i hi => Int.lt_of_lt_of_le c (h2 i (by omega))⟩
      by_cases e : i = k + 1
      · rw [e]
        exact Int.le_refl _
      · exact Int.le_trans (Int.le_of_lt c) (h2 i (by omega))
    · rw [if_neg (by rw [decide_eq_false c]; decide)]
      refine ⟨by omega, fun i hi => ?_, h3⟩
      by_cases e : i = k + 1
      · rw [e]
        exact Int.not_lt.mp c
      · exact h2 i (by omega)
theorem getD_some {kz : List Int} {i : Nat} {z : Int} (h : kz[i]? = some z) : kz.getD i 0 = z := by
  rw [List.getD_eq_getElem?_getD, h]
  rfl
/-- the place of the first of the least -/
theorem best_min {kz : List Int} {m : Int} (h : m ∈ kz) (hle : ∀ y ∈ kz, m ≤ y) : kz[Lam1.bestOf kz]? = some m ∧ ∀ i z, i < Lam1.bestOf kz → kz[i]? = some z → z ≠ m := by
  obtain ⟨h1, h2, h3⟩ := best46 kz (kz.length - 1)
  have pos := List.length_pos_of_mem h
  obtain ⟨i, hi, he⟩ := List.mem_iff_getElem.mp h
  have hi' : kz[i]? = some m := by rw [← he]; exact List.getElem?_eq_getElem hi
  have hb : Lam1.bestOf kz < kz.length := by
    have : Lam1.bestOf kz ≤ kz.length - 1 := h1
    omega
  have hbs : kz[Lam1.bestOf kz]? = some kz[Lam1.bestOf kz] := List.getElem?_eq_getElem hb
  have e1 : kz.getD (Lam1.bestOf kz) 0 = kz[Lam1.bestOf kz] := getD_some hbs
  have up : kz.getD (Lam1.bestOf kz) 0 ≤ kz.getD i 0 := h2 i (by omega)
  rw [getD_some hi'] at up
  have lo := hle _ (List.getElem_mem hb)
  have em : kz[Lam1.bestOf kz] = m := by omega
  refine ⟨by rw [hbs, em], fun j z hj hz e => ?_⟩
  have lt : kz.getD (Lam1.bestOf kz) 0 < kz.getD j 0 := h3 j hj
  rw [getD_some hz] at lt
  omega
/-- all lists of signs -/
def sigs (w : Nat) : List (List Int) := Ls.allL (List.replicate w [1, -1])
theorem sig_one {w : Nat} {z : List Int} (h : z ∈ sigs w) : z.length = w ∧ ∀ y ∈ z, y = 1 ∨ y = -1 := by
  have P := Ls.allL_each _ _ rfl z h
  refine ⟨by rw [Paired.length P, List.length_replicate], fun y hy => ?_⟩
  obtain ⟨i, hi, rfl⟩ := List.mem_iff_getElem.mp hy
  obtain ⟨c, hc, hm⟩ := paired_get P (List.getElem?_eq_getElem hi)
  have := List.eq_of_mem_replicate (List.mem_of_getElem? hc)
  rw [this] at hm
  simp only [List.mem_cons, List.not_mem_nil, or_false] at hm
  exact hm
theorem sigs_mem {w : Nat} {z : List Int} (hl : z.length = w) (h : ∀ y ∈ z, y = 1 ∨ y = -1) : z ∈ sigs w := by
  refine mem_allL w _ (List.length_replicate ..) z hl fun i y c hy hc => ?_
  rw [List.eq_of_mem_replicate (List.mem_of_getElem? hc)]
  have := h y (List.mem_of_getElem? hy)
  simp only [List.mem_cons, List.not_mem_nil, or_false]
  exact this
theorem dot_even : ∀ (r z : List Int), r.length = z.length → (∀ y ∈ z, y = 1 ∨ y = -1) → (Ls.dot r z) % 2 = r.sum % 2
  | [], [], _, _ => rfl
  | a :: r, b :: z, hl, h => by
    have ih := dot_even r z (by simpa using hl) fun y hy => h y (List.mem_cons_of_mem _ hy)
    unfold Ls.dot at ih ⊢
    rw [List.zipWith_cons_cons, List.sum_cons, List.sum_cons]
    rcases h b (List.mem_cons_self ..) with e | e <;> rw [e] <;> omega
theorem dot_vs {R : List (List Int)} {m w j : Nat} {r : List Int} {x : Nat → Int} (hm : R.length = m) (hr : R[j]? = some r) (hl : r.length = w) : Ls.dot r ((List.range w).map x) = Tu.vs (Dt.at_ (transp R w)) (List.range w) x j := by
  have er : r = (List.range w).map fun i => r[i]?.getD 0 := by
    refine List.ext_getElem (by rw [List.length_map, List.length_range, hl]) fun i h1 h2 => ?_
    rw [List.getElem_map, List.getElem_range, List.getElem?_eq_getElem h1]
    rfl
  unfold Ls.dot Tu.vs
  rw [er, List.zipWith_map, List.zipWith_self]
  refine congrArg List.sum (List.map_congr_left fun i hi => ?_)
  have hi := List.mem_range.mp hi
  have hj : j < m := by rw [← hm]; exact (List.getElem?_eq_some_iff.mp hr).1
  rw [transp_at hm hi hj]
  have e2 : Dt.at_ R j i = r[i]?.getD 0 := by
    unfold Dt.at_
    rw [hr]
    rfl
  rw [e2, Int.mul_comm]
/-- of a unimodular table signs are at most 1 out -/
theorem uni_out {R : List (List Int)} {m w : Nat} (hm : R.length = m) (hw : ∀ r ∈ R, r.length = w) (hu : Tu.Uni R m w) : ∃ z ∈ sigs w, ∀ t ∈ Ls.totals R z, -1 ≤ t ∧ t ≤ 1 := by
  have hT := (uni_transp hm).mp hu
  obtain ⟨x, x1, x2⟩ := hT.sg (rs := List.range w) List.nodup_range (fun y hy => List.mem_range.mp hy) (w := m) fun j hj => hj
  refine ⟨(List.range w).map x, sigs_mem (by rw [List.length_map, List.length_range]) (fun y hy => ?_), fun t ht => ?_⟩
  · obtain ⟨i, hi, rfl⟩ := List.mem_map.mp hy
    exact x1 i hi
  · obtain ⟨r, hr, rfl⟩ := List.mem_map.mp ht
    obtain ⟨j, hj, rfl⟩ := List.mem_iff_getElem.mp hr
    rw [dot_vs hm (List.getElem?_eq_getElem hj) (hw _ hr)]
    exact x2 j (by omega)
/-- how far the least signs are out, of a unimodular table -/
theorem uni_least {R : List (List Int)} {m w : Nat} {mo : Int} (hm : R.length = m) (m1 : 1 ≤ m) (hw : ∀ r ∈ R, r.length = w) (hu : Tu.Uni R m w) (h : mo ∈ (sigs w).map (outI R)) (hle : ∀ y ∈ (sigs w).map (outI R), mo ≤ y) : mo = if (R.all fun r => decide (r.sum % 2 = 0)) = true then 0 else 1 := by
  obtain ⟨z, hz, hzt⟩ := uni_out hm hw hu
  obtain ⟨v, hv, rfl⟩ := List.mem_map.mp h
  have up := hle _ (List.mem_map.mpr ⟨z, hz, rfl⟩)
  have nn : 0 ≤ outI R v := by
    obtain ⟨r, hr⟩ : ∃ r, r ∈ R := List.exists_mem_of_length_pos (by omega)
    have h1 : Ls.absI (Ls.dot r v) ∈ (Ls.totals R v).map Ls.absI := List.mem_map.mpr ⟨_, List.mem_map.mpr ⟨r, hr, rfl⟩, rfl⟩
    exact Int.le_trans (absI_nn _ h1) (le_mx46 h1)
  obtain ⟨zl, zs⟩ := sig_one hz
  obtain ⟨vl, vs⟩ := sig_one hv
  by_cases c : (R.all fun r => decide (r.sum % 2 = 0)) = true
  · rw [if_pos c]
    have zero : outI R z ≤ 0 := by
      refine mx46_le (Int.le_refl _) fun y hy => ?_
      obtain ⟨t, ht, rfl⟩ := List.mem_map.mp hy
      have hb := hzt t ht
      obtain ⟨r, hr, rfl⟩ := List.mem_map.mp ht
      have he := dot_even r z (by rw [hw r hr, zl]) zs
      have ev := of_decide_eq_true (List.all_eq_true.mp c r hr)
      rw [ev] at he
      have : Ls.dot r z = 0 := by omega
      rw [this]
      exact Int.le_refl _
    omega
  · rw [if_neg c]
    have one : outI R z ≤ 1 := by
      refine mx46_le (by decide) fun y hy => ?_
      obtain ⟨t, ht, rfl⟩ := List.mem_map.mp hy
      have hb := hzt t ht
      unfold Ls.absI
      split <;> omega
    have c : (R.all fun r => decide (r.sum % 2 = 0)) = false := by
      cases e : (R.all fun r => decide (r.sum % 2 = 0)) with
      | true => exact absurd e c
      | false => rfl
    obtain ⟨r, hr, hod⟩ := List.all_eq_false.mp c
    have he := dot_even r v (by rw [hw r hr, vl]) vs
    have h1 : Ls.absI (Ls.dot r v) ∈ (Ls.totals R v).map Ls.absI := List.mem_map.mpr ⟨_, List.mem_map.mpr ⟨r, hr, rfl⟩, rfl⟩
    have h2 : Ls.absI (Ls.dot r v) ≤ outI R v := le_mx46 h1
    have h3 : ¬ r.sum % 2 = 0 := fun y => hod (decide_eq_true y)
    unfold Ls.absI at h2
    split at h2 <;> omega

def sp_how_far (K : PySem.W.Frag) : Sp := fun vs H Q _ => ∃ (p q : Addr) (as : List Addr) (rows : List (List Int)) (zs : List Int), vs = [.ref p, .ref q] ∧ Tab H p as rows ∧ 1 ≤ rows.length ∧ rows.length ≤ 8 ∧ (∀ r ∈ rows, r.length = zs.length ∧ ∀ y ∈ r, Bd 110 y) ∧ zs.length ≤ 8 ∧ H q = some (.lst (zs.map V.int)) ∧ (∀ z ∈ zs, Bd 110 z) ∧
  ∀ H', Ex H H' → Q (.int (outI rows zs)) H'

theorem ok_how_far (T : Txt K mg) : FnOk P w K mg base CX0 2 T.f_how_far T.fd_how_far ["table", "signs"] (sp_how_far K) := by
  refine Fun.ok T.F_how_far sc_how_far (fun vs H Q E h => ?_) (fun cdv A outer s H vs Q E hr h => ?_)
  · obtain ⟨_, _, _, _, _, rfl, _⟩ := h; rfl
  · refine ⟨_, (pss_one (ps_ret (pe_callB (id := "max") (r := rMax K) (cr_max rfl) (by rfl) T.n_max (by decide +kernel) (pa_cons (pe_lc (own := [("total", 2)]) (wi := iList K _) (g := gName 2) (tt := tYes) rfl sc_how_far.nd (pi_list (pe_call (ok_row_totals T) hr (by rfl) T.g_row_totals T.k_row_totals T.b_row_totals .nil pass0 (pa_cons (pv 0) (pa_cons (pv 1) pa_nil)))) (blkOk_by (N := ["table", "signs", "total"]) (sc := (defScope s_how_far)) (by decide +kernel)) (fun _ _ _ _ _ => pg_name (i := 2) sc_how_far.nd rfl (Or.inl rfl)) (fun _ _ _ _ _ => pts_nil) (fun _ _ _ _ _ => (pe_callB (id := "abs") call_abs (by rfl) T.n_abs (by decide +kernel) (pa_cons (pv 2) pa_nil)))) pa_nil)))), ?_⟩
    obtain ⟨p, q, as, rows, zs, rfl, hT, m1, m8, hr, z8, hq, hz, k⟩ := h
    have lt : (Ls.totals rows zs).length = rows.length := by unfold Ls.totals; rw [List.length_map]
    refine s_retMax (ns := (Ls.totals rows zs).map Ls.absI) (el_mapNL (K := K) (qs := Ls.totals rows zs) Ls.absI (el_call (ea_cons (ev_var rfl) (ea_cons (ev_var rfl) ea_nil)) fun H1 e1 Q1 q1 E1 => ⟨p, q, as, rows, zs, rfl, hT.ex e1, m8, hr, z8, e1 _ _ hq, hz, q1⟩) (by omega) (fun u => rfl) (fun y H1 hy e1 H2 e2 Q2 q2 => ⟨_, rfl, _, rfl, q2 H2 (Ex.refl _)⟩)) (by rw [List.length_map]; omega) fun m H1 e1 hm hle => ?_
    rw [mx46_is absI_nn hm hle]
    exact k H1 e1
-- DEF _law_out

def sp__law_out (K : PySem.W.Frag) : Sp := fun vs H Q _ => ∃ (p q : Addr) (as : List Addr) (rows : List (List Int)) (zs : List Int), vs = [.ref p, .ref q] ∧ Tab H p as rows ∧ 1 ≤ rows.length ∧ rows.length ≤ 8 ∧ (∀ r ∈ rows, r.length = zs.length ∧ ∀ y ∈ r, Bd 110 y) ∧ zs.length ≤ 8 ∧ H q = some (.lst (zs.map V.int)) ∧ (∀ z ∈ zs, Bd 110 z) ∧
  ∀ H', Ex H H' → Q (.int (outI rows zs)) H'

theorem ok__law_out (T : Txt K mg) : FnOk P w K mg base CX0 2 T.f__law_out T.fd__law_out ["_law_table_here", "_law_signs"] (sp__law_out K) := by
  refine Fun.ok T.F__law_out sc__law_out (fun vs H Q E h => ?_) (fun cdv A outer s H vs Q E hr h => ?_)
  · obtain ⟨_, _, _, _, _, rfl, _⟩ := h; rfl
  · refine ⟨_, (pss_one (ps_ret (pe_callB (id := "max") (r := rMax K) (cr_max rfl) (by rfl) T.n_max (by decide +kernel) (pa_cons (pe_lc (own := [("_law_one_here", 2)]) (wi := iList K _) (g := gName 2) (tt := tYes) rfl sc__law_out.nd (pi_list (pe_call (ok__law_whole_sums T) hr (by rfl) T.g__law_whole_sums T.k__law_whole_sums T.b__law_whole_sums .nil pass0 (pa_cons (pv 0) (pa_cons (pv 1) pa_nil)))) (blkOk_by (N := ["_law_table_here", "_law_signs", "_law_one_here"]) (sc := (defScope s__law_out)) (by decide +kernel)) (fun _ _ _ _ _ => pg_name (i := 2) sc__law_out.nd rfl (Or.inl rfl)) (fun _ _ _ _ _ => pts_nil) (fun _ _ _ _ _ => (pe_callB (id := "abs") call_abs (by rfl) T.n_abs (by decide +kernel) (pa_cons (pv 2) pa_nil)))) pa_nil)))), ?_⟩
    obtain ⟨p, q, as, rows, zs, rfl, hT, m1, m8, hr, z8, hq, hz, k⟩ := h
    have lt : (Ls.totals rows zs).length = rows.length := by unfold Ls.totals; rw [List.length_map]
    refine s_retMax (ns := (Ls.totals rows zs).map Ls.absI) (el_mapNL (K := K) (qs := Ls.totals rows zs) Ls.absI (el_call (ea_cons (ev_var rfl) (ea_cons (ev_var rfl) ea_nil)) fun H1 e1 Q1 q1 E1 => ⟨p, q, as, rows, zs, rfl, hT.ex e1, m8, hr, z8, e1 _ _ hq, hz, q1⟩) (by omega) (fun u => rfl) (fun y H1 hy e1 H2 e2 Q2 q2 => ⟨_, rfl, _, rfl, q2 H2 (Ex.refl _)⟩)) (by rw [List.length_map]; omega) fun m H1 e1 hm hle => ?_
    rw [mx46_is absI_nn hm hle]
    exact k H1 e1
-- DEF spread

theorem asg_call46 {sp : Sp} {E : XK} {te : TE} {g : TG} {D : Ends} {σ : L2.St} {H : Hp} (h : te σ H fun v H1 => sp [v] H1 (fun u H2 => g u σ H2 D.nx) E) : tAsg (tCall sp [] E (tCons te tNil)) g D σ H := h
theorem tups_keep {D : Addr} {l : List V} {H H' : Hp} (hD : H D = some (.lst l)) (e : ∀ b o, b ≠ D → H b = some o → H' b = some o) : ∀ {as : List Addr} {L : List (List Int)}, TupsAt H as L → TupsAt H' as L
  | _, _, .nil => .nil
  | _, _, .cons h t => .cons (e _ _ (fun z => by rw [z, hD] at h; cases h) h) (tups_keep hD e t)
/-- [a tuple, ever the same, for x in xs] -/
theorem lc_sameU {K : PySem.W.Frag} {t0 te : TE} {vs : List Nat} {j : Nat} {σ : L2.St} {H : Hp} {Q : VK} {a : Addr} {xs : List V} (F : List Int) (h : Ev t0 σ H (.ref a)) (hx : H a = some (.lst xs)) (hm : xs.length ≤ 1000) (hw : ∀ u, wipe ((wipe σ vs).set j (some u)) vs = wipe σ vs)
    (he : ∀ u H1, Ex H H1 → EvU te ((wipe σ vs).set j (some u)) H1 (F.map V.int))
    (k : ∀ p es H2, H p = none → Ex H H2 → H2 p = some (.lst (es.map V.ref)) → TupsAt H2 es (List.replicate xs.length F) → Q (.ref p) H2) : tLc (iList K t0) (gName j) tYes te vs σ H Q := by
  refine h H (Ex.refl _) _ fun H1 e1 => ⟨a, rfl, ⟨_, SqL.of (e1 _ _ hx)⟩, fun D hD => ?_⟩
  refine lc_list (K := K) (a := a) (xs := xs) (fun i H' => ∃ es, Ex H1 H' ∧ H' D = some (.lst (es.map V.ref)) ∧ TupsAt H' es (List.replicate i F)) ⟨[], Ex.new hD, upd_same, .nil⟩ (fun i H' _ ⟨_, p1, _⟩ => SqL.of ((e1.trans p1) _ _ hx)) (fun i x H' gx p => ?_) (fun H' p => ?_)
  · obtain ⟨es, p1, p2, p3⟩ := p
    have hi := (List.getElem?_eq_some_iff.mp gx).1
    have el : es.length = i := by rw [Paired.length p3, List.length_replicate]
    refine ⟨hw _, ?_⟩
    show te _ _ _
    refine he x H' (e1.trans p1) H' (Ex.refl _) _ fun r H4 nr e4 hr => ?_
    have p2' := e4 _ _ p2
    refine ⟨_, p2', by rw [List.length_map, el]; exact small1000 (by omega), es ++ [r], Ex.mut (p1.trans e4) hD, by rw [upd_same, List.map_append]; rfl, ?_⟩
    rw [rep_snoc]
    have t4 : TupsAt H4 es (List.replicate i F) := paired_imp (fun _ _ g => e4 _ _ g) p3
    exact tups_keep p2' (fun b oo n g => by rw [upd_ne n]; exact g) (paired_snoc t4 hr)
  · obtain ⟨es, p1, p2, p3⟩ := p
    exact k D es H' (fresh_back e1 hD) (e1.trans p1) p2 p3
/-- tuples of a number and a list -/
def ToldsAt (H : Hp) (ts : List Addr) (L : List (Int × Addr)) : Prop := Paired (fun t (e : Int × Addr) => H t = some (.tup [.int e.1, .ref e.2])) ts L
theorem tolds_keep {D : Addr} {l : List V} {H H' : Hp} (hD : H D = some (.lst l)) (e : ∀ b o, b ≠ D → H b = some o → H' b = some o) : ∀ {as : List Addr} {L : List (Int × Addr)}, ToldsAt H as L → ToldsAt H' as L
  | _, _, .nil => .nil
  | _, _, .cons h t => .cons (e _ _ (fun z => by rw [z, hD] at h; cases h) h) (tolds_keep hD e t)

def sp_spread (K : PySem.W.Frag) (P : Addr) : Sp := fun vs H Q _ => ∃ (p : Addr) (as : List Addr) (rows : List (List Int)) (m w : Nat), vs = [.ref p] ∧ TabOk H p as rows m w ∧ (∀ r ∈ rows, ∀ y ∈ r, Bd 110 y) ∧ LamX.Tabs [(P, lamQ)] H ∧
  ∀ t q z H', H q = none → LamX.ExtN H H' → LamX.Tabs [(P, lamQ)] H' → H' t = some (.tup [.int (outI rows z), .ref q]) → H' q = some (.lst (z.map V.int)) → (sigs w)[Lam1.bestOf ((sigs w).map (outI rows))]? = some z → Q (.ref t) H'

theorem ok_spread (T : Txt K mg) (TB : TabB base mg T.c_law T.P_law) : FnOk P w K mg base CX0 5 T.f_spread T.fd_spread ["table"] (sp_spread K T.P_law) := by
  obtain ⟨ocL, odL, kVL, docL, pmL, anL, ctL, oslL, eL, lkL, hcL⟩ := T.lkL
  rw [eL] at lkL ⊢
  refine fn_of lkL hcL sc_spread (fun vs H Q E h => ?_) (fun A outer s H vs Q E hr h => ?_)
  · obtain ⟨_, _, _, _, _, rfl, _⟩ := h; rfl
  · refine ⟨_, PSs.nox (pss_cons (ps_expr (pe_call (ok_check_table T) hr (by rfl) T.g_check_table T.k_check_table T.b_check_table .nil pass0 (pa_cons (pv 0) pa_nil)))
      (pss_cut (ps_set (i := 1) sc_spread.nd rfl (by first | exact Or.inl rfl | exact Or.inr rfl) (pe_call (ok_all_lists T) (hr.mono (by decide)) (by rfl) T.g_all_lists T.k_all_lists T.b_all_lists .nil pass0 (pa_cons (pe_lc (own := [("_", 2)]) (wi := iList K _) (g := gName 2) (tt := tYes) rfl sc_spread.nd (pi_list (pe_ix (r := rIxL K) ix_list (pv 0) pe_int (fun _ _ => rfl))) (blkOk_by (N := ["table", "signings", "_", "signs", "told"]) (sc := (defScope s_spread)) (by decide +kernel)) (fun _ _ _ _ _ => pg_name (i := 2) sc_spread.nd rfl (Or.inl rfl)) (fun _ _ _ _ _ => pts_nil) (fun _ _ _ _ _ => (pe_tup (pa_cons pe_int (pa_cons (pe_un un_neg pe_int) pa_nil))))) pa_nil)))
      (pss_one (ps_ret (Lam1.pe_minLam (k := 1) (i := 4) (x := "told") (T := [(T.P_law, lamQ)]) (by rfl) T.n_min (pe_lc (own := [("signs", 3)]) (wi := iList K _) (g := gName 3) (tt := tYes) rfl sc_spread.nd (pi_list (pv 1)) (blkOk_by (N := ["table", "signings", "_", "signs", "told"]) (sc := (defScope s_spread)) (by decide +kernel)) (fun _ _ _ _ _ => pg_name (i := 3) sc_spread.nd rfl (Or.inl rfl)) (fun _ _ _ _ _ => pts_nil) (fun _ _ _ _ _ => (pe_tup (pa_cons (pe_call (ok_how_far T) (hr.mono (by decide)) (by rfl) T.g_how_far T.k_how_far T.b_how_far .nil pass0 (pa_cons (pv 0) (pa_cons (pv 3) pa_nil))) (pa_cons (pv 3) pa_nil))))) (show (["table", "signings", "_", "signs", "told"] : List Str).Nodup from by decide) rfl (Lam1.lamP_by (sc := defScope s_spread) (by decide +kernel)) TB rfl (List.mem_singleton.mpr rfl) (fun p hp _ => by rw [List.mem_singleton.mp hp]; rfl) (hr.mono (by decide)) rfl (fun _ _ _ _ _ _ => rfl) (fun A outer s H f c' hr2 => (pe_ix (r := rIxT K) ix_tup (pv 4) pe_int (fun _ _ => rfl)))))))), ?_⟩
    obtain ⟨p, as, rows, m, w, rfl, hT, hb, tb, k⟩ := h
    have hd := hT.b
    refine ⟨_, rfl, p, as, rows, m, w, rfl, hT, fun H1 e1 => ?_⟩
    obtain ⟨a0, r0, _, _, hh0, hl0, at0⟩ := (hT.ex e1).row0
    refine ⟨fun σ' H' => ∃ (l : Addr) (ls : List Addr), σ' = [some (.ref p), some (.ref l), none, none, none] ∧ Tab H' l ls (sigs w) ∧ Ex H1 H' ∧ (∀ a ∈ ls, H1 a = none), ?_, ?_⟩
    · refine asg_call46 ?_
      refine lc_sameU (K := K) [1, -1] (ev_op (ev_var (i := 0) rfl) ev_c (rv_ixL (SqL.of (hT.ex e1).tab.1) at0)) hh0 (by rw [List.length_map]; omega) (fun u => rfl) (fun u H2 e2 => eu_tup (ea_cons ev_c (ea_cons (ev_is (ev_un ev_c ru_neg) rfl) ea_nil)) (Nat.le_of_ble_eq_true rfl)) fun c cs H2 nc e2 hc hcs => ?_
      rw [List.length_map, hl0] at hcs
      refine ⟨c, cs, List.replicate w [1, -1], 2, rfl, ⟨hc, hcs⟩, fun z hz => by rw [List.eq_of_mem_replicate hz]; exact Nat.le_refl _, by decide, ?_, by decide, by rw [List.length_replicate]; omega, fun q bs H3 nq nbs nd qb e3 hq => ⟨q, bs, rfl, hq, e2.trans e3, fun a ha => fresh_back e2 (nbs a ha)⟩⟩
      rw [List.length_replicate]
      exact Nat.le_trans (Nat.pow_le_pow_right (by decide) (show w ≤ 8 by omega)) (by decide)
    rintro _ H2 ⟨l, ls, rfl, hl, e2, nls⟩
    have e02 := e1.trans e2
    have ll : ls.length = (sigs w).length := Paired.length hl.2
    have s256 : (sigs w).length ≤ 256 := sig_len w (by omega)
    generalize hkz : (sigs w).map (outI rows) = kz at k
    have kl : kz.length = ls.length := by rw [← hkz, List.length_map, ll]
    show Lam1.tMinLam K _ _ _ _ _ H2 _
    refine ⟨_, rfl, l, rfl, ⟨_, SqL.of hl.1⟩, fun D hD => ?_⟩
    refine lc_list (K := K) (a := l) (xs := ls.map V.ref) (fun i H' => ∃ ts, Ex H2 H' ∧ H' D = some (.lst (ts.map V.ref)) ∧ ToldsAt H' ts ((kz.zip ls).take i)) ⟨[], Ex.new hD, upd_same, .nil⟩ (fun i H' _ ⟨_, p1, _⟩ => SqL.of (p1 _ _ hl.1)) (fun i x H' gx hp => ?_) (fun H' hp => ?_)
    · obtain ⟨ts, p1, p2, p3⟩ := hp
      rw [List.getElem?_map] at gx
      obtain ⟨c, hc, rfl⟩ := Option.map_eq_some_iff.mp gx
      obtain ⟨z, hz, hcz⟩ := paired_get hl.2 hc
      have hi := (List.getElem?_eq_some_iff.mp hz).1
      have tl : ts.length = i := by rw [Paired.length p3, List.length_take, List.length_zip]; omega
      obtain ⟨zl, zs⟩ := sig_one (List.mem_of_getElem? hz)
      have hzz : (kz.zip ls)[i]? = some (outI rows z, c) := by
        rw [List.getElem?_zip_eq_some]
        exact ⟨by rw [← hkz, List.getElem?_map, hz]; rfl, hc⟩
      refine ⟨rfl, ?_⟩
      dsimp only [tYes]
      rw [if_pos rfl]
      refine (eu_tup (vs := [.int (outI rows z), .ref c]) (ea_cons (ev_fn (sp := sp_how_far K) (ea_cons (ev_var (i := 0) rfl) (ea_cons (ev_var (i := 3) rfl) ea_nil)) fun H3 e3 Q3 q3 => ⟨p, c, as, rows, z, rfl, (hT.ex (e02.trans (p1.trans e3))).tab, by rw [hT.m_]; omega, by rw [hT.m_]; omega, fun r hr => ⟨by rw [hT.w_ r hr, zl], hb r hr⟩, by omega, (p1.trans e3) _ _ hcz, fun y hy => by rcases zs y hy with e | e <;> rw [e] <;> unfold Bd <;> decide +kernel, q3⟩) (ea_cons (ev_var (i := 3) rfl) ea_nil)) (Nat.le_of_ble_eq_true rfl)) H' (Ex.refl _) _ fun t H4 nt e4 ht => ?_
      have p2' := e4 _ _ p2
      refine ⟨_, p2', by rw [List.length_map, tl]; exact small1000 (by omega), ts ++ [t], Ex.mut (p1.trans e4) hD, by rw [upd_same, List.map_append]; rfl, ?_⟩
      rw [take_snoc hzz]
      have t4 : ToldsAt H4 ts ((kz.zip ls).take i) := paired_imp (fun _ _ g => e4 _ _ g) p3
      exact tolds_keep p2' (fun b oo n g => by rw [upd_ne n]; exact g) (paired_snoc t4 ht)
    · obtain ⟨ts, p1, p2, p3⟩ := hp
      rw [List.length_map, List.take_of_length_le (by rw [List.length_zip]; omega)] at p3
      have tl : ts.length = ls.length := by rw [Paired.length p3, List.length_zip]; omega
      refine ⟨tb.ext (e02.trans p1), fun H3 eN t3 => ⟨D, ts, kz, rfl, SqL.of (eN _ _ p2 fun _ z => nomatch z), fun z => ?_, by omega, fun j a z ha hz H4 e4 => ?_, fun a H4 ha e4 => ?_⟩⟩
      · have hne : 0 < (sigs w).length := by
          refine List.length_pos_of_mem (sigs_mem (z := List.replicate w 1) (List.length_replicate ..) fun y hy => .inl (List.eq_of_mem_replicate hy))
        rw [z] at tl
        simp at tl
        omega
      · obtain ⟨e, he, hae⟩ := paired_get p3 ha
        rw [List.getElem?_zip_eq_some] at he
        rw [hz] at he
        cases he.1
        have ha4 := e4 _ _ (eN _ _ hae fun _ z => nomatch z)
        exact (ev_op (ev_var (i := 4) rfl) ev_c (rv_ixT (SqT.of ha4) rfl)) H4 (Ex.refl _) _ fun H5 e5 => ⟨e5, rfl⟩
      · obtain ⟨e, he, hae⟩ := paired_get p3 ha
        rw [List.getElem?_zip_eq_some] at he
        obtain ⟨z, hz, hcz⟩ := paired_get hl.2 he.2
        have e1z : e.1 = outI rows z := by
          have h1 := he.1
          rw [← hkz, List.getElem?_map, hkz, hz] at h1
          exact (Option.some.inj h1).symm
        rw [e1z] at hae
        refine k a e.2 z H4 (fresh_back e1 (nls _ (List.mem_of_getElem? he.2))) ((LamX.ExtN.of (e02.trans p1)).trans (eN.trans (LamX.ExtN.of e4))) (t3.ext e4) (e4 _ _ (eN _ _ hae fun _ z => nomatch z)) (e4 _ _ (eN _ _ (p1 _ _ hcz) fun _ z => nomatch z)) hz
-- DEF law
theorem el_colB {K : PySem.W.Frag} {n : Nat} {te : TE} {vs : List Nat} {j : Nat} {σ : L2.St} {H : Hp} {a : Addr} {bs : List Addr} {qs : List (List Int)} (f : List Int → Bool) (hσ : σ[n]? = some (some (.ref a))) (hx : H a = some (.lst (bs.map V.ref))) (hE : RowsAt H bs qs) (hz : qs.length ≤ 1000)
    (hw : ∀ u, wipe ((wipe σ vs).set j (some u)) vs = wipe σ vs)
    (he : ∀ b r H1, r ∈ qs → H b = some (.lst (r.map V.int)) → Ex H H1 → Ev te ((wipe σ vs).set j (some (.ref b))) H1 (.bl (f r))) : EvL (tLc (iList K (tVar n)) (gName j) tYes te vs) σ H ((qs.map f).map V.bl) := fun H1 e1 Q q => by
  have hx1 := e1 _ _ hx
  have el : bs.length = qs.length := Paired.length hE
  refine ⟨_, hσ, a, rfl, ⟨_, SqL.of hx1⟩, fun D hD => ?_⟩
  refine lc_list (K := K) (a := a) (xs := bs.map V.ref) (fun i H' => Ex H1 H' ∧ H' D = some (.lst (((qs.map f).take i).map V.bl))) ⟨Ex.new hD, upd_same⟩ (fun i H' _ p => SqL.of (p.1 _ _ hx1)) (fun i x H' gx p => ?_) (fun H' p => ?_)
  · obtain ⟨p1, p2⟩ := p
    rw [List.getElem?_map] at gx
    obtain ⟨b, hb, rfl⟩ := Option.map_eq_some_iff.mp gx
    obtain ⟨ed, hed, hr⟩ := paired_get hE hb
    refine ⟨hw _, ?_⟩
    show te _ _ _
    refine he b ed H (List.mem_of_getElem? hed) hr (Ex.refl H) _ (e1.trans p1) _ fun H4 e4 => ?_
    refine ⟨_, e4 _ _ p2, ?_, Ex.mut (p1.trans e4) hD, ?_⟩
    · rw [List.length_map, List.length_take, List.length_map]
      exact small1000 (by omega)
    · have hzz : (qs.map f)[i]? = some (f ed) := by rw [List.getElem?_map, hed]; rfl
      rw [upd_same, take_snoc hzz, List.map_append]
      rfl
  · obtain ⟨p1, p2⟩ := p
    rw [List.take_of_length_le (by rw [List.length_map, List.length_map]; omega)] at p2
    exact q D H' hD p1 p2
theorem tf_le {M : Nat} : ∀ (ts : List Str) (k : Nat) (acc : Str), (∀ t ∈ ts, t.length ≤ M) → (PySem.textFrom k acc ts).length ≤ acc.length + ts.length * (M + 2)
  | [], _, acc, _ => by show acc.length ≤ _; omega
  | t :: ts, k, acc, h => by
    have ih := tf_le ts (k + 1) (acc ++ (if k > 0 then ", " else "" : String) ++ t) (fun u hu => h u (.tail _ hu))
    have h1 := h t (.head _)
    have e : (acc ++ (if k > 0 then ", " else "" : String) ++ t).length ≤ acc.length + 2 + t.length := by
      rw [PySem.strLen_append, PySem.strLen_append]
      by_cases c : k > 0
      · rw [if_pos c]
        have : (Str.ofString ", ").length = 2 := by decide +kernel
        omega
      · rw [if_neg c]
        have : (Str.ofString "").length = 0 := by decide +kernel
        omega
    show (PySem.textFrom (k + 1) (acc ++ (if k > 0 then ", " else "" : String) ++ t) ts).length ≤ _
    rw [List.length_cons, Nat.add_mul]
    omega
theorem lt_le {M n : Nat} {ts : List Str} (h : ∀ t ∈ ts, t.length ≤ M) (hn : ts.length ≤ n) : (PySem.listText ts).length ≤ 2 + n * (M + 2) := by
  have h1 := tf_le ts 0 "[" h
  have e : (PySem.listText ts).length = (PySem.textFrom 0 "[" ts).length + 1 := by
    show (PySem.textFrom 0 "[" ts ++ "]").length = _
    rw [PySem.strLen_append]
    rfl
  have e2 : (Str.ofString "[").length = 1 := by decide +kernel
  have := Nat.mul_le_mul_right (M + 2) hn
  omega
theorem all_shown {M : Nat} : ∀ {ds : List PyData}, (∀ d ∈ ds, d.shown.length ≤ M) → (∀ t ∈ PyData.shownAll ds, t.length ≤ M) ∧ (PyData.shownAll ds).length = ds.length
  | [], _ => ⟨fun t ht => (nomatch ht), rfl⟩
  | d :: ds, h => by
    obtain ⟨i1, i2⟩ := all_shown (ds := ds) fun x hx => h x (.tail _ hx)
    refine ⟨fun t ht => ?_, congrArg (· + 1) i2⟩
    rcases List.mem_cons.mp ht with rfl | ht
    · exact h d (.head _)
    · exact i1 t ht
theorem list_shown {M n : Nat} {ds : List PyData} (h : ∀ d ∈ ds, d.shown.length ≤ M) (hn : ds.length ≤ n) : (PyData.list ds).shown.length ≤ 2 + n * (M + 2) := by
  obtain ⟨i1, i2⟩ := all_shown h
  exact lt_le i1 (by rw [i2]; exact hn)
theorem all_showable : ∀ {ds : List PyData}, (∀ d ∈ ds, d.showable = true) → PyData.showableAll ds = true
  | [], _ => rfl
  | d :: ds, h => by
    show (d.showable && PyData.showableAll ds) = true
    rw [h d (.head _), all_showable fun x hx => h x (.tail _ hx)]
    rfl
theorem int_text {i : Int} (h : i.natAbs.log2 < 1920) : (Str.ofString (toString i)).length ≤ 1000 := by
  have h2 : i.natAbs < 10 ^ 600 := by
    by_cases z : i.natAbs = 0
    · rw [z]; decide +kernel
    · exact Nat.lt_of_lt_of_le ((Nat.log2_lt z).mp h) (by decide +kernel)
  have e := PySem.int_text_length_le10 (k := 600) (by decide) h2
  rw [PySem.ofString_length]
  omega
theorem bd_log {n : Nat} {i : Int} (h : Bd n i) (hn : n ≤ 1900) : i.natAbs.log2 < 1920 := by
  by_cases z : i.natAbs = 0
  · rw [z]
    decide
  · exact (Nat.log2_lt z).mpr (Nat.lt_of_lt_of_le h (Nat.pow_le_pow_right (by decide) (by omega)))
def tabD (rows : List (List Int)) : PyData := .list (rows.map fun r => .list (r.map .int))
theorem tabD_ok {n : Nat} {rows : List (List Int)} (hb : ∀ r ∈ rows, ∀ y ∈ r, Bd n y) (hn : n ≤ 1900) (hm : rows.length ≤ 8) (hw : ∀ r ∈ rows, r.length ≤ 8) : (tabD rows).showable = true ∧ (tabD rows).shown.length ≤ 70000 := by
  have row : ∀ d ∈ rows.map (fun r => PyData.list (r.map .int)), d.showable = true ∧ d.shown.length ≤ 8018 := fun d hd => by
    obtain ⟨r, hr, rfl⟩ := List.mem_map.mp hd
    refine ⟨all_showable fun x hx => ?_, list_shown (M := 1000) (n := 8) (fun x hx => ?_) (by rw [List.length_map]; exact hw r hr)⟩
    · obtain ⟨y, hy, rfl⟩ := List.mem_map.mp hx
      exact decide_eq_true (bd_log (hb r hr y hy) hn)
    · obtain ⟨y, hy, rfl⟩ := List.mem_map.mp hx
      exact int_text (bd_log (hb r hr y hy) hn)
  refine ⟨all_showable fun d hd => (row d hd).1, ?_⟩
  have := list_shown (M := 8018) (n := 8) (fun d hd => (row d hd).2) (by rw [List.length_map]; exact hm)
  exact Nat.le_trans this (by decide)
theorem tab_dp {K : PySem.W.Frag} {H : Hp} {p : Addr} {as : List Addr} {rows : List (List Int)} (h : Tab H p as rows) : Dp K H (.ref p) (tabD rows) := .lst (SqL.of h.1) (dp_rows h.2)
theorem tabD_lay (rows : List (List Int)) : (tabD rows).canLay0 = true := canLay_rows rows
theorem tabD_depth (rows : List (List Int)) : (tabD rows).depth ≤ 2 := by
  have := depth_rows rows
  show PyData.depthAll _ + 1 ≤ 2
  omega
def Small (n : Nat) (rows : List (List Int)) : Prop := (∀ r ∈ rows, ∀ y ∈ r, Bd n y) ∧ rows.length ≤ 8 ∧ ∀ r ∈ rows, r.length ≤ 8
theorem tup_shown (a b : PyData) : (PyData.tuple [a, b]).shown.length ≤ a.shown.length + b.shown.length + 7 := by
  have h := PySem.tupleText_len_le [a.shown, b.shown]
  have e : (([a.shown, b.shown] : List Str).map (·.length)).sum = a.shown.length + b.shown.length := by simp
  rw [e] at h
  exact Nat.le_trans h (by show _ + 2 * 2 + 3 ≤ _; omega)
theorem ev_reprT41 {K : PySem.W.Frag} {ta : TE} {σ : L2.St} {H : Hp} {p : Addr} {as : List Addr} {A : List (List Int)} (ha : Ev ta σ H (.ref p)) (hA : Tab H p as A) (sA : Small 110 A) :
    Ev (tCB (Own2.rShown2 K) (tCons ta tNil)) σ H (.str (tabD A).shown) := fun H1 e Q k => ha H1 e _ fun H2 e2 => by
  have a1 := tabD_ok sA.1 (by decide) sA.2.1 sA.2.2
  refine .inl ⟨p, _, rfl, tab_dp (hA.ex (e.trans e2)), a1.1, PyData.hasDict_of_canLay _ (tabD_lay A), ?_, ?_, k _ e2⟩
  · have d1 := tabD_depth A
    show (tabD A).depth ≤ 50
    omega
  · exact Nat.le_trans a1.2 (by decide)
theorem shaped_tuple35 {ds : List PyData} (h : PyData.canLayAll0 ds = true) (h2 : PyData.depthAll ds ≤ 60) : SeqAt.shaped (.tuple ds) = true := by
  unfold SeqAt.shaped
  have e1 : (PyData.tuple ds).canLay0 = true := h
  have e2 : (PyData.tuple ds).depth ≤ 64 := by
    show PyData.depthAll ds + 1 ≤ 64
    omega
  rw [e1, decide_eq_true e2]
  rfl
theorem sum_small {l : List Int} {M : Nat} : (∀ y ∈ l, y.natAbs < M) → l.sum.natAbs ≤ l.length * M := by
  induction l with
  | nil => exact fun _ => Nat.zero_le _
  | cons y l ih =>
    intro h
    have h1 := h y (List.mem_cons_self ..)
    have h2 := ih fun x hx => h x (List.mem_cons_of_mem _ hx)
    rw [List.sum_cons, List.length_cons, Nat.add_mul, Nat.one_mul]
    omega
theorem intsW_ok {xs : List Int} (hb : ∀ x ∈ xs, Bd 820 x) (h8 : xs.length ≤ 8) : (PyData.list (xs.map .int)).showable = true ∧ (PyData.list (xs.map .int)).shown.length ≤ 70000 := by
  refine ⟨all_showable fun d hd => ?_, Nat.le_trans (list_shown (M := 1000) (n := 8) (fun d hd => ?_) (by rw [List.length_map]; exact h8)) (by decide)⟩
  · obtain ⟨y, hy, rfl⟩ := List.mem_map.mp hd
    exact decide_eq_true (bd_log (hb y hy) (by decide))
  · obtain ⟨y, hy, rfl⟩ := List.mem_map.mp hd
    exact int_text (bd_log (hb y hy) (by decide))
theorem rv_neD35 {K : PySem.W.Frag} {x y : V} {D : PyData} {H : Hp} (h1 : ∀ G, Ex H G → Dp K G x D) (h2 : ∀ G, Ex H G → Dp K G y D) (sh : SeqAt.shaped D = true) : RV (rNeD K) x y H (.bl false) := fun G e Q k => by
  refine ⟨D, D, h1 G e, h2 G e, sh, sh, ?_⟩
  rw [SeqAt.eqv_refl _ (SeqAt.canLay_of_shaped sh)]
  exact k G (Ex.refl _)
theorem ev_reprD35 {K : PySem.W.Frag} {ta : TE} {σ : L2.St} {H : Hp} {p : Addr} {D : PyData} (ha : Ev ta σ H (.ref p)) (hd : ∀ G, Ex H G → Dp K G (.ref p) D) (h1 : D.showable = true) (h2 : D.canLay0 = true) (h3 : D.depth ≤ 50) (h4 : D.shown.length ≤ 210009) : Ev (tCB (Own2.rShown2 K) (tCons ta tNil)) σ H (.str D.shown) := fun H1 e Q k => ha H1 e _ fun H2 e2 => .inl ⟨p, _, rfl, hd H2 (e.trans e2), h1, PyData.hasDict_of_canLay _ h2, h3, Nat.le_trans h4 (by decide), k _ e2⟩

theorem tabOk_exN {H H' : Hp} {p : Addr} {as : List Addr} {rows : List (List Int)} {m w : Nat} (T : TabOk H p as rows m w) (e : LamX.ExtN H H') : TabOk H' p as rows m w := ⟨⟨e _ _ T.tab.1 (fun _ z => nomatch z), paired_imp (R := fun a (r : List Int) => H a = some (.lst (r.map V.int))) (fun _ _ g => e _ _ g (fun _ z => nomatch z)) T.tab.2⟩, T.m_, T.w_, T.b⟩
theorem tabs_upd {H : Hp} {P a : Addr} {q : Str} {xs : List V} {o : HO} (t : LamX.Tabs [(P, q)] H) (h : H a = some (.lst xs)) : LamX.Tabs [(P, q)] (upd H a o) := fun p hp => by
  rw [List.mem_singleton.mp hp]
  obtain ⟨ps, h1, h2, h3⟩ := t (P, q) (List.mem_singleton.mpr rfl)
  have n1 : P ≠ a := fun z => by
    have h1 : H P = some (.tbl ps) := h1
    rw [z, h] at h1
    cases h1
  refine ⟨ps, by rw [upd_ne n1]; exact h1, h2, fun pos cv hc => ?_⟩
  obtain ⟨c, e1, e2⟩ := h3 pos cv hc
  have n2 : c ≠ a := fun z => by
    rw [z, h] at e2
    exact nomatch e2
  exact ⟨c, e1, by rw [upd_ne n2]; exact e2⟩
theorem pair46_ok {R : List (List Int)} {z : List Int} {w : Nat} (hb : ∀ r ∈ R, ∀ y ∈ r, Bd 100 y) (hm : R.length ≤ 8) (hw : ∀ r ∈ R, r.length = w) (w8 : w ≤ 8) (zl : z.length = w) (zs : ∀ y ∈ z, y = 1 ∨ y = -1) : (PyData.tuple [.int (outI R z), .list (z.map .int)]).showable = true ∧ (PyData.tuple [.int (outI R z), .list (z.map .int)]).shown.length ≤ 210009 := by
  obtain ⟨M, hM, hMl⟩ : ∃ M : Nat, 8 * 2 ^ 100 ≤ M ∧ M < 2 ^ 820 := ⟨8 * 2 ^ 100, Nat.le_refl _, by decide +kernel⟩
  have b1 : Bd 820 (outI R z) := by
    have lo : 0 ≤ outI R z := by
      unfold outI
      generalize (Ls.totals R z).map Ls.absI = l
      induction l with
      | nil => exact Int.le_refl _
      | cons y l ih =>
        unfold mx46
        split <;> omega
    have up : outI R z ≤ (M : Int) := by
      refine mx46_le (Int.natCast_nonneg _) fun y hy => ?_
      obtain ⟨t, ht, rfl⟩ := List.mem_map.mp hy
      obtain ⟨r, hr, rfl⟩ := List.mem_map.mp ht
      have h1 := sum_small (l := List.zipWith (· * ·) r z) (M := 2 ^ 100) fun y hy => by
        obtain ⟨i, hi, rfl⟩ := List.mem_iff_getElem.mp hy
        rw [List.getElem_zipWith]
        have h2 : Bd 100 (r[i]'(by rw [List.length_zipWith] at hi; omega)) := hb r hr _ (List.getElem_mem _)
        rcases zs (z[i]'(by rw [List.length_zipWith] at hi; omega)) (List.getElem_mem _) with e | e <;> rw [e]
        · rw [Int.mul_one]
          exact h2
        · rw [Int.mul_neg, Int.mul_one, Int.natAbs_neg]
          exact h2
      have h3 : (List.zipWith (· * ·) r z).length ≤ 8 := by rw [List.length_zipWith]; omega
      have h4 : (List.zipWith (· * ·) r z).length * 2 ^ 100 ≤ 8 * 2 ^ 100 := Nat.mul_le_mul_right _ h3
      have h5 : (Ls.dot r z).natAbs ≤ M := Nat.le_trans h1 (Nat.le_trans h4 hM)
      unfold Ls.absI
      clear h1 h4 hM hMl
      split <;> omega
    show (outI R z).natAbs < 2 ^ 820
    exact Nat.lt_of_le_of_lt (by clear hM hMl; omega) hMl
  have b2 := intsW_ok (xs := z) (fun x hx => by rcases zs x hx with e | e <;> rw [e] <;> unfold Bd <;> decide +kernel) (by omega)
  refine ⟨all_showable fun d hd => ?_, ?_⟩
  · rcases List.mem_cons.mp hd with rfl | hd
    · exact decide_eq_true (bd_log b1 (by decide))
    · rw [List.mem_singleton.mp hd]
      exact b2.1
  · have t1 : (PyData.int (outI R z)).shown.length ≤ 1000 := int_text (bd_log b1 (by decide))
    exact Nat.le_trans (tup_shown _ _) (by have := b2.2; omega)
def sp_law (K : PySem.W.Frag) (P : Addr) : Sp := fun vs H Q _ => ∃ (a : Addr) (ns : List Int), vs = [.ref a] ∧ SqL K H a (ns.map V.int) ∧ ns.length ≤ 63 ∧ H P = some (.tbl #[]) ∧ ∀ H', Q (.bl true) H'

theorem run_law (T : Txt K mg) (TB : TabB base mg T.c_law T.P_law) {s : Shared} {H : Hp} {a : Addr} {Q : VK} {E : XK} (e0 : Env0 P w K mg base callerA [] s H) (h : sp_law K T.P_law [.ref a] H Q E) : codeAny (model P w) callerA (.call (.ref T.f_law) ⟨[.ref a], []⟩) (CR CX0 [] P w H s Q E) s := by
  obtain ⟨oc_, od_, kV_, doc_, pm_, an_, cdv, ct_, osl_, e_, lk_, hc_⟩ := T.F_law.ex
  have hb_ := T.b_law
  rw [e_] at lk_ hb_
  have inK_ : K.In s.heap := e0.mod.kin.keeps fun b o look => (e0.bs b o look).1
  refine LamX.run_ofS (CX := CX0) (k := 5) (N := ["_law_script", "_law_cell", "_law_source", "_law_whole", "_law_table_here", "_law_some", "_law_outs", "_law_due", "_law_handed", "_law_turn", "_law_found", "_law_even", "_law_signs", "_law_row"]) (ps := ["_law_script"]) (us := [.ref a]) (vs := [.ref a]) lk_ hc_ sc_law ⟨rfl, by decide, by decide⟩ e0 (hb_ s [.ref a] inK_ rfl) (.cons rfl .nil) rfl fun hr => ?_
  refine ⟨_, PSs.nox (pss_cons (ps_for PassesOwn.never rfl (pi_list (pe_op op_cat (pe_lst (pa_cons (pe_call (ok__law_cell_at T) (hr.mono (by decide)) (by rfl) T.g__law_cell_at T.k__law_cell_at T.b__law_cell_at .nil pass0 (pa_cons (pv 0) (pa_cons pe_int pa_nil))) pa_nil)) (pe_slice (r := rSlL K) sl_list (pv 0) (po_some pe_int) (po_some pe_int)))) (pg_name (i := 1) sc_law.nd rfl (by first | exact Or.inl rfl | exact Or.inr rfl))
        (pss_cons (ps_set (i := 2) sc_law.nd rfl (by first | exact Or.inl rfl | exact Or.inr rfl) (pe_call (ok__law_source_of T) (hr.mono (by decide)) (by rfl) T.g__law_source_of T.k__law_source_of T.b__law_source_of .nil pass0 (pa_cons (pv 1) pa_nil)))
          (pss_cut (ps_set (i := 3) sc_law.nd rfl (by first | exact Or.inl rfl | exact Or.inr rfl) (pe_cmpR op_eq (pe_call (ok__law_next T) (hr.mono (by decide)) (by rfl) T.g__law_next T.k__law_next T.b__law_next .nil pass0 (pa_cons (pv 2) (pa_cons pe_int pa_nil))) pe_int (nomark _)))
          (pss_cut (ps_set (i := 4) sc_law.nd rfl (by first | exact Or.inl rfl | exact Or.inr rfl) (pe_call (ok__law_table T) hr (by rfl) T.g__law_table T.k__law_table T.b__law_table .nil pass0 (pa_cons (pv 2) (pa_cons pe_int pa_nil))))
          (pss_cut (ps_if (pt_truth (pv 3) (by intro _; rfl))
            (pss_one (ps_set (i := 4) sc_law.nd rfl (by first | exact Or.inl rfl | exact Or.inr rfl) (pe_call (ok__law_whole_table T) hr (by rfl) T.g__law_whole_table T.k__law_whole_table T.b__law_whole_table .nil pass0 (pa_cons (pv 2) (pa_cons pe_int pa_nil)))))
            pss_nil)
          (pss_cut (ps_set (i := 5) sc_law.nd rfl (by first | exact Or.inl rfl | exact Or.inr rfl) (pe_call (ok__law_signings T) (hr.mono (by decide)) (by rfl) T.g__law_signings T.k__law_signings T.b__law_signings .nil pass0 (pa_cons (pe_callB (id := "len") (r := rLenS K) call_len_seq (by rfl) T.n_len PySem.boot_len (pa_cons (pe_ix (r := rIxL K) ix_list (pv 4) pe_int (fun _ _ => rfl)) pa_nil)) pa_nil)))
          (pss_cut (ps_setLc (i := 6) (own := [("_law_signs", 12)]) (wi := iList K _) (g := gName 12) (tt := tYes) rfl sc_law.nd rfl rfl (sw_true rfl rfl rfl (by decide +kernel)) (pi_list (pv 5)) (blkOk_by (N := ["_law_script", "_law_cell", "_law_source", "_law_whole", "_law_table_here", "_law_some", "_law_outs", "_law_due", "_law_handed", "_law_turn", "_law_found", "_law_even", "_law_signs", "_law_row"]) (sc := (defScope s_law)) (by decide +kernel)) (fun _ _ _ _ _ => pg_name (i := 12) sc_law.nd rfl (Or.inl rfl)) (fun _ _ _ _ _ => pts_nil) (fun _ _ _ _ _ => (pe_call (ok__law_out T) (hr.mono (by decide)) (by rfl) T.g__law_out T.k__law_out T.b__law_out .nil pass0 (pa_cons (pv 4) (pa_cons (pv 12) pa_nil)))))
          (pss_cut (ps_set (i := 7) sc_law.nd rfl (by first | exact Or.inl rfl | exact Or.inr rfl) (pe_tup (pa_cons (pe_callB (id := "min") (r := rMin K) (cr_min rfl) (by rfl) T.n_min (by decide +kernel) (pa_cons (pv 6) pa_nil)) (pa_cons (pe_ix (r := rIxL K) ix_list (pv 5) (pe_bm PySem.F.plainAttrs_list PySem.F.slot_list_index PySem.F.type_list_index mt_index (pv 6) (pa_cons (pe_callB (id := "min") (r := rMin K) (cr_min rfl) (by rfl) T.n_min (by decide +kernel) (pa_cons (pv 6) pa_nil)) pa_nil)) (fun _ _ => rfl)) pa_nil))))
          (pss_cut (ps_set (i := 8) sc_law.nd rfl (by first | exact Or.inl rfl | exact Or.inr rfl) (pe_callB (id := "repr") (r := Own2.rShown2 K) (Own2.repr_shown2 rfl hr.units) (by rfl) T.n_repr (by decide +kernel) (pa_cons (pv 4) pa_nil)))
          (pss_cut (ps_for PassesOwn.never rfl (pi_range1 (by rfl) T.n_range (pa_cons pe_int pa_nil)) (pg_name (i := 9) sc_law.nd rfl (by first | exact Or.inl rfl | exact Or.inr rfl))
            (pss_cut (ps_set (i := 10) sc_law.nd rfl (by first | exact Or.inl rfl | exact Or.inr rfl) (pe_call (ok_spread T TB) hr (by rfl) T.g_spread T.k_spread T.b_spread .nil pass0 (pa_cons (pv 4) pa_nil)))
              (pss_cons (ps_if (PW.pt (pw_or (pt_cmpR (r := rNeD K) (op_neD hr.units) (pv 10) (pv 7) (nomark _)) (pw_or (pt_cmpR op_ne (pe_callB (id := "repr") (r := Own2.rShown2 K) (Own2.repr_shown2 rfl hr.units) (by rfl) T.n_repr (by decide +kernel) (pa_cons (pv 10) pa_nil)) (pe_callB (id := "repr") (r := Own2.rShown2 K) (Own2.repr_shown2 rfl hr.units) (by rfl) T.n_repr (by decide +kernel) (pa_cons (pv 7) pa_nil)) (nomark _)) (pw_or1 (pt_cmpR op_ne (pe_callB (id := "repr") (r := Own2.rShown2 K) (Own2.repr_shown2 rfl hr.units) (by rfl) T.n_repr (by decide +kernel) (pa_cons (pv 4) pa_nil)) (pv 8) (nomark _))))))
                (pss_one (ps_ret pe_bl))
                pss_nil)
              (pss_one (ps_expr (pe_bm PySem.F.plainAttrs_list PySem.F.slot_list_append PySem.F.type_list_append mt_append (pe_ix (r := rIxT K) ix_tup (pv 10) pe_int (fun _ _ => rfl)) (pa_cons pe_non pa_nil)))))))
          (pss_cut (ps_set (i := 11) sc_law.nd rfl (by first | exact Or.inl rfl | exact Or.inr rfl) (pe_callB (id := "all") (r := rAll K) (cr_all rfl) (by rfl) T.n_all (by decide +kernel) (pa_cons (pe_lc (own := [("_law_row", 13)]) (wi := iList K _) (g := gName 13) (tt := tYes) rfl sc_law.nd (pi_list (pv 4)) (blkOk_by (N := ["_law_script", "_law_cell", "_law_source", "_law_whole", "_law_table_here", "_law_some", "_law_outs", "_law_due", "_law_handed", "_law_turn", "_law_found", "_law_even", "_law_signs", "_law_row"]) (sc := (defScope s_law)) (by decide +kernel)) (fun _ _ _ _ _ => pg_name (i := 13) sc_law.nd rfl (Or.inl rfl)) (fun _ _ _ _ _ => pts_nil) (fun _ _ _ _ _ => (pe_cmpR op_eq (pe_op op_mod (pe_callB (id := "sum") (r := rSum K) (cr_sum rfl) (by rfl) T.n_sum (by decide +kernel) (pa_cons (pv 13) pa_nil)) pe_int) pe_int (nomark _)))) pa_nil)))
          (pss_one (ps_if (PW.pt (pw_and (pt_truth (pv 3) (by intro _; rfl)) (pw_and1 (pt_cmpR op_ne (pe_ix (r := rIxT K) ix_tup (pv 7) pe_int (fun _ _ => rfl)) (pe_ix (r := rIxL K) ix_list (pe_lst (pa_cons pe_int (pa_cons pe_int pa_nil))) (pe_callTy (T := "int") call_int1 (by rfl) T.n_int (by decide +kernel) (pa_cons (pv 11) pa_nil)) (fun _ _ => rfl)) (nomark _)))))
            (pss_one (ps_ret pe_bl))
            pss_nil)))))))))))))
      (pss_one (ps_ret pe_bl))), ?_⟩
  obtain ⟨a0, ns, ev0, hS, hlen, hP, q⟩ := h
  have ea : a0 = a := by cases ev0; rfl
  subst ea
  clear ev0
  refine ⟨_, rfl, a0, ns, 0, rfl, hS, by decide, fun c0 => ⟨(by show 1 ≤ sizeLine; decide), fun p0 np0 => ⟨_, rfl, ?_⟩⟩⟩
  have x0 := Ex.new (o := .lst [V.int c0]) np0
  refine ⟨1, rfl, 5, rfl, a0, _, rfl, ex_l x0 hS, fun p1 np1 => ?_⟩
  obtain ⟨ys, hys⟩ := cutV_ints ns (some 1) (some 5)
  have hyl : ys.length ≤ 63 := by
    have h1 := cutV_length (ns.map V.int) (some 1) (some 5)
    rw [hys, List.length_map, List.length_map] at h1
    omega
  rw [hys]
  have x1 := Ex.new (o := .lst (ys.map V.int)) np1
  refine ⟨p0, p1, _, _, rfl, rfl, x1 _ _ upd_same, upd_same, ?_, fun p2 np2 => ?_⟩
  · have : ([V.int c0].length + (ys.map V.int).length) ≤ 1000 := by
      rw [List.length_map]
      show 1 + ys.length ≤ 1000
      omega
    exact Nat.le_trans this (by decide)
  have x2 := Ex.new (o := .lst ([V.int c0] ++ ys.map V.int)) np2
  have x02 := (x0.trans x1).trans x2
  have tb0 : LamX.Tabs [(T.P_law, lamQ)] (upd (upd (upd H p0 (.lst [V.int c0])) p1 (.lst (ys.map V.int))) p2 (.lst ([V.int c0] ++ ys.map V.int))) := LamX.Tabs.ext (fun p hp => by rw [List.mem_singleton.mp hp]; exact LamX.TabS.nil hP) x02
  refine ⟨p2, rfl, ⟨_, SqL.of upd_same⟩, ?_⟩
  refine for_list (a := p2) (xs := [V.int c0] ++ ys.map V.int) (fun i σ H' => ∃ y1 y2 y3 y4 y5 y6 y7 y8 y9 y10 y11 y12 y13 : Option V, σ = [some (.ref a0), y1, y2, y3, y4, y5, y6, y7, y8, y9, y10, y11, y12, y13] ∧ H' p2 = some (.lst ([V.int c0] ++ ys.map V.int)) ∧ LamX.Tabs [(T.P_law, lamQ)] H')
    ⟨_, _, _, _, _, _, _, _, _, _, _, _, _, rfl, upd_same, tb0⟩ (fun i σ H' _ ⟨_, _, _, _, _, _, _, _, _, _, _, _, _, _, h, _⟩ => SqL.of h) (fun i x σ H0 hi hP' => ?_) (fun σ H' _ => ?_)
  rotate_left
  · dsimp only
    refine s_ret (v := .bl true) ?_ ?_
    · exact ev_c
    · exact fun H2 _ => q H2
  obtain ⟨y1, y2, y3, y4, y5, y6, y7, y8, y9, y10, y11, y12, y13, rfl, hp2, tb⟩ := hP'
  obtain ⟨c, rfl⟩ : ∃ c : Int, x = .int c := by
    rcases List.mem_append.mp (List.mem_of_getElem? hi) with h | h
    · exact ⟨c0, by simpa using h⟩
    · obtain ⟨c, _, rfl⟩ := List.mem_map.mp h
      exact ⟨c, rfl⟩
  clear tb0 hP
  generalize p2 = pL at hp2 ⊢
  clear hi hyl hys hS hlen x0 x1
  -- source, whole
  refine ⟨_, rfl, c, rfl, fun s H1 n1 e1 s1 => ?_⟩
  refine ⟨fun σ' H' => ∃ wh : Bool, σ' = [some (.ref a0), some (.int c), some (.ref s), some (.bl wh), y4, y5, y6, y7, y8, y9, y10, y11, y12, y13] ∧ ExB s H1 H' ∧ SrcAt H' s 1, ?_, ?_⟩
  · exact ⟨_, rfl, s, 3, 0, rfl, s1, by decide, by decide, (by unfold Bd; decide +kernel), fun f H2 f0 f1 e2 s2 => ⟨rfl, decide (V.int f = .int 0), rfl, e2, s2⟩⟩
  rintro σ' H2 ⟨wh, rfl, e2, s2⟩
  -- table
  refine ⟨fun σ' H' => ∃ (p : Addr) (as : List Addr) (rows : List (List Int)) (m w : Nat), σ' = [some (.ref a0), some (.int c), some (.ref s), some (.bl wh), some (.ref p), y5, y6, y7, y8, y9, y10, y11, y12, y13] ∧ TabOk H' p as rows m w ∧ (∀ r ∈ rows, ∀ y ∈ r, Bd 100 y) ∧ ExB s H1 H' ∧ SrcAt H' s 1001, ?_, ?_⟩
  · exact ⟨_, rfl, s, 1, 8, rfl, s2, by decide, by decide, by decide, fun as rows p H3 m w m1 m2 w1 w2 N hl e3 s3 => ⟨p, as, rows, m, w, rfl, ⟨N.tab, hl, fun r hr => (N.ok r hr).1, by omega, by omega, by omega, by omega⟩, fun r hr y hy => Nat.lt_of_le_of_lt ((N.ok r hr).2 y hy) (by decide +kernel), e2.trans e3, s3⟩⟩
  rintro σ' H3 ⟨p', as', rows', m', w', rfl, T3, b3, e3, s3⟩
  -- whole table
  refine ⟨fun σ' H' => ∃ (p : Addr) (as : List Addr) (rows : List (List Int)) (m w : Nat), σ' = [some (.ref a0), some (.int c), some (.ref s), some (.bl wh), some (.ref p), y5, y6, y7, y8, y9, y10, y11, y12, y13] ∧ TabOk H' p as rows m w ∧ (∀ r ∈ rows, ∀ y ∈ r, Bd 100 y) ∧ (wh = true → Tu.Uni rows m w) ∧ ExB s H1 H', ?_, ?_⟩
  · refine s_when (b := wh) (fun G e Q' q' => ⟨_, rfl, wh, rfl, q' G (Ex.refl _)⟩) (fun hw H4 e4 => ?_) (fun hw H4 e4 => ⟨p', as', rows', m', w', rfl, T3.ex e4, b3, (fun z => by rw [hw] at z; cases z), e3.trans (ExB.of e4)⟩)
    exact ⟨_, rfl, s, 1001, 8, rfl, s3.ex e4, by decide, by decide, by decide, fun as rows p H5 m w m1 m2 w1 w2 N hl hu e5 s5 => ⟨p, as, rows, m, w, rfl, ⟨N.tab, hl, fun r hr => (N.ok r hr).1, by omega, by omega, by omega, by omega⟩, fun r hr y hy => Nat.lt_of_le_of_lt ((N.ok r hr).2 y hy) (by decide +kernel), fun _ => hu, e3.trans ((ExB.of e4).trans e5)⟩⟩
  rintro σ' H4 ⟨p, as, rows, m, w, rfl, T4, b100, hu, e4⟩
  have dm := T4.b
  have eA := e4.ex n1 e1
  have hL := eA _ _ hp2
  have tb4 := tb.ext eA
  clear tb hp2 eA e4 e3 e2 e1 n1 s1 s2 s3 T3 b3
  have b110 : ∀ r ∈ rows, ∀ y ∈ r, Bd 110 y := fun r hr y hy => (b100 r hr y hy).mono (by decide)
  have sA : Small 110 rows := ⟨b110, by have := T4.m_; omega, fun r hr => by rw [T4.w_ r hr]; omega⟩
  obtain ⟨c00, r0, _, _, hh0, hl0, at0⟩ := T4.row0
  -- some
  refine ⟨fun σ' H' => ∃ (l : Addr) (ls : List Addr), σ' = [some (.ref a0), some (.int c), some (.ref s), some (.bl wh), some (.ref p), some (.ref l), y6, y7, y8, y9, y10, y11, y12, y13] ∧ Tab H' l ls (sigs w) ∧ Ex H4 H', ?_, ?_⟩
  · refine asg_call46 ?_
    refine (ev_is (ev_len (K := K) (ev_op (ev_var (i := 4) rfl) ev_c (rv_ixL (SqL.of T4.tab.1) at0)) (SqL.of hh0)) (show V.int ((r0.map V.int).length : Nat) = .int (w : Nat) by rw [List.length_map, hl0])) H4 (Ex.refl _) _ fun H5 e5 => ?_
    exact ⟨w, rfl, by omega, fun l ls H6 nl e6 hl => ⟨l, ls, rfl, hl, e5.trans e6⟩⟩
  rintro σ' H5 ⟨l, ls, rfl, hl, e5⟩
  have ll : ls.length = (sigs w).length := Paired.length hl.2
  have s256 : (sigs w).length ≤ 256 := sig_len w (by omega)
  have T5 := T4.ex e5
  -- outs
  refine ⟨fun σ' H' => ∃ o : Addr, σ' = [some (.ref a0), some (.int c), some (.ref s), some (.bl wh), some (.ref p), some (.ref l), some (.ref o), y7, y8, y9, y10, y11, y12, y13] ∧ H' o = some (.lst (((sigs w).map (outI rows)).map V.int)) ∧ Ex H5 H', ?_, ?_⟩
  · refine s_asgL (el_col (K := K) (n := 5) (vs := [12]) (j := 12) (f := outI rows) rfl hl.1 hl.2 (by omega) (fun u => rfl) fun b z H6 hz hb e6 => ?_) fun o H6 no e6 ho => ⟨o, rfl, ho, e6⟩
    obtain ⟨zl, zs⟩ := sig_one hz
    exact ev_fn (sp := sp__law_out K) (ea_cons (ev_var (i := 4) rfl) (ea_cons (ev_var (i := 12) rfl) ea_nil)) fun H7 e7 Q7 q7 => ⟨p, b, as, rows, z, rfl, (T5.ex (e6.trans e7)).tab, by rw [T5.m_]; omega, by rw [T5.m_]; omega, fun r hr => ⟨by rw [T5.w_ r hr, zl], b110 r hr⟩, by omega, (e6.trans e7) _ _ hb, fun y hy => by rcases zs y hy with e | e <;> rw [e] <;> unfold Bd <;> decide +kernel, q7⟩
  rintro σ' H6 ⟨o, rfl, ho, e6⟩
  have hl6 := hl.ex e6
  have T6 := T5.ex e6
  have L6 := (e5.trans e6) _ _ hL
  have tb6 := tb4.ext (e5.trans e6)
  have spos : 0 < (sigs w).length := List.length_pos_of_mem (sigs_mem (z := List.replicate w 1) (List.length_replicate ..) fun y hy => .inl (List.eq_of_mem_replicate hy))
  have flat : (((sigs w).map (outI rows)).map V.int).all flatV = true := flat_ints _
  -- due
  refine ⟨fun σ' H' => ∃ (d : Addr) (mo : Int) (zz : List Int) (qd : Addr), σ' = [some (.ref a0), some (.int c), some (.ref s), some (.bl wh), some (.ref p), some (.ref l), some (.ref o), some (.ref d), y8, y9, y10, y11, y12, y13] ∧ H' d = some (.tup [.int mo, .ref qd]) ∧ H' qd = some (.lst (zz.map V.int)) ∧ mo = outI rows zz ∧ (sigs w)[Lam1.bestOf ((sigs w).map (outI rows))]? = some zz ∧ (wh = true → mo = if (rows.all fun r => decide (r.sum % 2 = 0)) = true then 0 else 1) ∧ Ex H6 H', ?_, ?_⟩
  · refine ⟨_, rfl, o, _, rfl, SqL.of ho, by rw [List.length_map]; exact spos, fun mo hmo hle => ?_⟩
    obtain ⟨bm1, bm2⟩ := best_min hmo hle
    refine ⟨_, rfl, _, rfl, .inl ⟨rfl, _, SqL.of ho⟩, _, rfl, o, _, rfl, SqL.of ho, by rw [List.length_map]; exact spos, fun mo2 hmo2 hle2 => ?_⟩
    have em : mo2 = mo := Int.le_antisymm (hle2 _ hmo) (hle _ hmo2)
    subst em
    have hz0 := bm1
    rw [List.getElem?_map] at hz0
    obtain ⟨zz, hzz, ezz⟩ := Option.map_eq_some_iff.mp hz0
    have hil := (List.getElem?_eq_some_iff.mp hzz).1
    have hqd : ls[Lam1.bestOf ((sigs w).map (outI rows))]? = some ls[Lam1.bestOf ((sigs w).map (outI rows))] := List.getElem?_eq_getElem (by omega)
    obtain ⟨z2, hz2, hqz⟩ := paired_get hl6.2 hqd
    rw [hzz] at hz2
    cases hz2
    generalize ls[Lam1.bestOf ((sigs w).map (outI rows))] = qd at hqd hqz
    refine ⟨o, _, .int mo2, Lam1.bestOf ((sigs w).map (outI rows)), .int mo2, rfl, rfl, SqL.of ho, rfl, flat, by rw [List.getElem?_map, bm1]; rfl, by simp [eqV], fun k z' hk hz' => ?_, ?_⟩
    · rw [List.getElem?_map] at hz'
      obtain ⟨y, hy, rfl⟩ := Option.map_eq_some_iff.mp hz'
      have := bm2 k y hk hy
      simp [eqV, this]
    · refine ⟨l, _, (Lam1.bestOf ((sigs w).map (outI rows)) : Nat), .ref qd, rfl, rfl, SqL.of hl6.1, atI_nat (by rw [List.getElem?_map, hqd]; rfl), ?_⟩
      refine ⟨(by show 2 ≤ sizeLine; decide), fun d nd => ⟨d, mo2, zz, qd, rfl, upd_same, (Ex.new nd) _ _ hqz, ezz.symm, hzz, fun hw => ?_, Ex.new nd⟩⟩
      exact uni_least T6.m_ (by omega) T6.w_ (hu hw) hmo hle
  rintro σ' H7 ⟨d, mo, zz, qd, rfl, hd7, hq7, emo, hbest, hmo, e7⟩
  have T7 := T6.ex e7
  have L7 := e7 _ _ L6
  have tb7 := tb6.ext e7
  -- handed
  refine ⟨fun σ' H' => σ' = [some (.ref a0), some (.int c), some (.ref s), some (.bl wh), some (.ref p), some (.ref l), some (.ref o), some (.ref d), some (.str (PyData.shown (tabD rows))), y9, y10, y11, y12, y13] ∧ Ex H7 H', ?_, ?_⟩
  · exact s_asg (ev_reprT41 (ev_var (i := 4) rfl) T7.tab sA) fun H8 e8 => ⟨rfl, e8⟩
  rintro σ' H8 ⟨rfl, e8⟩
  have T8 := T7.ex e8
  have L8 := e8 _ _ L7
  have tb8 := tb7.ext e8
  have hd8 := e8 _ _ hd7
  have hq8 := e8 _ _ hq7
  obtain ⟨zl, zs⟩ := sig_one (List.mem_of_getElem? hbest)
  subst emo
  -- the turns
  refine ⟨fun σ' H' => ∃ y9 y10 : Option V, σ' = [some (.ref a0), some (.int c), some (.ref s), some (.bl wh), some (.ref p), some (.ref l), some (.ref o), some (.ref d), some (.str (PyData.shown (tabD rows))), y9, y10, y11, y12, y13] ∧ LamX.ExtN H8 H' ∧ LamX.Tabs [(T.P_law, lamQ)] H', ?_, ?_⟩
  · refine ⟨_, rfl, by decide, by decide, for_range (lo := 0) (n := (2 : Int).toNat) (fun i σ' H' => ∃ y9 y10 : Option V, σ' = [some (.ref a0), some (.int c), some (.ref s), some (.bl wh), some (.ref p), some (.ref l), some (.ref o), some (.ref d), some (.str (PyData.shown (tabD rows))), y9, y10, y11, y12, y13] ∧ LamX.ExtN H8 H' ∧ LamX.Tabs [(T.P_law, lamQ)] H') ⟨_, _, rfl, LamX.ExtN.refl _, tb8⟩ ?_ (fun σ' H' h => h)⟩
    rintro i σ' H9 hi ⟨z9, z10, rfl, e9, tb9⟩
    generalize ((0 : Int) + (i : Int)) = tn
    have T9 := tabOk_exN T8 e9
    refine ⟨fun σ' H' => ∃ (t q' : Addr), σ' = [some (.ref a0), some (.int c), some (.ref s), some (.bl wh), some (.ref p), some (.ref l), some (.ref o), some (.ref d), some (.str (PyData.shown (tabD rows))), some (.int tn), some (.ref t), y11, y12, y13] ∧ H9 q' = none ∧ LamX.ExtN H9 H' ∧ LamX.Tabs [(T.P_law, lamQ)] H' ∧ H' t = some (.tup [.int (outI rows zz), .ref q']) ∧ H' q' = some (.lst (zz.map V.int)), ?_, ?_⟩
    · refine ⟨_, rfl, p, as, rows, m, w, rfl, T9, b110, tb9, fun t q' z H' nq eN t' ht hq' hz => ?_⟩
      rw [hbest] at hz
      cases hz
      exact ⟨t, q', rfl, nq, eN, t', ht, hq'⟩
    rintro σ' H10 ⟨t, q', rfl, nq, eN, tb10, ht, hq'⟩
    have eN8 := e9.trans eN
    have hd10 := eN8 _ _ hd8 fun _ z => nomatch z
    have hq10 := eN8 _ _ hq8 fun _ z => nomatch z
    have T10 := tabOk_exN T8 eN8
    have d1 : ∀ {K : PySem.W.Frag} (G : Hp), Ex H10 G → Dp K G (.ref t) (.tuple [.int (outI rows zz), .list (zz.map .int)]) := fun G e => .tup (SqT.of (e _ _ ht)) (.cons (.int _) (.cons (.lst (SqL.of (e _ _ hq')) (dpAll_ints _)) .nil))
    have d2 : ∀ {K : PySem.W.Frag} (G : Hp), Ex H10 G → Dp K G (.ref d) (.tuple [.int (outI rows zz), .list (zz.map .int)]) := fun G e => .tup (SqT.of (e _ _ hd10)) (.cons (.int _) (.cons (.lst (SqL.of (e _ _ hq10)) (dpAll_ints _)) .nil))
    have ly : PyData.canLayAll0 [.int (outI rows zz), .list (zz.map .int)] = true := by
      show (true && (PyData.canLayAll0 (zz.map .int) && true)) = true
      rw [canLay_ints]
      rfl
    have dp : PyData.depthAll [.int (outI rows zz), .list (zz.map .int)] ≤ 1 := by
      have d1 := depth_ints zz
      show max 0 (max (PyData.depthAll (zz.map .int) + 1) 0) ≤ 1
      omega
    have sh := shaped_tuple35 ly (Nat.le_trans dp (by decide))
    have ok := pair46_ok (R := rows) (w := w) b100 (by rw [T8.m_]; omega) (fun r hr => by rw [T8.w_ r hr]) (by omega) zl zs
    refine q_when (σ := [some (.ref a0), some (.int c), some (.ref s), some (.bl wh), some (.ref p), some (.ref l), some (.ref o), some (.ref d), some (.str (PyData.shown (tabD rows))), some (.int tn), some (.ref t), y11, y12, y13]) (b := false) (et_is (et_or (a := false) (b := false) (et_test (ev_op (ev_var (i := 10) rfl) (ev_var (i := 7) rfl) (rv_neD35 d1 d2 sh))) (fun _ => et_is (et_or (a := false) (b := false) (et_is (et_test (ev_op (ev_reprD35 (ev_var (i := 10) rfl) d1 ok.1 ly (Nat.le_trans (Nat.succ_le_succ dp) (by decide)) ok.2) (ev_reprD35 (ev_var (i := 7) rfl) d2 ok.1 ly (Nat.le_trans (Nat.succ_le_succ dp) (by decide)) ok.2) (rv_ne rfl))) (by rw [decide_eq_true rfl]; rfl)) (fun _ => et_is (et_test (ev_op (ev_reprT41 (ev_var (i := 4) rfl) T10.tab sA) (ev_var (i := 8) rfl) (rv_ne rfl))) (by rw [decide_eq_true rfl]; rfl))) rfl)) rfl) (fun z => nomatch z) (fun _ H11 e11 => ?_)
    have hq11 := e11 _ _ hq'
    refine s_app (v := .non) hq11 (ev_op (ev_var (i := 10) rfl) ev_c (rv_ixT (SqT.of (e11 _ _ ht)) rfl)) ev_c (by rw [List.length_map]; omega) fun H12 e12 => ?_
    refine ⟨_, _, rfl, fun b ob hb nt => ?_, tabs_upd (tb10.ext (e11.trans e12)) (e12 _ _ hq11)⟩
    have h9 := e9 b ob hb nt
    have nbq : b ≠ q' := fun z => by rw [z, nq] at h9; cases h9
    rw [upd_ne nbq]
    exact (e11.trans e12) _ _ (eN b ob h9 nt)
  rintro σ' H9 ⟨z9, z10, rfl, e9, tb9⟩
  have T9 := tabOk_exN T8 e9
  have hd9 := e9 _ _ hd8 fun _ z => nomatch z
  -- even
  refine ⟨fun σ' H' => σ' = [some (.ref a0), some (.int c), some (.ref s), some (.bl wh), some (.ref p), some (.ref l), some (.ref o), some (.ref d), some (.str (PyData.shown (tabD rows))), z9, z10, some (.bl (rows.all fun r => decide (r.sum % 2 = 0))), y12, y13] ∧ Ex H9 H', ?_, ?_⟩
  · refine s_asg (ev_is (ev_allB (el_colB (K := K) (n := 4) (vs := [13]) (j := 13) (f := fun r => decide (r.sum % 2 = 0)) rfl T9.tab.1 T9.tab.2 (by rw [T9.m_]; omega) (fun u => rfl) fun b r H10 hr hb e10 => ?_)) ?_) fun H10 e10 => ⟨rfl, e10⟩
    · refine ev_is (ev_op (ev_op (x := .int r.sum) (fun G e Q q => ⟨_, rfl, b, r, rfl, SqL.of ((e10.trans e) _ _ hb), q G (Ex.refl _)⟩) ev_c (rv_I (by decide))) ev_c (rv_eq rfl)) ?_
      exact congrArg V.bl (decide_eq_decide.mpr ⟨fun z => V.int.inj z, fun z => by rw [z]⟩)
    · rw [List.all_map]
      rfl
  rintro σ' H10 ⟨rfl, e10⟩
  have hd10 := e10 _ _ hd9
  refine s_when (b := false) (et_is (et_and (a := wh) (b := false) (fun G e Q' q' => ⟨_, rfl, wh, rfl, q' G (Ex.refl _)⟩) fun hw => et_is (et_test (ev_op (x := .int (outI rows zz)) (y := .int (if (rows.all fun r => decide (r.sum % 2 = 0)) = true then 0 else 1)) (ev_op (ev_var (i := 7) rfl) ev_c (rv_ixT (SqT.of hd10) rfl)) (fun G e Q' q' => ?_) (rv_ne rfl))) (by rw [decide_eq_true (by rw [← hmo hw])]; rfl)) (by cases wh <;> rfl)) (fun z => nomatch z) (fun _ H11 e11 => ?_)
  · refine ⟨(by show 2 ≤ sizeLine; decide), fun L nL => (ev_int1 (ev_var (i := 11) rfl)) _ (Ex.refl _) _ fun G2 e2 => ⟨L, _, (if (rows.all fun r => decide (r.sum % 2 = 0)) = true then 1 else 0), _, rfl, rfl, SqL.of (e2 _ _ upd_same), ?_, q' G2 ((Ex.new nL).trans e2)⟩⟩
    cases (rows.all fun r => decide (r.sum % 2 = 0)) <;> rfl
  · exact ⟨_, _, _, _, _, _, _, _, _, _, _, _, _, rfl, (e10.trans e11) _ _ (e9 _ _ L8 fun _ z => nomatch z), tb9.ext (e10.trans e11)⟩
end
/-! ### the head: facts by names, the run -/
def d_is_whole : He.DefD := ⟨("is_whole", none), "is_whole", "is_whole", defArgs s_is_whole, defBody s_is_whole, defScope s_is_whole, [], []⟩
def d_all_lists : He.DefD := ⟨("all_lists", none), "all_lists", "all_lists", defArgs s_all_lists, defBody s_all_lists, defScope s_all_lists, [], []⟩
def d_is_table : He.DefD := ⟨("is_table", none), "is_table", "is_table", defArgs s_is_table, defBody s_is_table, defScope s_is_table, [], []⟩
def d_is_row : He.DefD := ⟨("is_row", none), "is_row", "is_row", defArgs s_is_row, defBody s_is_row, defScope s_is_row, [], []⟩
def d_check_table : He.DefD := ⟨("check_table", none), "check_table", "check_table", defArgs s_check_table, defBody s_check_table, defScope s_check_table, [], []⟩
def d_row_totals : He.DefD := ⟨("row_totals", none), "row_totals", "row_totals", defArgs s_row_totals, defBody s_row_totals, defScope s_row_totals, [], []⟩
def d_spread : He.DefD := ⟨("spread", none), "spread", "spread", defArgs s_spread, defBody s_spread, defScope s_spread, [], []⟩
def d_how_far : He.DefD := ⟨("how_far", none), "how_far", "how_far", defArgs s_how_far, defBody s_how_far, defScope s_how_far, [], []⟩
def d__law_source_of : He.DefD := ⟨("_law_source_of", none), "_law_source_of", "_law_source_of", defArgs s__law_source_of, defBody s__law_source_of, defScope s__law_source_of, [], []⟩
def d__law_next : He.DefD := ⟨("_law_next", none), "_law_next", "_law_next", defArgs s__law_next, defBody s__law_next, defScope s__law_next, [], []⟩
def d__law_one : He.DefD := ⟨("_law_one", none), "_law_one", "_law_one", defArgs s__law_one, defBody s__law_one, defScope s__law_one, [], []⟩
def d__law_cell_at : He.DefD := ⟨("_law_cell_at", none), "_law_cell_at", "_law_cell_at", defArgs s__law_cell_at, defBody s__law_cell_at, defScope s__law_cell_at, [], []⟩
def d__law_mixed : He.DefD := ⟨("_law_mixed", none), "_law_mixed", "_law_mixed", defArgs s__law_mixed, defBody s__law_mixed, defScope s__law_mixed, [], []⟩
def d__law_ends : He.DefD := ⟨("_law_ends", none), "_law_ends", "_law_ends", defArgs s__law_ends, defBody s__law_ends, defScope s__law_ends, [], []⟩
def d__law_net : He.DefD := ⟨("_law_net", none), "_law_net", "_law_net", defArgs s__law_net, defBody s__law_net, defScope s__law_net, [], []⟩
def d__law_net_drawn : He.DefD := ⟨("_law_net_drawn", none), "_law_net_drawn", "_law_net_drawn", defArgs s__law_net_drawn, defBody s__law_net_drawn, defScope s__law_net_drawn, [], []⟩
def d__law_stretches : He.DefD := ⟨("_law_stretches", none), "_law_stretches", "_law_stretches", defArgs s__law_stretches, defBody s__law_stretches, defScope s__law_stretches, [], []⟩
def d__law_swung : He.DefD := ⟨("_law_swung", none), "_law_swung", "_law_swung", defArgs s__law_swung, defBody s__law_swung, defScope s__law_swung, [], []⟩
def d__law_table : He.DefD := ⟨("_law_table", none), "_law_table", "_law_table", defArgs s__law_table, defBody s__law_table, defScope s__law_table, [], []⟩
def d__law_whole_table : He.DefD := ⟨("_law_whole_table", none), "_law_whole_table", "_law_whole_table", defArgs s__law_whole_table, defBody s__law_whole_table, defScope s__law_whole_table, [], []⟩
def d__law_whole_sums : He.DefD := ⟨("_law_whole_sums", none), "_law_whole_sums", "_law_whole_sums", defArgs s__law_whole_sums, defBody s__law_whole_sums, defScope s__law_whole_sums, [], []⟩
def d__law_signings : He.DefD := ⟨("_law_signings", none), "_law_signings", "_law_signings", defArgs s__law_signings, defBody s__law_signings, defScope s__law_signings, [], []⟩
def d__law_out : He.DefD := ⟨("_law_out", none), "_law_out", "_law_out", defArgs s__law_out, defBody s__law_out, defScope s__law_out, [], []⟩
def d_law : He.DefD := ⟨("law", none), "law", "law", defArgs s_law, defBody s_law, defScope s_law, [], []⟩
def fnL : List He.DefD := [d_is_whole, d_all_lists, d_is_table, d_is_row, d_check_table, d_row_totals, d_spread, d_how_far, d__law_source_of, d__law_next, d__law_one, d__law_cell_at, d__law_mixed, d__law_ends, d__law_net, d__law_net_drawn, d__law_stretches, d__law_swung, d__law_table, d__law_whole_table, d__law_whole_sums, d__law_signings, d__law_out, d_law]
def faL : List He.Fa := [.glo "is_whole", .glo "all_lists", .glo "is_table", .glo "is_row", .glo "check_table", .glo "row_totals", .glo "spread", .glo "how_far", .glo "_law_source_of", .glo "_law_next", .glo "_law_one", .glo "_law_cell_at", .glo "_law_mixed", .glo "_law_ends", .glo "_law_net", .glo "_law_net_drawn", .glo "_law_stretches", .glo "_law_swung", .glo "_law_table", .glo "_law_whole_table", .glo "_law_whole_sums", .glo "_law_signings", .glo "_law_out", .glo "law", .glo "SignError", .glo "BadTable", .free "abs", .free "all", .free "bool", .free "enumerate", .free "int", .free "isinstance", .free "len", .free "list", .free "max", .free "min", .free "range", .free "repr", .free "sum", .free "zip", .int "MOST" 8]
def exs (K : PySem.W.Frag) : List Bool := [
  decide (PySem.W.keepIn K (.ref (He.ga K "SignError")) = true),
  decide (PySem.W.subIn K (.ref (He.ga K "SignError")) (.type "BaseException") = some true),
  decide (PySem.W.typeIn K (.ref (He.ga K "SignError")) = some (.type "type")),
  decide (PySem.W.keepIn K (.ref (He.ga K "BadTable")) = true),
  decide (PySem.W.subIn K (.ref (He.ga K "BadTable")) (.type "BaseException") = some true),
  decide (PySem.W.typeIn K (.ref (He.ga K "BadTable")) = some (.type "type")),
  decide (PySem.W.excIn K (He.ga K "BadTable") aeT "ArithmeticError.__new__" = true)]
def exL (K : PySem.W.Frag) : Bool := (exs K).all id
theorem ex_at {K : PySem.W.Frag} (h : exL K = true) (i : Nat) {b : Bool} (e : (exs K)[i]? = some b) : b = true := List.all_eq_true.mp h b (List.mem_of_getElem? e)
def tfL : List He.Defn := [("spread", none)]
abbrev RL : PySem.W.OpenRow := PySem.W.OpenLaw.row PySem.Challenge.rw_signbook_k46_how_far_signs_are_out
abbrev hkL : PySem.W.Hook := L2.hookY 4 faL fnL [] tfL exL
def obL (s : PySem.W.SharedT) : He.AlX := L2.obsY 4 faL fnL [] tfL exL (HandSHeadRun.getT s)
theorem ob_eqL (s : PySem.W.SharedT) : obL s = hkL.obs s.abs := L2.obsY_eq (HandSHeadRun.getT_eq s)
def looseL : List Str := (["SignError", "BadTable", "is_whole", "all_lists", "MOST", "is_table", "is_row", "check_table", "row_totals", "spread", "how_far", "_law_source_of", "_law_next", "_law_one", "_law_cell_at", "_law_mixed", "_law_ends", "_law_net", "_law_net_drawn", "_law_stretches", "_law_swung", "_law_table", "_law_whole_table", "_law_whole_sums", "_law_signings", "_law_out"] : List Str)
theorem runL (w : World) : HandSHeadRun.RunEq RL (PySem.W.view RL.prog [32]) hkL obL 60000 looseL w := by
  intro os
  kernel_rfl
theorem factsL {w : World} {K : PySem.W.Frag} {h : Heap} {mg : Str → Option Value} {fa : Addr} (X : K.In h) (G : h.Ns mainGlobals mg) (hfa : mg ("law" : Str) = some (.ref fa)) (c : He.SaysX faL fnL [] tfL exL w h K) : Own.LawAskedT PySem.Challenge.rw_signbook_k46_how_far_signs_are_out w K 63 mg fa h := by
  have cd : He.SaysD faL fnL K := congrArg (fun z : He.AlT => z.1) c.t
  have ce : exL K = true := c.more
  obtain ⟨fd0, D0⟩ := cd.def_ 0 (d := d_is_whole) rfl
  obtain ⟨fd1, D1⟩ := cd.def_ 1 (d := d_all_lists) rfl
  obtain ⟨fd2, D2⟩ := cd.def_ 2 (d := d_is_table) rfl
  obtain ⟨fd3, D3⟩ := cd.def_ 3 (d := d_is_row) rfl
  obtain ⟨fd4, D4⟩ := cd.def_ 4 (d := d_check_table) rfl
  obtain ⟨fd5, D5⟩ := cd.def_ 5 (d := d_row_totals) rfl
  obtain ⟨fd6, D6⟩ := cd.def_ 6 (d := d_spread) rfl
  obtain ⟨fd7, D7⟩ := cd.def_ 7 (d := d_how_far) rfl
  obtain ⟨fd8, D8⟩ := cd.def_ 8 (d := d__law_source_of) rfl
  obtain ⟨fd9, D9⟩ := cd.def_ 9 (d := d__law_next) rfl
  obtain ⟨fd10, D10⟩ := cd.def_ 10 (d := d__law_one) rfl
  obtain ⟨fd11, D11⟩ := cd.def_ 11 (d := d__law_cell_at) rfl
  obtain ⟨fd12, D12⟩ := cd.def_ 12 (d := d__law_mixed) rfl
  obtain ⟨fd13, D13⟩ := cd.def_ 13 (d := d__law_ends) rfl
  obtain ⟨fd14, D14⟩ := cd.def_ 14 (d := d__law_net) rfl
  obtain ⟨fd15, D15⟩ := cd.def_ 15 (d := d__law_net_drawn) rfl
  obtain ⟨fd16, D16⟩ := cd.def_ 16 (d := d__law_stretches) rfl
  obtain ⟨fd17, D17⟩ := cd.def_ 17 (d := d__law_swung) rfl
  obtain ⟨fd18, D18⟩ := cd.def_ 18 (d := d__law_table) rfl
  obtain ⟨fd19, D19⟩ := cd.def_ 19 (d := d__law_whole_table) rfl
  obtain ⟨fd20, D20⟩ := cd.def_ 20 (d := d__law_whole_sums) rfl
  obtain ⟨fd21, D21⟩ := cd.def_ 21 (d := d__law_signings) rfl
  obtain ⟨fd22, D22⟩ := cd.def_ 22 (d := d__law_out) rfl
  obtain ⟨fd23, D23⟩ := cd.def_ 23 (d := d_law) rfl
  have F0 : Fun K "is_whole" "is_whole" s_is_whole (He.ga K "is_whole") fd0 := funD_fun D0
  have b0 := F0.binds (ps := ["thing"]) fun _ _ _ _ _ _ us hl => match us, hl with | [_], _ => rfl
  have F1 : Fun K "all_lists" "all_lists" s_all_lists (He.ga K "all_lists") fd1 := funD_fun D1
  have b1 := F1.binds (ps := ["choices"]) fun _ _ _ _ _ _ us hl => match us, hl with | [_], _ => rfl
  have F2 : Fun K "is_table" "is_table" s_is_table (He.ga K "is_table") fd2 := funD_fun D2
  have b2 := F2.binds (ps := ["thing"]) fun _ _ _ _ _ _ us hl => match us, hl with | [_], _ => rfl
  have F3 : Fun K "is_row" "is_row" s_is_row (He.ga K "is_row") fd3 := funD_fun D3
  have b3 := F3.binds (ps := ["thing"]) fun _ _ _ _ _ _ us hl => match us, hl with | [_], _ => rfl
  have F4 : Fun K "check_table" "check_table" s_check_table (He.ga K "check_table") fd4 := funD_fun D4
  have b4 := F4.binds (ps := ["thing"]) fun _ _ _ _ _ _ us hl => match us, hl with | [_], _ => rfl
  have F5 : Fun K "row_totals" "row_totals" s_row_totals (He.ga K "row_totals") fd5 := funD_fun D5
  have b5 := F5.binds (ps := ["table", "numbers"]) fun _ _ _ _ _ _ us hl => match us, hl with | [_, _], _ => rfl
  have F6 : Fun K "spread" "spread" s_spread (He.ga K "spread") fd6 := funD_fun D6
  have b6 := F6.binds (ps := ["table"]) fun _ _ _ _ _ _ us hl => match us, hl with | [_], _ => rfl
  have F7 : Fun K "how_far" "how_far" s_how_far (He.ga K "how_far") fd7 := funD_fun D7
  have b7 := F7.binds (ps := ["table", "signs"]) fun _ _ _ _ _ _ us hl => match us, hl with | [_, _], _ => rfl
  have F8 : Fun K "_law_source_of" "_law_source_of" s__law_source_of (He.ga K "_law_source_of") fd8 := funD_fun D8
  have b8 := F8.binds (ps := ["_law_cell"]) fun _ _ _ _ _ _ us hl => match us, hl with | [_], _ => rfl
  have F9 : Fun K "_law_next" "_law_next" s__law_next (He.ga K "_law_next") fd9 := funD_fun D9
  have b9 := F9.binds (ps := ["_law_source", "_law_many"]) fun _ _ _ _ _ _ us hl => match us, hl with | [_, _], _ => rfl
  have F10 : Fun K "_law_one" "_law_one" s__law_one (He.ga K "_law_one") fd10 := funD_fun D10
  have b10 := F10.binds (ps := ["_law_source", "_law_some"]) fun _ _ _ _ _ _ us hl => match us, hl with | [_, _], _ => rfl
  have F11 : Fun K "_law_cell_at" "_law_cell_at" s__law_cell_at (He.ga K "_law_cell_at") fd11 := funD_fun D11
  have b11 := F11.binds (ps := ["_law_script", "_law_k"]) fun _ _ _ _ _ _ us hl => match us, hl with | [_, _], _ => rfl
  have F12 : Fun K "_law_mixed" "_law_mixed" s__law_mixed (He.ga K "_law_mixed") fd12 := funD_fun D12
  have b12 := F12.binds (ps := ["_law_source", "_law_some"]) fun _ _ _ _ _ _ us hl => match us, hl with | [_, _], _ => rfl
  have F13 : Fun K "_law_ends" "_law_ends" s__law_ends (He.ga K "_law_ends") fd13 := funD_fun D13
  have b13 := F13.binds (ps := ["_law_source", "_law_many"]) fun _ _ _ _ _ _ us hl => match us, hl with | [_, _], _ => rfl
  have F14 : Fun K "_law_net" "_law_net" s__law_net (He.ga K "_law_net") fd14 := funD_fun D14
  have b14 := F14.binds (ps := ["_law_ends_here", "_law_arcs"]) fun _ _ _ _ _ _ us hl => match us, hl with | [_, _], _ => rfl
  have F15 : Fun K "_law_net_drawn" "_law_net_drawn" s__law_net_drawn (He.ga K "_law_net_drawn") fd15 := funD_fun D15
  have b15 := F15.binds (ps := ["_law_source", "_law_many", "_law_wide"]) fun _ _ _ _ _ _ us hl => match us, hl with | [_, _, _], _ => rfl
  have F16 : Fun K "_law_stretches" "_law_stretches" s__law_stretches (He.ga K "_law_stretches") fd16 := funD_fun D16
  have b16 := F16.binds (ps := ["_law_source", "_law_many", "_law_wide"]) fun _ _ _ _ _ _ us hl => match us, hl with | [_, _, _], _ => rfl
  have F17 : Fun K "_law_swung" "_law_swung" s__law_swung (He.ga K "_law_swung") fd17 := funD_fun D17
  have b17 := F17.binds (ps := ["_law_source", "_law_table_here"]) fun _ _ _ _ _ _ us hl => match us, hl with | [_, _], _ => rfl
  have F18 : Fun K "_law_table" "_law_table" s__law_table (He.ga K "_law_table") fd18 := funD_fun D18
  have b18 := F18.binds (ps := ["_law_source", "_law_most"]) fun _ _ _ _ _ _ us hl => match us, hl with | [_, _], _ => rfl
  have F19 : Fun K "_law_whole_table" "_law_whole_table" s__law_whole_table (He.ga K "_law_whole_table") fd19 := funD_fun D19
  have b19 := F19.binds (ps := ["_law_source", "_law_most"]) fun _ _ _ _ _ _ us hl => match us, hl with | [_, _], _ => rfl
  have F20 : Fun K "_law_whole_sums" "_law_whole_sums" s__law_whole_sums (He.ga K "_law_whole_sums") fd20 := funD_fun D20
  have b20 := F20.binds (ps := ["_law_table_here", "_law_xs"]) fun _ _ _ _ _ _ us hl => match us, hl with | [_, _], _ => rfl
  have F21 : Fun K "_law_signings" "_law_signings" s__law_signings (He.ga K "_law_signings") fd21 := funD_fun D21
  have b21 := F21.binds (ps := ["_law_many"]) fun _ _ _ _ _ _ us hl => match us, hl with | [_], _ => rfl
  have F22 : Fun K "_law_out" "_law_out" s__law_out (He.ga K "_law_out") fd22 := funD_fun D22
  have b22 := F22.binds (ps := ["_law_table_here", "_law_signs"]) fun _ _ _ _ _ _ us hl => match us, hl with | [_, _], _ => rfl
  have F23 : Fun K "law" "law" s_law (He.ga K "law") fd23 := funD_fun D23
  have b23 := F23.binds (ps := ["_law_script"]) fun _ _ _ _ _ _ us hl => match us, hl with | [_], _ => rfl
  obtain ⟨tk_MOST, gk_MOST⟩ := He.int_ok X G (cd.fact 40 (f := .int "MOST" 8) rfl)
  have e := hfa.symm.trans (He.glo_ok X G (cd.fact 23 (f := .glo "law") rfl))
  cases e
  obtain ⟨ocL, odL, kVL, docL, pmL, anL, cdvL, ctL, oslL, eL, lkL, hcL⟩ := F6.ex
  obtain ⟨cL, ecL⟩ := He.codeIn_ref hcL
  subst ecL
  have eC : He.codeOf K ("spread", none) = cL := by
    have lk2 := lkL
    rw [eL] at lk2
    exact He.codeOf_eq (p := ("spread", none)) lk2 rfl
  let T : Txt K mg := {
    f_is_whole := (He.ga K "is_whole"), fd_is_whole := fd0, F_is_whole := F0, g_is_whole := He.glo_ok X G (cd.fact 0 (f := .glo "is_whole") rfl), k_is_whole := F0.kp, b_is_whole := b0,
    f_all_lists := (He.ga K "all_lists"), fd_all_lists := fd1, F_all_lists := F1, g_all_lists := He.glo_ok X G (cd.fact 1 (f := .glo "all_lists") rfl), k_all_lists := F1.kp, b_all_lists := b1,
    f_is_table := (He.ga K "is_table"), fd_is_table := fd2, F_is_table := F2, g_is_table := He.glo_ok X G (cd.fact 2 (f := .glo "is_table") rfl), k_is_table := F2.kp, b_is_table := b2,
    f_is_row := (He.ga K "is_row"), fd_is_row := fd3, F_is_row := F3, g_is_row := He.glo_ok X G (cd.fact 3 (f := .glo "is_row") rfl), k_is_row := F3.kp, b_is_row := b3,
    f_check_table := (He.ga K "check_table"), fd_check_table := fd4, F_check_table := F4, g_check_table := He.glo_ok X G (cd.fact 4 (f := .glo "check_table") rfl), k_check_table := F4.kp, b_check_table := b4,
    f_row_totals := (He.ga K "row_totals"), fd_row_totals := fd5, F_row_totals := F5, g_row_totals := He.glo_ok X G (cd.fact 5 (f := .glo "row_totals") rfl), k_row_totals := F5.kp, b_row_totals := b5,
    f_spread := (He.ga K "spread"), fd_spread := fd6, F_spread := F6, g_spread := He.glo_ok X G (cd.fact 6 (f := .glo "spread") rfl), k_spread := F6.kp, b_spread := b6,
    f_how_far := (He.ga K "how_far"), fd_how_far := fd7, F_how_far := F7, g_how_far := He.glo_ok X G (cd.fact 7 (f := .glo "how_far") rfl), k_how_far := F7.kp, b_how_far := b7,
    f__law_source_of := (He.ga K "_law_source_of"), fd__law_source_of := fd8, F__law_source_of := F8, g__law_source_of := He.glo_ok X G (cd.fact 8 (f := .glo "_law_source_of") rfl), k__law_source_of := F8.kp, b__law_source_of := b8,
    f__law_next := (He.ga K "_law_next"), fd__law_next := fd9, F__law_next := F9, g__law_next := He.glo_ok X G (cd.fact 9 (f := .glo "_law_next") rfl), k__law_next := F9.kp, b__law_next := b9,
    f__law_one := (He.ga K "_law_one"), fd__law_one := fd10, F__law_one := F10, g__law_one := He.glo_ok X G (cd.fact 10 (f := .glo "_law_one") rfl), k__law_one := F10.kp, b__law_one := b10,
    f__law_cell_at := (He.ga K "_law_cell_at"), fd__law_cell_at := fd11, F__law_cell_at := F11, g__law_cell_at := He.glo_ok X G (cd.fact 11 (f := .glo "_law_cell_at") rfl), k__law_cell_at := F11.kp, b__law_cell_at := b11,
    f__law_mixed := (He.ga K "_law_mixed"), fd__law_mixed := fd12, F__law_mixed := F12, g__law_mixed := He.glo_ok X G (cd.fact 12 (f := .glo "_law_mixed") rfl), k__law_mixed := F12.kp, b__law_mixed := b12,
    f__law_ends := (He.ga K "_law_ends"), fd__law_ends := fd13, F__law_ends := F13, g__law_ends := He.glo_ok X G (cd.fact 13 (f := .glo "_law_ends") rfl), k__law_ends := F13.kp, b__law_ends := b13,
    f__law_net := (He.ga K "_law_net"), fd__law_net := fd14, F__law_net := F14, g__law_net := He.glo_ok X G (cd.fact 14 (f := .glo "_law_net") rfl), k__law_net := F14.kp, b__law_net := b14,
    f__law_net_drawn := (He.ga K "_law_net_drawn"), fd__law_net_drawn := fd15, F__law_net_drawn := F15, g__law_net_drawn := He.glo_ok X G (cd.fact 15 (f := .glo "_law_net_drawn") rfl), k__law_net_drawn := F15.kp, b__law_net_drawn := b15,
    f__law_stretches := (He.ga K "_law_stretches"), fd__law_stretches := fd16, F__law_stretches := F16, g__law_stretches := He.glo_ok X G (cd.fact 16 (f := .glo "_law_stretches") rfl), k__law_stretches := F16.kp, b__law_stretches := b16,
    f__law_swung := (He.ga K "_law_swung"), fd__law_swung := fd17, F__law_swung := F17, g__law_swung := He.glo_ok X G (cd.fact 17 (f := .glo "_law_swung") rfl), k__law_swung := F17.kp, b__law_swung := b17,
    f__law_table := (He.ga K "_law_table"), fd__law_table := fd18, F__law_table := F18, g__law_table := He.glo_ok X G (cd.fact 18 (f := .glo "_law_table") rfl), k__law_table := F18.kp, b__law_table := b18,
    f__law_whole_table := (He.ga K "_law_whole_table"), fd__law_whole_table := fd19, F__law_whole_table := F19, g__law_whole_table := He.glo_ok X G (cd.fact 19 (f := .glo "_law_whole_table") rfl), k__law_whole_table := F19.kp, b__law_whole_table := b19,
    f__law_whole_sums := (He.ga K "_law_whole_sums"), fd__law_whole_sums := fd20, F__law_whole_sums := F20, g__law_whole_sums := He.glo_ok X G (cd.fact 20 (f := .glo "_law_whole_sums") rfl), k__law_whole_sums := F20.kp, b__law_whole_sums := b20,
    f__law_signings := (He.ga K "_law_signings"), fd__law_signings := fd21, F__law_signings := F21, g__law_signings := He.glo_ok X G (cd.fact 21 (f := .glo "_law_signings") rfl), k__law_signings := F21.kp, b__law_signings := b21,
    f__law_out := (He.ga K "_law_out"), fd__law_out := fd22, F__law_out := F22, g__law_out := He.glo_ok X G (cd.fact 22 (f := .glo "_law_out") rfl), k__law_out := F22.kp, b__law_out := b22,
    f_law := (He.ga K "law"), fd_law := fd23, F_law := F23, g_law := He.glo_ok X G (cd.fact 23 (f := .glo "law") rfl), k_law := F23.kp, b_law := b23,
    f_SignError := He.ga K "SignError", g_SignError := He.glo_ok X G (cd.fact 24 (f := .glo "SignError") rfl),
    f_BadTable := He.ga K "BadTable", g_BadTable := He.glo_ok X G (cd.fact 25 (f := .glo "BadTable") rfl),
    n_abs := He.free_ok X G (cd.fact 26 (f := .free "abs") rfl),
    n_all := He.free_ok X G (cd.fact 27 (f := .free "all") rfl),
    n_bool := He.free_ok X G (cd.fact 28 (f := .free "bool") rfl),
    n_enumerate := He.free_ok X G (cd.fact 29 (f := .free "enumerate") rfl),
    n_int := He.free_ok X G (cd.fact 30 (f := .free "int") rfl),
    n_isinstance := He.free_ok X G (cd.fact 31 (f := .free "isinstance") rfl),
    n_len := He.free_ok X G (cd.fact 32 (f := .free "len") rfl),
    n_list := He.free_ok X G (cd.fact 33 (f := .free "list") rfl),
    n_max := He.free_ok X G (cd.fact 34 (f := .free "max") rfl),
    n_min := He.free_ok X G (cd.fact 35 (f := .free "min") rfl),
    n_range := He.free_ok X G (cd.fact 36 (f := .free "range") rfl),
    n_repr := He.free_ok X G (cd.fact 37 (f := .free "repr") rfl),
    n_sum := He.free_ok X G (cd.fact 38 (f := .free "sum") rfl),
    n_zip := He.free_ok X G (cd.fact 39 (f := .free "zip") rfl),
    t_MOST := tk_MOST, g_MOST := gk_MOST,
    k_SignError := of_decide_eq_true (ex_at ce 0 rfl),
    ex_SignError := of_decide_eq_true (ex_at ce 1 rfl),
    tx_SignError := of_decide_eq_true (ex_at ce 2 rfl),
    k_BadTable := of_decide_eq_true (ex_at ce 3 rfl),
    ex_BadTable := of_decide_eq_true (ex_at ce 4 rfl),
    tx_BadTable := of_decide_eq_true (ex_at ce 5 rfl),
    x_BadTable := of_decide_eq_true (ex_at ce 6 rfl),
    c_law := cL, P_law := He.tabOf K cL, lkL := ⟨ocL, odL, kVL, docL, pmL, anL, ctL, oslL, eL, lkL, hcL⟩ }
  have m0 : (("spread", none) : He.Defn) ∈ tfL := List.mem_singleton.mpr rfl
  have q1 := c.empty _ m0
  have q2 := c.out _ m0
  have q3 := c.hd _ m0
  have eT : He.cT K ("spread", none) = (cL, He.tabOf K cL) := by unfold He.cT; rw [eC]
  rw [eT] at q1 q2 q3
  exact ⟨cL, He.tabOf K cL, q1, q2, PySem.W.codeHd_of_K X q3, fun s a ns hl root G' inR gl tb env gT hS => run_law (base := root) T tb env ⟨a, ns, rfl, hS, hl, gT, fun _ => rfl⟩⟩
end SbE46
open PySem PySem.W PySem.Calls PyProof.Rows
set_option maxRecDepth 100000 in
set_option maxHeartbeats 0 in
theorem PySem.Challenge.cw_signbook_k46_how_far_signs_are_out_holds : PySem.Challenge.rw_signbook_k46_how_far_signs_are_out.Holds := by
  w_on; o_law
  refine HandSHeadRun.head_any (r := OpenLaw.row PySem.Challenge.rw_signbook_k46_how_far_signs_are_out) (q := view (OpenLaw.row PySem.Challenge.rw_signbook_k46_how_far_signs_are_out).prog [32]) (H := SbE46.hkL) (ob := SbE46.obL) (M := 60000) (loose := SbE46.looseL) (d := HandSHeadRun.topDef (OpenLaw.row PySem.Challenge.rw_signbook_k46_how_far_signs_are_out).prog 32) (kwd := []) SbE46.ob_eqL
    (by kernel_rfl) (fun s => by kernel_rfl) SbE46.runL (by kernel_rfl) (by kernel_rfl) (by kernel_rfl) (by rfl) (by first | assumption | decide +kernel) (by decide +kernel) ⟨rfl, rfl, rfl, rfl, rfl, by decide +kernel⟩ ?hw ?hc
  case hw => w_witness2
  case hc =>
    refine Own.walk_askedT (l := PySem.Challenge.rw_signbook_k46_how_far_signs_are_out) (n := 63) rfl (by decide) (by kernel_rfl) ?F
    intro w mg fa h Y G hmg0
    obtain ⟨K, KX, c⟩ := Y
    have hmg : mg ("law" : PySem.Str) = some (.ref fa) := by
      have e : (HandSHeadRun.topDef (OpenLaw.row PySem.Challenge.rw_signbook_k46_how_far_signs_are_out).prog 32).name = ("law" : PySem.Str) := by kernel_rfl
      rw [← e]
      exact hmg0
    exact ⟨K, KX, SbE46.factsL KX G hmg c⟩
