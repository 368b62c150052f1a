import PyProof.Rows.All
import Wide.All
import OpenK.AllK
import Wide.FinOn
import PyProof.EqAt
import PyProof.EqKinds
import PyProof.TupleCall
import HandS.ForMost
import HandS.Evl
import HandS.Wide
import HandS.Gcd
import HandS.IsInst
import HandS.Defaults
import HandS.Zip
import HandS.Conv
import HandS.Style
import HandS.TryOnly
import PyProof.ReprRoads
import HandS.Lambda
import HandS.Ends
import HandS.Words
import HandS.Flow
import HandS.List
import PyProof.LongRange
import PyProof.ListRange
import PyProof.ReprLen
import PyProof.CallFns
import HandS.ListItems
import HandS.SortInts
import KE.KExcInit
import KE.KIsAll
import KE.KTryMore
import HandS.ForExc
import HandS.ExcInit
import HandS.ExcIs
import HandS.ExcField
import HandS.FStr
import HandS.ClsMeth
import HandS.Head0
import HandS.Head1
import HandS.Head2
import HandS.HeadEnd
import HandS.HeadHook1
import HandS.HeadHook2
import HandS.HeadHook3
import HandS.HeadHook4
import HandS.HeadWalk
import KE.KStateDown
import HandS.Head3
import PyProof.ZipIter
import HandS.RevRange
import HandS.SortKw
import KE.KSortKey
import KE.SortKeyHeap
import KE.DataMinKey
import KE.DataMinMax
import HandS.FStrTup
import PyProof.ReprHeads
import PyProof.ReprLoop
import HandS.Dict
import KE.KeyNested
import KE.KDictDisplayH
import PyProof.DictRoadsH
import PyProof.DictMoreH
import HandS.Nested
import HandS.TupAny
import HandS.Iter
import KE.GoesEnum
import KE.GoesMore
import PyProof.Draws
import PyProof.MinMaxWalk
import PySem.Challenge.RW_signbook_k12_squares_forged
set_option Elab.async false
set_option linter.all false
set_option maxRecDepth 100000
set_option maxHeartbeats 2000000
namespace PySem
namespace SbE
open PySem.W PySem.Calls PyProof.Rows PySem.HandSPX Builtin Builtin.ObjectAttr
abbrev aeT : List Value := [.type "ArithmeticError", .type "Exception", .type "BaseException", .type "object"]
theorem ae_has (cs : Addr) (T : String) : (Value.ref cs :: aeT).contains (.type T) = aeT.contains (.type T) := by
  rw [List.contains_cons]
  rfl
theorem ae_pass (u : Value) (ca cs : Addr) : refuseLoop u "__setattr__" (.ref ca :: .ref cs :: aeT) = pure () := by
  rw [refuseLoop_ref, refuseLoop_ref]
  exact PySem.F.store_ArithmeticError.passes u
section
variable {pg : Program} {wd : World} {Ar : Around} {En : Value → Shared → Prop} {Rz : Result → Shared → Prop} {ha : Heap} {gs : Array GenState} {dn : Drawn} {tc : Nat} {st : OsState}
/-- self.nam = val, the first field of such an exception -/
theorem osaA {K : W.Frag} {nam : Str} {tk : Tok} {val : Value} {xa ca cs : Addr} {vs : Array Value} {kd : ClassData}
    (Y : K.In ha) (gx : ha.get? xa = some { cls := .ref ca, data := .fields vs }) (gk : W.clsIn K ca = some kd) (gm : kd.mro = .ref ca :: .ref cs :: aeT) (gd : kd.hasDict = true) (gn : W.findIn K (.ref ca) nam = some none)
    (next : ∀ hb tkb da, (∀ b o, b ≠ xa → ha.get? b = some o → hb.get? b = some o) → ha.objs.size ≤ da → da ≠ xa → hb.get? xa = some { cls := .ref ca, dict := some da, data := .fields vs } →
      hb.Ns1 da (fun y => if y = nam then some val else none) → Rz (.ok (.ret .none)) ⟨hb, gs, dn, tkb, st⟩) :
    codeAny (model pg wd) Ar (.call (.builtin "object.__setattr__") ⟨[.ref xa, .str nam tk, val], []⟩) Rz ⟨ha, gs, dn, tc, st⟩ := by
  have In0 : W.InstAt ha xa { cls := .ref ca, data := .fields vs } ca none := ⟨gx, rfl, rfl, trivial⟩
  have SO := PySem.F.store_object
  have gne : kd.mro.isEmpty = false := by rw [gm]; rfl
  have gob : kd.mro.contains (.type "object") = true := by rw [gm, List.contains_cons, ae_has, Bool.or_eq_true]; exact .inr (by decide +kernel)
  have xne : xa ≠ ha.objs.size := Nat.ne_of_lt (Heap.lt_size gx)
  have sb : W.Looks (model pg wd) ha (isInstance (.ref xa) (.type "object")) true := In0.type.andThen (W.looks_mroIn Y (by unfold W.mroIn; rw [gk, Option.bind_some, if_neg (by rw [gne]; decide), gob]))
  refine codeAny_call_builtin SO.slot.plain SO.entry (@W.check_slot (model pg wd) _ _ ⟨ha, gs, dn, tc, st⟩ "object.__setattr__" "object" "__setattr__" (.ref xa) [.str nam tk, val] [] _ SO.kind SO.split sb (SO.args (.ref xa) (.str nam tk) val) ?_)
  have lm : W.Looks (model pg wd) ha (mroOf (.ref ca)) kd.mro := (W.looks_clsIn Y gk).andThen .now
  have lt : W.Looks (model pg wd) ha (storeTaker? none) none := .now
  have lc : W.Looks (model pg wd) ha (classData ca) kd := W.looks_clsIn Y gk
  rw [W.osa_eq, refuse_eq]
  refine wpAny_bind (wpAny_bind (In0.type.at (wpAny_bind (lm.at ?_))))
  rw [gm, ae_pass]
  refine wpAny_pure (wpAny_bind (In0.type.at (wpAny_bind ((W.looks_findIn Y gn).at (wpAny_bind (lt.at ?_))))))
  show wpAny _ _ (storeInOwnDict (.ref xa) (.ref ca) (.str nam tk) nam val false) _ _ _
  obtain ⟨c1, c2, c3, c4, c5, c6, c7, c8, c9, c10, c11⟩ := kd
  dsimp only at gd
  subst gd
  unfold storeInOwnDict ownDictForStores
  repeat (first | with_reducible refine store_in_new ?_ ?_ | with_reducible refine wpAny_loadPart_at gx ?_ | with_reducible refine lc.at ?_ | wp_step)
  · exact ⟨_, #[], _, (Heap.get?_update_ne _ _ _ _ xne.symm).trans (Heap.get?_push_at rfl rfl), rfl, fun e he => absurd he (by simp), fun _ => rfl⟩
  · intro hb tkb hn hs
    have gx2 : (ha.push { cls := .type "dict", data := .dict #[] }).get? xa = some { cls := .ref ca, data := .fields vs } := Heap.get?_push_of_some _ gx
    refine next hb tkb ha.objs.size (fun b o nb ho => ?_) (Nat.le_refl _) xne.symm ?_ hn
    · exact (hs.2 b (Nat.ne_of_lt (Heap.lt_size ho))).trans ((Heap.get?_update_ne _ _ _ _ nb).trans (Heap.get?_push_of_some _ ho))
    · exact (hs.2 xa xne).trans (Heap.get?_update_self _ gx2 rfl)
end
end SbE
end PySem
namespace L2
open PySem PySem.Spec PyProof.Rows PySem.SbE
/-- what the written part says of such a class, whose base is the own class at cs -/
structure OwnA (K : PySem.W.Frag) (ca cs : Addr) : Prop where
  cls : ∃ nm q N bs sn sub ab col dd k0 k1 k2 k3 k5, K.lookup ca = some (excClassObj nm q ca N bs (.ref cs :: aeT) true sn sub ab col dd k0 k1 k2 k3 k5 "ArithmeticError.__new__")
  sa : PySem.W.findIn K (.ref ca) "__setattr__" = some (some (.builtin "object.__setattr__"))
  ex : PySem.W.subIn K (.ref ca) (.type "BaseException") = some true
  ty : PySem.W.typeIn K (.ref ca) = some (.type "type")
  kp : PySem.W.keepIn K (.ref ca) = true
section
variable {X : Cx} {pins : List (Addr × Obj)} {σ : St} {H : Hp} {s : Shared} {a ca cs da : Addr} {f : Str} {y : V} {u : Value} {E : Value → Shared → Prop} {A : Around}
theorem ostA {Q : Unit → Shared → Prop} (T : OwnA X.K ca cs) (I : Inv X pins σ H s) (e : H a = some (exo a ca none)) (gn : PySem.W.findIn X.K (.ref ca) f = some none) (ry : RelV y u)
    (k : ∀ da s', H da = none → da ≠ a → Inv X pins σ (upd (upd H da (exd da [(f, y)])) a (exo a ca (some da))) s' → Q () s') : wpAny (model X.prog X.w) A (setAttr (.ref a) f u) Q E s := by
  obtain ⟨nm, q, N, bs, sn, sub, ab, col, dd, k0, k1, k2, k3, k5, lk⟩ := T.cls
  obtain ⟨t1, go⟩ := exo_at I.hok e
  obtain ⟨hp, g, d, t, os⟩ := s
  refine PySem.W.set_plain I.kIn (ox := { cls := .ref ca, dict := none, data := .fields #[.ref t1, .none, .none, .none, .bool false, .none] }) (od := none) ⟨go, rfl, rfl, trivial⟩ T.sa ?_
  refine osaA (cs := cs) I.kIn go (kd := { name := nm, bases := bs, mro := .ref ca :: .ref cs :: aeT, ns := N, qualname := q, hasDict := true, slotNames := sn, subclasses := sub, abstract := ab, collection := col, hasDel := false }) (by unfold PySem.W.clsIn; rw [lk] <;> rfl) rfl rfl gn (fun hb tkb dx kk dn dne gxb hn => ?_)
  have dfree : H dx = none := I.hok.fresh dn
  have n1 : ∀ {b : Addr} {o : Obj}, hp.get? b = some o → b ≠ dx := fun {b o} z => Nat.ne_of_lt (Nat.lt_of_lt_of_le (Heap.lt_size z) dn)
  have n2 : ∀ {b : Addr}, H b = none → b ≠ a := fun {b} z w => by
    rw [w, e] at z
    cases z
  have U : Un X.fs [] H (upd (upd H dx (exd dx [(f, y)])) a (exo a ca (some dx))) hp hb := {
    keep := fun b o z n _ _ => kk b o (n2 n) z
    slot := fun b o z n _ _ => ⟨o.slots, kk b o (n2 n) z⟩
    free := fun b o z n _ => by rw [upd_ne (n2 n), upd_ne (n1 z)]; exact n
    there := fun b o z _ => by
      by_cases w : b = a
      · exact ⟨_, by rw [w]; exact gxb⟩
      · exact ⟨o, kk b o w z⟩
    tups := fun b xs z => by rw [upd_ne (at_ne e z exo_tup), upd_ne (ne_of_none z dfree)]; exact z
    frzs := fun b o v z => by rw [upd_ne (at_ne e z exo_frz), upd_ne (ne_of_none z dfree)]; exact z
    tbls := fun b ps z => ⟨#[], by rw [upd_ne (at_ne e z exo_tbl), upd_ne (ne_of_none z dfree), z]; simp⟩ }
  refine k dx _ dfree dne (I.un (t' := tkb) U fun b o z => ?_)
  by_cases w : b = a
  · subst w
    rw [upd_same] at z
    cases z
    exact exo_ok gxb
  · rw [upd_ne w] at z
    by_cases w2 : b = dx
    · subst w2
      rw [upd_same] at z
      cases z
      exact exd_ok hn (relO_put (fs := []) ry fun g => True.intro)
    · rw [upd_ne w2] at z
      refine (I.hok b o z).stay (fun c v hc zz => kk c v ?_ zz) (fun c hc => ?_) (fun c xs hc => ?_)
      · rcases hc with hc | hc
        · rw [hc]
          exact w
        · exact at_ne e hc exo_own
      · rw [upd_ne (at_ne e hc exo_own), upd_ne (ne_of_none hc dfree)]
        exact hc
      · rw [upd_ne (at_ne e hc exo_tup), upd_ne (ne_of_none hc dfree)]
        exact hc
/-- ArithmeticError.__init__(self, ..) -/
theorem initA {us : List Value} {Q : Value → Shared → Prop} (T : OwnA X.K ca cs) (I : Inv X pins σ H s) (e : H a = some (exo a ca none)) (hl : us.length ≤ sizeLine) (k : ∀ s', Inv X pins σ H s' → Q .none s') :
    wpAny (model X.prog X.w) A (call (.builtin "ArithmeticError.__init__") (.ref a :: us)) Q E s := by
  obtain ⟨nm, q, N, bs, sn, sub, ab, col, dd, k0, k1, k2, k3, k5, lk⟩ := T.cls
  obtain ⟨t1, go⟩ := exo_at I.hok e
  obtain ⟨hp, g, d, t, os⟩ := s
  refine wpAny_call (PySem.HandSPX.init_base PySem.F.excBase_ArithmeticError (ae_has cs) (I.kIn _ _ lk) go hl fun hb t2 kk gx => ?_)
  have J := I.write (t' := t) (x := a) (e := a) (o := exo a ca none) (by rw [e]; exact True.intro) (.inl rfl) kk ⟨_, gx⟩ (exo_ok gx)
  have same : upd H a (exo a ca none) = H := funext fun b => by
    by_cases w : b = a
    · rw [w, upd_same, e]
    · rw [upd_ne w]
  rw [same] at J
  exact k _ J
end
/-- Base.__init__(self, ..) -/
def tInitA (K : PySem.W.Frag) (ta : TA) : TE := fun σ H Q => ta σ H fun vs H1 => ∃ (a ca cs : Addr) (ws : List V), vs = .ref a :: ws ∧ ws.length ≤ 1000 ∧ OwnA K ca cs ∧ H1 a = some (exo a ca none) ∧ Q .non H1
/-- self.f = e -/
def tOstA (K : PySem.W.Frag) (f : Str) (to te : TE) : TS := fun D σ H => te σ H fun y H1 => to σ H1 fun x H2 => ∃ a ca cs : Addr, x = .ref a ∧ OwnA K ca cs ∧ PySem.W.findIn K (.ref ca) f = some none ∧
  H2 a = some (exo a ca none) ∧ ∀ dx, H2 dx = none → dx ≠ a → D.nx σ (upd (upd H2 dx (exd dx [(f, y)])) a (exo a ca (some dx)))
section
variable {X : Cx} {o e : Expr} {es : List Expr} {to te : TE} {ta : TA} {f B : Str} {p p' p1 p2 pos : Pos} {cs : Addr} {mc : Value}
theorem pe_initA {pl : Sem Bool} (hg : Gl X B) (hm : X.mg B = some (.ref cs)) (rd : PySem.W.readsIn X.K cs mc = true) (ga : PySem.W.specialIn X.K (.ref cs) "__getattribute__" = some (some (.builtin "type.__getattribute__")))
    (fi : PySem.W.findCls X.K (.ref cs) mc "__init__" = some (.val (.builtin "ArithmeticError.__init__"))) (ha : PA X (e :: es) ta) (hdb : (B == ("__debug__" : Str)) = false := by decide)
    (hc : eval (.Call (.Attribute (.Name B p1) "__init__" p2) (e :: es) [] pos) X.env = (do
      let b ← eval (.Name B p1) X.env
      standAt p2.atName
      let (g, fst) ← holding [b] (getMethod b "__init__" pl)
      callWith pos g fst (backTo pos (starEach (e :: es) X.env)) (backToKw pos (keywordEach [] X.env))) := by rfl)
    (he : starEach (e :: es) X.env = (false, eval e X.env) :: starEach es X.env := by rfl) (hpl : (backTo pos (starEach es X.env)).any (·.1) = false := by rfl) :
    PE X (.Call (.Attribute (.Name B p1) "__init__" p2) (e :: es) [] pos) (tInitA X.K ta) := by
  refine ⟨fun pins s σ H Q I h => ?_⟩
  refine PySem.W.methodCall_KW (ld_glob I hg hm ?_ hdb) hc
  refine PySem.W.method_cls I.kIn ga (PySem.W.cls_value I.kIn rd fi rfl ?_)
  show wpAny _ _ (callWith pos (Value.builtin "ArithmeticError.__init__") [] (backTo pos (starEach (e :: es) X.env)) []) _ _ _
  refine PyProof.Rows.callWith_method1 (thn (ha.run pos pins _ σ H _ (I.tok _) h) fun us s1 ⟨vs, H1, I1, r1, a, ca, cs', ws, ev, hl, T, ea, q⟩ => ?_) he hpl
  subst ev
  cases r1 with
  | @cons _ u0 _ ur ra rw' =>
    obtain rfl : u0 = Value.ref a := ra
    exact initA T I1 ea (by rw [← Paired.length rw', sizeLine_eq]; omega) fun s' J => ⟨.non, H1, J, rfl, q⟩
theorem ps_ostA (ho : PE X o to) (he : PE X e te) (hs : swapsWith e (some (.Attribute o f p')) pos.line X.env = pure false := by rfl) : PS X (.Assign [.Attribute o f p'] e pos) (tOstA X.K f to te) := by
  refine ⟨fun pins s σ H D I h => ?_⟩
  refine plainObj_wpAny_Assign_Attribute (thn (he.run pins s σ H _ I h) fun v s1 ⟨y, H1, I1, r1, q1⟩ => thn (ho.run pins s1 σ H1 _ I1 q1) fun u s2 ⟨x, H2, I2, r2, a, ca, cs, ex, T, hno, ea, q⟩ => ?_) hs
  subst ex
  obtain rfl : u = Value.ref a := r2
  exact ostA T I2 ea hno r1 fun dx s' n ne J => ⟨σ, _, J, q dx n ne⟩
end
/-- C(e, ..), C's own __init__ keeping sp -/
def tMkA (ca : Addr) (sp : Sp) (ta : TA) : St → Hp → XK → Prop := fun σ H Q => ta σ H fun vs H1 => vs.length ≤ 1000 ∧ ∀ a, H1 a = none → sp (.ref a :: vs) (upd H1 a (exo a ca none))
  (fun v H2 => v = .non ∧ ∃ (d : Addr) (fs : List (Str × V)), H2 a = some (exo a ca (some d)) ∧ H2 d = some (exd d fs) ∧ H1 d = none ∧ Q (.ref ca) (some d) (upd (del H2 a) d (.xd fs))) (fun _ _ _ => False)
theorem pmk_ownA {X : Cx} {CX : CXT} {x : Str} {e : Expr} {es : List Expr} {ta : TA} {p pos : Pos} {ca cs fi : Addr} {k : Nat} {fd : FuncData} {ps : List Str} {sp : Sp} (T : OwnA X.K ca cs) (iC : PySem.W.findIn X.K (.ref ca) "__init__" = some (some (.ref fi))) (tI : PySem.W.typeIn X.K (.ref fi) = some (.type "function"))
    (F1 : FnOk X.prog X.w X.K X.mg X.base CX k fi fd ps sp) (hr : Room (k + 1) X.A) (hb : Binds X.K fd ps []) (hx : Passes CX X (fun _ _ _ => False)) (hg : Gl X x) (hm : X.mg x = some (.ref ca)) (ha : PA X (e :: es) ta)
    (hdb : (x == ("__debug__" : Str)) = false := by decide) (he : starEach (e :: es) X.env = (false, eval e X.env) :: starEach es X.env := by rfl) (hpl : (backTo pos (starEach es X.env)).any (·.1) = false := by rfl) :
    PMk X (.Call (.Name x p) (e :: es) [] pos) (tMkA ca sp ta) := by
  intro pins s σ H Q I h
  obtain ⟨nm, q, N, bs, sn, sub, ab, col, dd, k0, k1, k2, k3, k5, lk⟩ := T.cls
  refine wpAny_Call_Name_kw (ld_glob I hg hm ?_ hdb)
  refine PySem.W.callWith_K (h₀ := X.base) I.ok.mod.kin T.kp (thn (ha.run pos pins s σ H _ I h) fun us s1 ⟨vs, H1, I1, r1, hz, q1⟩ => ⟨I1.kIn, ?_⟩) he hpl
  show wpAny _ _ (call (.ref ca) us) _ _ _
  obtain ⟨hp, g, dr, tk, os⟩ := s1
  have big : hp.objs.size ≤ hp.objs.size + 1 := Nat.le_succ _
  have hq := q1 (hp.objs.size + 1) (I1.hok.fresh big)
  have kk : ∀ b o, hp.get? b = some o → ((hp.push (PySem.W.kdv_tup us)).push (PySem.HandSPX.excO ca hp.objs.size)).get? b = some o := fun b o z => Heap.get?_push_of_some _ (Heap.get?_push_of_some _ z)
  have atE : ((hp.push (PySem.W.kdv_tup us)).push (PySem.HandSPX.excO ca hp.objs.size)).get? (hp.objs.size + 1) = some (PySem.HandSPX.excO ca hp.objs.size) := by heap_get
  have I2 := I1.laid (t' := tk) (a := hp.objs.size + 1) (o := exo (hp.objs.size + 1) ca none) (h' := (hp.push (PySem.W.kdv_tup us)).push (PySem.HandSPX.excO ca hp.objs.size)) kk big (exo_ok atE)
  have r2 : Vals (V.ref (hp.objs.size + 1) :: vs) (Value.ref (hp.objs.size + 1) :: us) := .cons rfl r1
  have hl : (Value.ref (hp.objs.size + 1) :: us).length = ps.length := by
    have z := r2.length
    rw [F1.len _ _ _ _ hq] at z
    exact z.symm
  have hus : us.length ≤ sizeLine := by
    rw [← Paired.length r1, sizeLine_eq]
    omega
  have hbd := hb _ (Value.ref (hp.objs.size + 1) :: us) I2.kIn (by rw [List.append_nil]; exact hl)
  rw [List.append_nil] at hbd
  refine wpAny_call (PySem.HandSPX.call_own PySem.F.excBase_ArithmeticError (ae_has cs) (I1.kIn _ _ lk) (PySem.W.looks_findIn I1.kIn iC) (fun self => PySem.W.bind_fn I1.kIn self tI) hus
    (codeAny_mono (F1.run _ X.stack _ _ ⟨Value.ref (hp.objs.size + 1) :: us, []⟩ (Value.ref (hp.objs.size + 1) :: us) _ _ (fun _ _ _ => False) (hr.make ca us []) (I2.env0.make ca us []) hbd r2 hq) fun r s' hq' => ?_))
  cases r with
  | error er => exact hx pins σ _ _ er s' I2 hq'
  | ok fl =>
    cases fl with
    | ret u =>
      obtain ⟨v, H2, os2, bare2, un2, hok2, rv, ev, d, fs, ea, ed, hd1, q2⟩ := hq'
      subst ev
      obtain ⟨h2, g2, d2, t2, os'⟩ := s'
      exact ⟨rv, mk_end (raises_own T.ex T.ty) I1 big kk un2 hok2 os2 bare2 ea ed hd1 q2⟩
    | next => exact False.elim hq'
    | brk => exact False.elim hq'
    | cont => exact False.elim hq'
end L2
namespace PySem
namespace SbE
open PySem PySem.Spec PySem.W PySem.Calls PyProof.Rows
section
variable {pg : Program} {wd : World} {Ar : Around} {En : Value → Shared → Prop} {st : Shared} {K : Frag} {xa D : Addr} {ob : Obj} {od : Option Obj}
theorem obj_data {nam : Str} {p g : Value} (hc : (clsIn K D).isSome = true) (h1 : findIn K (.ref D) nam = some (some p)) (h2 : specialIn K p "__get__" = some (some g)) (h3 : takesIn K p = some true) : findObj K D od nam = some (.bind g p) := by
  obtain ⟨kd, hc⟩ := Option.isSome_iff_exists.mp hc
  unfold findObj
  rw [hc, Option.bind_some, h1, Option.bind_some]
  simp [h2, h3]
/-- e.__class__, e an exception with a dict or without -/
theorem cls_exc {Q : Option Value → Shared → Prop} (h1 : findIn K (.ref D) "__getattribute__" = some (some (.builtin "BaseException.__getattribute__"))) (h2 : findIn K (.ref D) "__getattr__" = some none) (h3 : subIn K (.ref D) (.type "BaseException") = some true)
    (h4 : hasDictIn K D = true) (h5 : findIn K (.ref D) "__class__" = some (some (.builtin "object.__class__"))) (h6 : specialIn K (.builtin "object.__class__") "__get__" = some (some (.builtin "getset_descriptor.__get__"))) (h7 : takesIn K (.builtin "object.__class__") = some true)
    (h8 : mroIn K D (.type "object") = some true) (Y : K.In st.heap) (J : InstAt st.heap xa ob D od) (h : Q (some (.ref D)) { st with toks := st.toks + 1 }) : wpAny (model pg wd) Ar (getAttr? (.ref xa) "__class__") Q En st := by
  have fo : findObj K D od "__class__" = some (.bind (.builtin "getset_descriptor.__get__") (.builtin "object.__class__")) := obj_data (by obtain ⟨kd, hc, _⟩ := any_some h4; rw [hc]; rfl) h5 h6 h7
  obtain ⟨hh, g, d, t, os⟩ := st
  have T0 := J.type (M := model pg wd)
  have T1 := looks_findIn (M := model pg wd) Y h1
  have T2 := looks_findIn (M := model pg wd) Y h2
  have T3 := looks_find (M := model pg wd) Y J fo
  have sb : Looks (model pg wd) hh (isInstance (.ref xa) (.type "BaseException")) true := T0.andThen (looks_subIn Y h3)
  have z0 : (false && onTheHeap (Value.builtin "BaseException.__getattribute__")) = false := rfl
  have z2 : (Value.builtin "BaseException.__getattribute__" == Value.builtin "object.__getattribute__") = false := by decide +kernel
  have z1 : (onTheHeap (Value.ref D) && Value.builtin "BaseException.__getattribute__" == Value.builtin "object.__getattribute__") = false := by rw [z2]; rfl
  unfold getAttr? getAttrBy? getAttrBy
  refine wpAny_bind (wpAny_mkText (wpAny_bind (wpAny_attempt (wpAny_holding (wpAny_bind (T0.at (wpAny_bind (T1.at ?_))))))))
  show wpAny (model pg wd) _ (if (onTheHeap (Value.ref D) && Value.builtin "BaseException.__getattribute__" == Value.builtin "object.__getattribute__") = true then _ else _) _ _ _
  rw [z1, if_neg Bool.false_ne_true]
  unfold getAttrByItsOwn hookBefore
  refine wpAny_bind ?_
  rw [if_pos (show onTheHeap (Value.ref D) = true from rfl)]
  refine T2.at ?_
  refine wpAny_bind (wpAny_attempt (wpAny_holding ?_))
  unfold callGetattribute
  rw [z0, if_neg Bool.false_ne_true]
  unfold boundAndCalled
  rw [PySem.F.excAttr_ValueError.ga.bind (.ref xa)]
  refine wpAny_bind (wpAny_pure ?_)
  show wpAny (model pg wd) _ (call (.builtin "BaseException.__getattribute__") [.ref xa, .str "__class__" t]) _ _ _
  refine wpAny_call (codeAny_call_builtin PySem.F.excAttr_ValueError.ga.plain PySem.F.entry_bexc_ga ?_)
  refine @check_slot (model pg wd) _ _ ⟨hh, g, d, t + 1, os⟩ "BaseException.__getattribute__" "BaseException" "__getattribute__" (.ref xa) [.str "__class__" t] [] _ (by decide +kernel) (by decide +kernel) sb (PySem.F.args_bexc_ga (.ref xa) (.str "__class__" t)) ?_
  unfold Builtin.«object.__getattribute__»
  refine wpAny_bind (wpAny_of_eq (a := ((Value.ref xa : Value), [Value.str "__class__" t])) (by first | rfl | (simp only [slotArgs]; rfl)) ?_)
  refine wpAny_bind (wpAny_pure (wpAny_bind (T0.at (wpAny_bind (T3.at ?_)))))
  show wpAny (model pg wd) _ (holding [Value.builtin "object.__class__"] (call (.builtin "getset_descriptor.__get__") [.builtin "object.__class__", .ref xa, .ref D]) >>= ret) _ _ _
  refine wpAny_bind (wpAny_holding (wpAny_call (class_get (s := ⟨hh, g, d, t + 1, os⟩) (ox := ob) (od := od) Y J h8 ?_)))
  refine wpAny_pure ?_
  show wpAny (model pg wd) _ (handedOut (.ref D)) _ _ _
  rw [handedOut_of (v := .ref D) rfl]
  first
    | exact wpAny_pure (wpAny_pure h)
    | exact wpAny_pure h
    | exact wpAny_pure (wpAny_bind (wpAny_pure (wpAny_pure h)))
theorem kit_exc (h1 : findIn K (.ref D) "__getattribute__" = some (some (.builtin "BaseException.__getattribute__"))) (h2 : findIn K (.ref D) "__getattr__" = some none) (h3 : subIn K (.ref D) (.type "BaseException") = some true) (h4 : hasDictIn K D = true)
    (h5 : findIn K (.ref D) "__class__" = some (some (.builtin "object.__class__"))) (h6 : specialIn K (.builtin "object.__class__") "__get__" = some (some (.builtin "getset_descriptor.__get__"))) (h7 : takesIn K (.builtin "object.__class__") = some true) (h8 : mroIn K D (.type "object") = some true) :
    KitX K (.ref xa) (.ref D) (fun hh => InstAt hh xa ob D od) := by
  obtain ⟨kd, hc, _⟩ := any_some h4
  have at_ : ∃ c' d' sl', K.lookup D = some ⟨c', d', .cls kd, sl'⟩ := by
    unfold clsIn at hc
    split at hc
    · rename_i c' d' cd' sl' ho
      cases hc
      exact ⟨c', d', sl', ho⟩
    · cases hc
  obtain ⟨c', d', sl', lk⟩ := at_
  refine ⟨fun _ _ _ J => J.type, fun _ _ Y _ A' Q' E' s' k q => ?_, fun hh tp dd its n sl Y gt => ?_, fun Y J k => cls_exc h1 h2 h3 h4 h5 h6 h7 h8 Y J k⟩
  · unfold isType loadHead
    exact wpAny_bind (wpAny_loadPart (k _ _ (Y _ _ lk)) (wpAny_pure q))
  · refine Bool.eq_false_iff.mpr fun q => ?_
    have e : D = tp := Value.ref.inj (beq_iff_eq.mp q)
    subst e
    have z := (Y _ _ lk).symm.trans gt
    cases z
end
end SbE
end PySem
namespace L2
open PySem PySem.Spec PyProof.Rows PySem.SbE
/-- isinstance(e, c), e the exception that the suite holds, with fields or without -/
def rIsA (K : PySem.W.Frag) (cls : Value) (d : Option Addr) (a : Addr) : List V → Hp → VK → Prop := fun xs H Q => ∃ (D : Addr) (c : V) (cv : Value) (b : Bool), cls = .ref D ∧ ExcC K D ∧ xs = [.ref a, c] ∧ (∀ u, RelV c u → u = cv) ∧ PySem.W.kitOne K (.ref D) cv = some b ∧
  (d = none ∨ ∃ dd fs, d = some dd ∧ H dd = some (.xd fs)) ∧ Q (.bl b) H
theorem call_isA {X : Cx} {a : Addr} {cls : Value} {d : Option Addr} {oe : Obj} {pn : List (Addr × Obj)} (hz : Zc cls d oe) (hf : ∃ vs, oe.data = .fields vs) : CallR (X.suite a ((a, oe) :: pn)) (.builtin "isinstance") (rIsA X.K cls d a) := by
  intro pins s σ H xs us Q I r h
  obtain ⟨D, c, cv, b, ec, C, ex, hcv, e, hd, q⟩ := h
  subst ec ex
  cases r with
  | cons rx rr =>
    cases rr with
    | cons rt rr =>
      cases rr
      cases rx
      have ev := hcv _ rt
      subst ev
      obtain ⟨at_, _⟩ := I.pin (a, oe) (List.mem_append.mpr (.inl List.mem_cons_self))
      obtain ⟨vs, hv⟩ := hf
      have nc : PySem.W.notCls oe = true := by
        unfold PySem.W.notCls
        rw [hv] <;> rfl
      obtain ⟨od, J⟩ : ∃ od, PySem.W.InstAt s.heap a oe D od := by
        rcases hd with hd | ⟨dd, fs, hd, hx⟩
        · exact ⟨none, at_, hz.1, nc, by rw [hz.2, hd]; trivial⟩
        · have hok : ObjOk X.prog X.w H s.heap dd (.xd fs) := I.hok dd _ hx
          obtain ⟨mA, hns, _⟩ := hok
          obtain ⟨od, ho, _⟩ := lookIn_ns hns
          exact ⟨some od, at_, hz.1, nc, by rw [hz.2, hd]; exact ho⟩
      exact PySem.W.kia_one (kit_exc C.hg C.hk C.hs C.hd C.ha C.hn C.ht C.hm) I.kIn J e (fun z => nomatch z) fun tk => ⟨.bl b, H, I.kept (t' := tk) fun _ _ z => z, rfl, q⟩
end L2
namespace LamX
open PySem PySem.Spec PyProof.Rows L2
section
variable {X : Cx} {pins : List (Addr × Obj)} {σ : L2.St} {H : Hp} {s : Shared}
/-- x(), what it lets out told at the slots of the def that got the lambda -/
theorem act_at {CXg : CXT} {Eg : XK} {Ng : List Str} {qg : Str} {sg : Scope} {g f c' : Addr} {cdg pm ctv : Value} {params : Arguments} {body : Expr} {scope : Scope} {k i : Nat} {a : Str} {pn : List (Addr × Obj)} {xe : Value → Shared → Prop} {W : WX} {tb : XK → TE} {p1 p2 : Pos}
    (I : Inv X pins σ H s) (L : LamS X.env.scope scope) (hf : s.heap.get? f = some (PySem.W.kla_obj "<lambda>" (X.env.qual ++ "<lambda>") params body scope (cloFrom X.env.cells scope.names []) pm c' ctv)) (hfn : H f = none) (hfr : f ∉ frs X.stack)
    (hbind : bindArgs (PySem.W.kla_fn "<lambda>" (X.env.qual ++ "<lambda>") params body scope (cloFrom X.env.cells scope.names []) pm (.ref c') ctv) ⟨[], []⟩ = pure [])
    (tk : Takes ((cxOf CXg X.prog X.w X.K X.mg X.base Ng qg sg g cdg X.A X.stack s H Eg).tr pn xe) W) (hr : Room (k + 1) (X.A.deeper (envOfC qg sg s.heap.objs.size g cdg)))
    (hbody : ∀ (A : Around) (outer : List Env) (s : Shared) (H : Hp) (E : XK), Room k (A.deeper (lamEnv X scope s.heap.objs.size f c')) → PE (lamCx X A outer s H E scope f c') body (tb E))
    (hN : Ng[i]? = some a) (hv : Vis sg a) (hd : (a == ("__debug__" : Str)) = false := by decide) (hcd : (a == ("__classdict__" : Str)) = false := by decide) :
    PE ((cxOf CXg X.prog X.w X.K X.mg X.base Ng qg sg g cdg X.A X.stack s H Eg).tr pn xe) (.Call (.Name a p1) [] [] p2)
      (fun τ G Q => τ[i]? = some (some (.ref f)) ∧ G c' = some (CodeO c' (X.env.qual ++ "<lambda>")) ∧ tb (WE W τ) σ G Q) := by
  refine ⟨fun pz sz τ G Q J h => ?_⟩
  obtain ⟨hs, hc, ht⟩ := h
  refine wpAny_Call_Name_kw (thn ((pe_var (pos := p1) (i := i) hN hv hd hcd).run pz sz τ G (fun v G1 => v = .ref f ∧ G1 = G) J ⟨.ref f, hs, rfl, rfl⟩) fun u s1 ⟨v, G1, J1, r1, q1⟩ => ?_)
  obtain ⟨ev, eG⟩ := q1
  subst ev
  rw [eG] at J1
  obtain rfl : u = Value.ref f := r1
  have fat := J1.base.keep f _ hf hfn hfr (fun z => nomatch (show f ∈ ([] : List Addr) from z))
  refine PySem.W.callWith_F0 ⟨_, _, _, _, fat⟩ ?_
  have un : Un (frs X.stack) [] H G s.heap s1.heap := J1.base
  obtain ⟨⟨oc, vs, t, hoc, hdc, hvc⟩, _, _⟩ := J1.hok c' _ hc
  have rc : codeAny (model X.prog X.w) (X.A.deeper (envOfC qg sg s.heap.objs.size g cdg)) (.call (.ref f) ⟨[], []⟩) (CR (L2.CX X.prog X.w) (envOfC qg sg s.heap.objs.size g cdg :: X.stack) X.prog X.w G s1 Q (WE W τ)) s1 := by
    refine PySem.W.kla_callFunE hr.depth fat rfl L.co L.gen rfl ⟨c', oc, vs, t, rfl, hoc, hdc, hvc⟩ ?_
    rw [hbind]
    refine wpAny_pure (wpAny_newFunctionEnv (fun y hy => (L.own y hy).2) (fun y hy => absurd hy (by simp)) (fun hz hns hsb => ⟨J1.nolimit.fresh _ hsb, ?_⟩) L.kind)
    show codeAny _ _ (.expr body (lamEnv X scope s1.heap.objs.size f c')) _ _
    have kp : ∀ b o, s1.heap.get? b = some o → hz.get? b = some o := fun b o e => hsb.extBut b o (Nat.ne_of_lt (Heap.lt_size e)) (Heap.get?_push_of_some _ e)
    have JL : Inv (lamCx X (X.A.deeper (envOfC qg sg s.heap.objs.size g cdg)) (envOfC qg sg s.heap.objs.size g cdg :: X.stack) s1 G (WE W τ) scope f c') [] σ G { s1 with heap := hz, toks := s1.toks + ([] : List (Str × Value)).length } :=
      lam_start2 I L J1.env0 hr.hd un hns kp
    refine PySem.W.kla_codeExpr (wpAny_mono ((hbody _ _ s1 G (WE W τ) (hr.deeper _)).run [] _ _ G Q JL ht) (fun v s' hq => ?_) fun e s' hq => hq)
    obtain ⟨w', G', J', rv, q⟩ := hq
    exact ⟨w', G', J'.os, J'.bare, J'.base, J'.hok, rv, q⟩
  have pass := passAt tk τ
  refine wpAny_call (codeAny_mono rc fun r s' hq => ?_)
  cases r with
  | error e => exact pass pz G s1 e s' J1 hq
  | ok fl =>
    cases fl with
    | ret u => exact J1.after hq
    | next => exact False.elim hq
    | brk => exact False.elim hq
    | cont => exact False.elim hq
end
/-- the def that calls what it got, a exception told at its slots; TT: what it makes of the lambda's reading -/
def GivesAt (X : Cx) (Ng : List Str) (x : Str) (sg : Scope) (g : Addr) (cdg : Value) (bg : List Stmt) (a : Str) (q : Str) (TT : (XK → Hp → VK → Prop) → Hp → VK → Prop) : Prop :=
  ∀ (f c' : Addr) (s : Shared) (H : Hp) (Q : VK) (tl : XK → Hp → VK → Prop),
    (∀ (W : WX) (pn : List (Addr × Obj)) (xe : Value → Shared → Prop) (p1 p2 : Pos), Takes ((cxOf C8.CX0 X.prog X.w X.K X.mg X.base Ng x sg g cdg X.A X.stack s H C8.E0).tr pn xe) W →
      PE ((cxOf C8.CX0 X.prog X.w X.K X.mg X.base Ng x sg g cdg X.A X.stack s H C8.E0).tr pn xe) (.Call (.Name a p1) [] [] p2) (fun τ G Q => τ[0]? = some (some (.ref f)) ∧ G c' = some (CodeO c' q) ∧ tl (WE W τ) G Q)) →
    H c' = some (CodeO c' q) → TT tl H Q →
    ∃ t, PSs (cxOf C8.CX0 X.prog X.w X.K X.mg X.base Ng x sg g cdg X.A X.stack s H C8.E0).nox bg t ∧ t { nx := fun _ H' => Q .non H', rt := Q } (L2.start Ng [.ref f]) H
section
variable {X : Cx}
/-- x(lambda: body) -/
theorem pe_lamAt {T : List (Addr × Str)} {TT : (XK → Hp → VK → Prop) → Hp → VK → Prop} {x a : Str} {g c P : Addr} {k : Nat} {pg : Arguments} {bg : List Stmt} {sg : Scope} {dV kV doc pm cdv ct oc : Value} {an od : Option Addr} {osl : Array (Option Value)} {Ng : List Str}
    {params : Arguments} {body : Expr} {scope : Scope} {t : XK → TE} {p lpos pos : Pos} (hg : Gl X x) (hm : X.mg x = some (.ref g)) (hk : PySem.W.keepIn X.K (.ref g) = true)
    (lk : X.K.lookup g = some ⟨oc, od, .func (PySem.W.fnOf x x pg bg sg dV kV doc pm an cdv ct), osl⟩) (hcg : PySem.W.codeIn X.K cdv x = true) (hb : L2.Binds X.K (PySem.W.fnOf x x pg bg sg dV kV doc pm an cdv ct) [a] []) (Sg : FnScope Ng [a] sg) (hNg : Ng[0]? = some a) (hva : Vis sg a)
    (hG : GivesAt X Ng x sg g cdv bg a (X.env.qual ++ "<lambda>") TT)
    (TB : TabB X.base X.mg c P) (hcode : X.env.code = .ref c) (hmT : (P, X.env.qual ++ "<lambda>") ∈ T) (hu : ∀ p ∈ T, p.1 = P → p.2 = X.env.qual ++ "<lambda>") (hr : Room (k + 2) X.A) (L : LamS X.env.scope scope) (hdef : defaultsOf params X.env = ([], []))
    (hbind : ∀ (q : Str) (cl : List (Str × Addr)) (pm cv ctv : Value), bindArgs (PySem.W.kla_fn "<lambda>" q params body scope cl pm cv ctv) ⟨[], []⟩ = pure [])
    (hbody : ∀ (A : Around) (outer : List Env) (s : Shared) (H : Hp) (E : XK) (f c' : Addr), Room k (A.deeper (lamEnv X scope s.heap.objs.size f c')) → PE (lamCx X A outer s H E scope f c') body (t E))
    (hdb : (x == ("__debug__" : Str)) = false := by decide) (hd : (a == ("__debug__" : Str)) = false := by decide) (hcd : (a == ("__classdict__" : Str)) = false := by decide) :
    PE X (.Call (.Name x p) [.Lambda params body scope lpos] [] pos) (tLam T TT t) := by
  refine ⟨fun pins s σ H Q I h => ?_⟩
  obtain ⟨hT, h⟩ := h
  refine wpAny_Call_Name_kw (ld_glob I hg hm ?_ hdb)
  refine PySem.W.callWith_K (h₀ := X.base) I.ok.mod.kin hk ?_ (by rfl) (by rfl)
  show wpAny (model X.prog X.w) _ (spliced ((false, eval (.Lambda params body scope lpos) X.env) :: backTo pos (starEach [] X.env))) _ _ s
  refine Calls.spliced_cons (lam_make2 I TB hcode hmT hu hT hdef (L.has I.ok) fun f c' pm' ctv H1 s' I1 eN T1 hf hfn hfr hco => ?_)
  refine Calls.spliced_nil ⟨I1.kIn, ?_⟩
  have rc : codeAny (model X.prog X.w) X.A (.call (.ref g) ⟨[.ref f], []⟩) (CR C8.CX0 X.stack X.prog X.w H1 s' Q C8.E0) s' :=
    run_ofS (N := Ng) (ps := [a]) (us := [.ref f]) (vs := [.ref f]) lk hcg Sg hr I1.env0 (hb s' [.ref f] I1.kIn rfl) (.cons rfl .nil) rfl fun hr' => by
      obtain ⟨t', ht', hq'⟩ := hG f c' s' H1 Q (fun E H' Q' => t E σ H' Q') (fun W pn xe p1 p2 tk => act_at (i := 0) I1 L hf hfn hfr (hbind _ _ _ _ _) tk hr' (fun A outer s H E hr2 => hbody A outer s H E f c' hr2) hNg hva hd hcd) hco (h H1 eN T1)
      exact ⟨t', ht'.nox, hq'⟩
  refine wpAny_call (codeAny_mono rc fun r s2 hq => ?_)
  cases r with
  | error e => exact (show False from hq).elim
  | ok fl =>
    cases fl with
    | ret u => exact I1.after hq
    | next => exact False.elim hq
    | brk => exact False.elim hq
    | cont => exact False.elim hq
end
end LamX
namespace L2
open PySem PySem.Spec PyProof.Rows PySem.SbE
/-! facts of the classes as truths that the kernel reckons -/
def fiB (K : PySem.W.Frag) (C : Addr) : Bool := match PySem.W.findCls K (.ref C) (.type "type") "__init__" with
  | some (.val v) => decide (v = .builtin "ArithmeticError.__init__")
  | _ => false
theorem fiB_ok {K : PySem.W.Frag} {C : Addr} (h : fiB K C = true) : PySem.W.findCls K (.ref C) (.type "type") "__init__" = some (.val (.builtin "ArithmeticError.__init__")) := by
  unfold fiB at h
  split at h
  · rename_i v e
    rw [e, of_decide_eq_true h]
  · cases h
def ownK (C CS : Addr) : Obj → Bool
  | ⟨.type m, _, .cls kd, sl⟩ => decide (m = "type") && (decide (kd.mro = .ref C :: .ref CS :: aeT) && (kd.hasDict && (!kd.hasDel && match sl.toList with
    | [_, _, _, _, some (.builtin n), _] => decide (n = "ArithmeticError.__new__")
    | _ => false)))
  | _ => false
theorem ownK_ok {C CS : Addr} {o : Obj} (h : ownK C CS o = true) : ∃ nm q N bs sn sub ab col dd k0 k1 k2 k3 k5, o = excClassObj nm q C N bs (.ref CS :: aeT) true sn sub ab col dd k0 k1 k2 k3 k5 "ArithmeticError.__new__" := by
  obtain ⟨oc, od, dt, sl⟩ := o
  cases oc with
  | type m =>
    cases dt with
    | cls kd =>
      obtain ⟨h1, h⟩ := Bool.and_eq_true_iff.mp h
      obtain ⟨h2, h⟩ := Bool.and_eq_true_iff.mp h
      obtain ⟨h3, h⟩ := Bool.and_eq_true_iff.mp h
      obtain ⟨h4, h5⟩ := Bool.and_eq_true_iff.mp h
      have e1 := of_decide_eq_true h1
      have e2 := of_decide_eq_true h2
      obtain ⟨nm, bs, mro, ns, qn, hd, sn, sub, ab, col, del⟩ := kd
      dsimp only at h3 h4 e2
      have e4 : del = false := by
        cases del
        · rfl
        · cases h4
      subst e1 e2 h3 e4
      obtain ⟨l⟩ := sl
      dsimp only at h5
      obtain ⟨k0, k1, k2, k3, k5, e6⟩ : ∃ k0 k1 k2 k3 k5, l = [k0, k1, k2, k3, some (.builtin "ArithmeticError.__new__"), k5] := by
        split at h5
        · exact ⟨_, _, _, _, _, by rw [of_decide_eq_true h5]⟩
        · cases h5
      subst e6
      exact ⟨nm, qn, ns, bs, sn, sub, ab, col, od, k0, k1, k2, k3, k5, rfl⟩
    | _ => cases h
  | _ => cases dt <;> cases h
def ownB (K : PySem.W.Frag) (C CS : Addr) : Bool := (match K.lookup C with
  | some o => ownK C CS o
  | none => false) && (decide (PySem.W.findIn K (.ref C) "__setattr__" = some (some (.builtin "object.__setattr__"))) && (decide (PySem.W.subIn K (.ref C) (.type "BaseException") = some true) && (decide (PySem.W.typeIn K (.ref C) = some (.type "type")) && PySem.W.keepIn K (.ref C))))
theorem ownB_ok {K : PySem.W.Frag} {C CS : Addr} (h : ownB K C CS = true) : OwnA K C CS := by
  obtain ⟨h1, h⟩ := Bool.and_eq_true_iff.mp h
  obtain ⟨h2, h⟩ := Bool.and_eq_true_iff.mp h
  obtain ⟨h3, h⟩ := Bool.and_eq_true_iff.mp h
  obtain ⟨h4, h5⟩ := Bool.and_eq_true_iff.mp h
  refine ⟨?_, of_decide_eq_true h2, of_decide_eq_true h3, of_decide_eq_true h4, h5⟩
  cases e : K.lookup C with
  | none =>
    rw [e] at h1
    cases h1
  | some o =>
    rw [e] at h1
    obtain ⟨nm, q, N, bs, sn, sub, ab, col, dd, k0, k1, k2, k3, k5, eo⟩ := ownK_ok h1
    exact ⟨nm, q, N, bs, sn, sub, ab, col, dd, k0, k1, k2, k3, k5, by rw [eo]⟩
def ecB (K : PySem.W.Frag) (D : Addr) : Bool := decide (PySem.W.findIn K (.ref D) "__getattribute__" = some (some (.builtin "BaseException.__getattribute__"))) && (decide (PySem.W.findIn K (.ref D) "__getattr__" = some none) && (decide (PySem.W.subIn K (.ref D) (.type "BaseException") = some true) && (PySem.W.hasDictIn K D && (decide (PySem.W.findIn K (.ref D) "__class__" = some (some (.builtin "object.__class__"))) &&
  (decide (PySem.W.specialIn K (.builtin "object.__class__") "__get__" = some (some (.builtin "getset_descriptor.__get__"))) && (decide (PySem.W.takesIn K (.builtin "object.__class__") = some true) && decide (PySem.W.mroIn K D (.type "object") = some true)))))))
theorem ecB_ok {K : PySem.W.Frag} {D : Addr} (h : ecB K D = true) : ExcC K D := by
  obtain ⟨h1, h⟩ := Bool.and_eq_true_iff.mp h
  obtain ⟨h2, h⟩ := Bool.and_eq_true_iff.mp h
  obtain ⟨h3, h⟩ := Bool.and_eq_true_iff.mp h
  obtain ⟨h4, h⟩ := Bool.and_eq_true_iff.mp h
  obtain ⟨h5, h⟩ := Bool.and_eq_true_iff.mp h
  obtain ⟨h6, h⟩ := Bool.and_eq_true_iff.mp h
  obtain ⟨h7, h8⟩ := Bool.and_eq_true_iff.mp h
  exact ⟨of_decide_eq_true h1, of_decide_eq_true h2, of_decide_eq_true h3, h4, of_decide_eq_true h5, of_decide_eq_true h6, of_decide_eq_true h7, of_decide_eq_true h8⟩
theorem funD_fun {K : PySem.W.Frag} {x qual : Str} {st : Stmt} {f : Addr} {fd : FuncData} (F : FunD K x qual (defArgs st) (defBody st) (defScope st) [] [] f fd) : Fun K x qual st f fd := by
  obtain ⟨oc, od, dV, kV, doc, pm, an, cdv, ct, osl, e, lk, hcd, hD, _⟩ := F.ex
  rcases hD with ⟨_, rfl⟩ | ⟨z, _⟩
  · exact ⟨⟨oc, od, kV, doc, pm, an, cdv, ct, osl, e, lk, hcd⟩, F.kp⟩
  · exact absurd rfl z
/-! what a made exception leaves -/
/-- the heap behind C(x), C's __init__ storing one field -/
def excH (H : Hp) (a dx C : Addr) (f : Str) (x : V) : Hp := upd (del (upd (upd (upd H a (exo a C none)) dx (exd dx [(f, x)])) a (exo a C (some dx))) a) dx (.xd [(f, x)])
theorem excH_at {H : Hp} {a dx C : Addr} {f : Str} {x : V} : excH H a dx C f x dx = some (.xd [(f, x)]) := upd_same
theorem excH_keep {H : Hp} {a dx C : Addr} {f : Str} {x : V} (ha : H a = none) (hd : H dx = none) {b : Addr} {o : HO} (h : H b = some o) : excH H a dx C f x b = some o := by
  unfold excH
  rw [upd_ne (ne_of_none h hd), del_ne (ne_of_none h ha), upd_ne (ne_of_none h ha), upd_ne (ne_of_none h hd), upd_ne (ne_of_none h ha)]
  exact h
abbrev lamQ : Str := ("law.<locals>." : Str) ++ ("<lambda>" : Str)
end L2
namespace L2
open PySem PySem.Spec PyProof.Rows He
/-! the head's facts, over a written part that holds the statics, too -/
def asY (g : Addr → Option Obj) (n : Nat) : List Addr := cStatics :: asD g n
def obsY (n : Nat) (fa : List Fa) (fn : List DefD) (ts : List Tab) (tf : List Defn) (ex : PySem.W.Frag → Bool) (g : Addr → Option Obj) : AlX := (obsT fa fn ts (frT g (asY g n)), ex (frT g (asY g n)) && tabsB g tf (frT g (asY g n)))
theorem saysY {n : Nat} {fa : List Fa} {fn : List DefD} {ts : List Tab} {tf : List Defn} {ex : PySem.W.Frag → Bool} {w : World} {h : Heap} (e : obsY n fa fn ts tf ex h.get? = valX fn ts w) : SaysX fa fn ts tf ex w h (frT h.get? (asY h.get? n)) := by
  have a1 : obsT fa fn ts (frT h.get? (asY h.get? n)) = valT fn ts w := congrArg (fun z : AlX => z.1) e
  have a2 : (ex (frT h.get? (asY h.get? n)) && tabsB h.get? tf (frT h.get? (asY h.get? n))) = true := congrArg (fun z : AlX => z.2) e
  obtain ⟨b1, b2⟩ := Bool.and_eq_true_iff.mp a2
  have each : ∀ p ∈ tf, PySem.W.codeHdIn (frT h.get? (asY h.get? n)) (cT (frT h.get? (asY h.get? n)) p).1 (cT (frT h.get? (asY h.get? n)) p).2 = true ∧ ∃ o, h.get? (cT (frT h.get? (asY h.get? n)) p).2 = some o ∧ emptyTab o = true := fun p hp => by
    obtain ⟨d1, d2⟩ := Bool.and_eq_true_iff.mp (List.all_eq_true.mp b2 p hp)
    refine ⟨d1, ?_⟩
    split at d2
    · exact ⟨_, by assumption, d2⟩
    · cases d2
  refine { t := a1, more := b1, hd := fun p hp => (each p hp).1, out := fun p hp => ?_, empty := fun p hp => ?_ }
  · obtain ⟨_, o, q, z⟩ := each p hp
    exact frT_none q z
  · obtain ⟨_, o, q, z⟩ := each p hp
    rw [q, emptyTab_eq z]
def hookY (n : Nat) (fa : List Fa) (fn : List DefD) (ts : List Tab) (tf : List Defn) (ex : PySem.W.Frag → Bool) : PySem.W.Hook where
  α := AlX
  obs s := obsY n fa fn ts tf ex s.heap.get?
  val w := valX fn ts w
  says w h := ∃ K : PySem.W.Frag, K.In h ∧ SaysX fa fn ts tf ex w h K
  of _ _ e := ⟨_, frT_in, saysY e⟩
  keeps _ _ _ := fun ⟨K, hK, c⟩ k => ⟨K, PySem.W.Frag.In.keeps hK k, { t := c.t, more := c.more, hd := c.hd, out := c.out, empty := fun p hp => k _ _ (c.empty p hp) }⟩
theorem obsY_eq {n : Nat} {fa : List Fa} {fn : List DefD} {ts : List Tab} {tf : List Defn} {ex : PySem.W.Frag → Bool} {g : Addr → Option Obj} {s : Shared} (h : ∀ a, g a = s.heap.get? a) : obsY n fa fn ts tf ex g = (hookY n fa fn ts tf ex).obs s := congrArg (obsY n fa fn ts tf ex) (funext h)
end L2
/-! Determinants by the first row, over the rational numbers: what rows do to them. No library is needed. -/
namespace Dt
abbrev Mx := Nat → Nat → Rat
/-! ### sums -/
def sm : Nat → (Nat → Rat) → Rat
  | 0, _ => 0
  | n + 1, f => sm n f + f n
theorem sm_congr {f g : Nat → Rat} : ∀ {n : Nat}, (∀ j, j < n → f j = g j) → sm n f = sm n g
  | 0, _ => rfl
  | n + 1, h => by
    show sm n f + f n = sm n g + g n
    rw [sm_congr fun j hj => h j (by omega), h n (by omega)]
theorem sm_zero : ∀ n : Nat, sm n (fun _ => 0) = 0
  | 0 => rfl
  | n + 1 => by
    show sm n (fun _ => 0) + 0 = 0
    rw [sm_zero n]
    exact Rat.add_zero 0
theorem sm_add {f g : Nat → Rat} : ∀ n : Nat, sm n (fun j => f j + g j) = sm n f + sm n g
  | 0 => (Rat.add_zero 0).symm
  | n + 1 => by
    show sm n (fun j => f j + g j) + (f n + g n) = (sm n f + f n) + (sm n g + g n)
    rw [sm_add n]
    grind
theorem sm_mul {f : Nat → Rat} (c : Rat) : ∀ n : Nat, sm n (fun j => c * f j) = c * sm n f
  | 0 => by
    show (0 : Rat) = c * 0
    grind
  | n + 1 => by
    show sm n (fun j => c * f j) + c * f n = c * (sm n f + f n)
    rw [sm_mul c n]
    grind
theorem sm_comm {f : Nat → Nat → Rat} (m : Nat) : ∀ n : Nat, sm n (fun i => sm m fun j => f i j) = sm m fun j => sm n fun i => f i j
  | 0 => (sm_zero m).symm
  | n + 1 => by
    show sm n (fun i => sm m fun j => f i j) + sm m (fun j => f n j) = sm m fun j => (sm n fun i => f i j) + f n j
    rw [sm_comm m n, sm_add]
def skip (j l : Nat) : Nat := if l < j then l else l + 1
theorem skip_lt {j l : Nat} (h : l < j) : skip j l = l := if_pos h
theorem skip_ge {j l : Nat} (h : j ≤ l) : skip j l = l + 1 := if_neg (by omega)
/-- the sum over all but j -/
theorem sm_skip {g : Nat → Rat} {j : Nat} : ∀ {n : Nat}, j ≤ n → sm n (fun k => g (skip j k)) = sm (n + 1) fun m => if m = j then 0 else g m
  | 0, h => by
    have : j = 0 := by omega
    subst this
    show (0 : Rat) = 0 + (if (0 : Nat) = 0 then 0 else g 0)
    rw [if_pos rfl]
    exact (Rat.add_zero 0).symm
  | n + 1, h => by
    by_cases c : j = n + 1
    · subst c
      have e : sm (n + 1) (fun k => g (skip (n + 1) k)) = sm (n + 1) fun m => if m = n + 1 then 0 else g m := sm_congr fun k hk => by
        rw [skip_lt hk, if_neg (by omega)]
      show _ = sm (n + 1) (fun m => if m = n + 1 then 0 else g m) + (if n + 1 = n + 1 then 0 else g (n + 1))
      rw [e, if_pos rfl]
      grind
    · show sm n (fun k => g (skip j k)) + g (skip j n) = sm (n + 1) (fun m => if m = j then 0 else g m) + (if n + 1 = j then 0 else g (n + 1))
      rw [sm_skip (by omega), skip_ge (by omega), if_neg (by omega)]
/-! ### determinants -/
def sg (j : Nat) : Rat := if j % 2 = 0 then 1 else -1
theorem sg_succ (j : Nat) : sg (j + 1) = -sg j := by
  unfold sg
  by_cases c : j % 2 = 0
  · rw [if_pos c, if_neg (by omega)]
  · rw [if_neg c, if_pos (by omega)]
    rfl
theorem sg_sq (j : Nat) : sg j * sg j = 1 := by
  unfold sg
  split <;> decide +kernel
def minor (M : Mx) (j : Nat) : Mx := fun i l => M (i + 1) (skip j l)
def det : Nat → Mx → Rat
  | 0, _ => 1
  | n + 1, M => sm (n + 1) fun j => sg j * M 0 j * det n (minor M j)
theorem det_congr : ∀ {n : Nat} {M N : Mx}, (∀ i j, i < n → j < n → M i j = N i j) → det n M = det n N
  | 0, _, _, _ => rfl
  | n + 1, M, N, h => sm_congr fun j hj => by
    rw [h 0 j (by omega) hj, det_congr (n := n) (M := minor M j) (N := minor N j) fun i l hi hl => h (i + 1) (skip j l) (by omega) (by unfold skip; split <;> omega)]
/-- linear in each row -/
theorem det_lin {c : Rat} {r : Nat} : ∀ {n : Nat} {M A B : Mx}, r < n → (∀ j, j < n → M r j = A r j + c * B r j) → (∀ i j, i ≠ r → i < n → j < n → M i j = A i j ∧ M i j = B i j) → det n M = det n A + c * det n B
  | 0, _, _, _, h, _, _ => by omega
  | n + 1, M, A, B, hr, h1, h2 => by
    show sm (n + 1) _ = sm (n + 1) _ + c * sm (n + 1) _
    rw [← sm_mul, ← sm_add]
    refine sm_congr fun j hj => ?_
    by_cases c0 : r = 0
    · subst c0
      have e1 : det n (minor M j) = det n (minor A j) := det_congr fun i l hi hl => (h2 (i + 1) (skip j l) (by omega) (by omega) (by unfold skip; split <;> omega)).1
      have e2 : det n (minor M j) = det n (minor B j) := det_congr fun i l hi hl => (h2 (i + 1) (skip j l) (by omega) (by omega) (by unfold skip; split <;> omega)).2
      rw [h1 j hj, ← e1, ← e2]
      grind
    · have e := det_lin (c := c) (r := r - 1) (n := n) (M := minor M j) (A := minor A j) (B := minor B j) (by omega) (fun l hl => by
        have := h1 (skip j l) (by unfold skip; split <;> omega)
        unfold minor
        rw [show r - 1 + 1 = r by omega]
        exact this) (fun i l hi hi2 hl => h2 (i + 1) (skip j l) (by omega) (by omega) (by unfold skip; split <;> omega))
      have g := h2 0 j (fun z => c0 z.symm) (by omega) hj
      rw [e, ← g.1, ← g.2]
      grind
/-! ### two rows exchanged -/
/-- the columns but j and m -/
def skip2 (j m l : Nat) : Nat := if m < j then skip j (skip m l) else skip j (skip (m - 1) l)
theorem skip_skip {j m : Nat} (h : m < j) (l : Nat) : skip j (skip m l) = skip m (skip (j - 1) l) := by
  by_cases a : l < m
  · rw [skip_lt a, skip_lt (show l < j by omega), skip_lt (show l < j - 1 by omega), skip_lt a]
  · by_cases b : l < j - 1
    · rw [skip_ge (show m ≤ l by omega), skip_lt (show l + 1 < j by omega), skip_lt b, skip_ge (show m ≤ l by omega)]
    · rw [skip_ge (show m ≤ l by omega), skip_ge (show j ≤ l + 1 by omega), skip_ge (show j - 1 ≤ l by omega), skip_ge (show m ≤ l + 1 by omega)]
theorem skip2_comm {j m : Nat} (h : j ≠ m) (l : Nat) : skip2 j m l = skip2 m j l := by
  unfold skip2
  by_cases c : m < j
  · rw [if_pos c, if_neg (by omega)]
    exact skip_skip c l
  · rw [if_neg c, if_pos (by omega)]
    exact (skip_skip (by omega) l).symm
def s2 (j m : Nat) : Rat := if m < j then sg j * sg m else -(sg j * sg m)
theorem s2_comm {j m : Nat} (h : j ≠ m) : s2 j m = -s2 m j := by
  unfold s2
  by_cases c : m < j
  · rw [if_pos c, if_neg (by omega)]
    grind
  · rw [if_neg c, if_pos (by omega)]
    grind
def D2 (n : Nat) (M : Mx) (j m : Nat) : Rat := det n fun i l => M (i + 2) (skip2 j m l)
theorem det_two (n : Nat) (M : Mx) : det (n + 2) M = sm (n + 2) fun j => sm (n + 2) fun m => if m = j then 0 else s2 j m * M 0 j * M 1 m * D2 n M j m := by
  show sm (n + 2) _ = _
  refine sm_congr fun j hj => ?_
  show sg j * M 0 j * sm (n + 1) (fun k => sg k * (minor M j) 0 k * det n (minor (minor M j) k)) = _
  rw [← sm_mul, ← sm_skip (g := fun m => s2 j m * M 0 j * M 1 m * D2 n M j m) (n := n + 1) (j := j) (by omega)]
  refine sm_congr fun k hk => ?_
  have e1 : (minor M j) 0 k = M 1 (skip j k) := rfl
  have e2 : det n (minor (minor M j) k) = D2 n M j (skip j k) := by
    refine det_congr fun i l _ _ => ?_
    show M (i + 2) (skip j (skip k l)) = M (i + 2) (skip2 j (skip j k) l)
    congr 1
    unfold skip2
    by_cases c : k < j
    · rw [skip_lt c, if_pos c]
    · have hs : skip j k = k + 1 := skip_ge (by omega)
      rw [hs, if_neg (by omega), Nat.add_sub_cancel]
  have e3 : s2 j (skip j k) = sg j * sg k := by
    unfold s2
    by_cases c : k < j
    · rw [skip_lt c, if_pos c]
    · rw [skip_ge (by omega), if_neg (by omega), sg_succ]
      grind
  rw [e1, e2, e3]
  grind
/-- rows r and r + 1 exchanged -/
def sw (r : Nat) (M : Mx) : Mx := fun i j => M (if i = r then r + 1 else if i = r + 1 then r else i) j
theorem det_sw : ∀ {n r : Nat} {M : Mx}, r + 1 < n → det n (sw r M) = -det n M
  | n + 2, 0, M, _ => by
    rw [det_two, det_two, sm_comm]
    have : ∀ x : Rat, -x = (-1) * x := fun x => by grind
    rw [this, ← sm_mul]
    refine sm_congr fun j hj => ?_
    rw [← sm_mul]
    refine sm_congr fun m hm => ?_
    by_cases c : j = m
    · subst c
      rw [if_pos rfl]
      grind
    · rw [if_neg c, if_neg (fun z => c z.symm)]
      have e : D2 n (sw 0 M) m j = D2 n M j m := by
        refine det_congr fun i l _ _ => ?_
        show M (if i + 2 = 0 then 1 else if i + 2 = 0 + 1 then 0 else i + 2) _ = M (i + 2) _
        rw [if_neg (by omega), if_neg (by omega), skip2_comm (fun z => c z.symm)]
      have e0 : (sw 0 M) 0 m = M 1 m := rfl
      have e1 : (sw 0 M) 1 j = M 0 j := rfl
      rw [e, e0, e1, s2_comm c]
      grind
  | 1, 0, _, h => by omega
  | 0, _, _, h => by omega
  | n + 1, r + 1, M, h => by
    have : ∀ x : Rat, -x = (-1) * x := fun x => by grind
    show sm (n + 1) _ = -sm (n + 1) _
    rw [this, ← sm_mul]
    refine sm_congr fun j hj => ?_
    have e : det n (minor (sw (r + 1) M) j) = -det n (minor M j) := by
      rw [← det_sw (n := n) (r := r) (M := minor M j) (by omega)]
      refine det_congr fun i l _ _ => ?_
      show M (if i + 1 = r + 1 then r + 1 + 1 else if i + 1 = r + 1 + 1 then r + 1 else i + 1) _ = M ((if i = r then r + 1 else if i = r + 1 then r else i) + 1) _
      congr 1
      repeat' split
      all_goals omega
    have e0 : (sw (r + 1) M) 0 j = M 0 j := rfl
    rw [e, e0]
    grind

/-! ### equal rows, rows added -/
theorem neg_self {x : Rat} (h : x = -x) : x = 0 := by grind
theorem det_eq1 {n r : Nat} {M : Mx} (h : r + 1 < n) (e : ∀ j, j < n → M r j = M (r + 1) j) : det n M = 0 := by
  have h1 := det_sw (M := M) h
  have h2 : det n (sw r M) = det n M := det_congr fun i j _ hj => by
    show M (if i = r then r + 1 else if i = r + 1 then r else i) j = M i j
    by_cases c1 : i = r
    · rw [if_pos c1, c1, e j hj]
    · rw [if_neg c1]
      by_cases c2 : i = r + 1
      · rw [if_pos c2, c2, e j hj]
      · rw [if_neg c2]
  rw [h2] at h1
  exact neg_self h1
theorem det_eq {n r : Nat} : ∀ {d : Nat} {M : Mx}, r + d + 1 < n → (∀ j, j < n → M r j = M (r + d + 1) j) → det n M = 0
  | 0, M, h, e => det_eq1 h e
  | d + 1, M, h, e => by
    have h1 := det_sw (n := n) (r := r + d + 1) (M := M) (by omega)
    have h2 : det n (sw (r + d + 1) M) = 0 := det_eq (r := r) (d := d) (by omega) fun j hj => by
      show M (if r = r + d + 1 then r + d + 1 + 1 else if r = r + d + 1 + 1 then r + d + 1 else r) j = M (if r + d + 1 = r + d + 1 then r + d + 1 + 1 else _) j
      rw [if_neg (by omega), if_neg (by omega), if_pos rfl]
      exact e j hj
    rw [h2] at h1
    grind
/-- c times row p added to row r -/
def ad (r p : Nat) (c : Rat) (M : Mx) : Mx := fun i j => if i = r then M r j + c * M p j else M i j
theorem det_ad {n r p : Nat} {c : Rat} {M : Mx} (hr : r < n) (hp : p < n) (ne : p ≠ r) : det n (ad r p c M) = det n M := by
  have h := det_lin (c := c) (r := r) (n := n) (M := ad r p c M) (A := M) (B := fun i j => if i = r then M p j else M i j) hr
    (fun j _ => by
      show (if r = r then M r j + c * M p j else M r j) = M r j + c * (if r = r then M p j else M r j)
      rw [if_pos rfl, if_pos rfl])
    (fun i j hi _ _ => by
      show (if i = r then _ else M i j) = M i j ∧ (if i = r then _ else M i j) = (if i = r then M p j else M i j)
      rw [if_neg hi]
      exact ⟨rfl, (if_neg hi).symm⟩)
  have z : det n (fun i j => if i = r then M p j else M i j) = 0 := by
    rcases Nat.lt_or_gt_of_ne ne with l | l
    · refine det_eq (r := p) (d := r - p - 1) (by omega) fun j _ => ?_
      show (if p = r then _ else M p j) = (if p + (r - p - 1) + 1 = r then M p j else _)
      rw [if_neg ne, if_pos (by omega)]
    · refine det_eq (r := r) (d := p - r - 1) (by omega) fun j _ => ?_
      show (if r = r then M p j else _) = (if r + (p - r - 1) + 1 = r then _ else M (r + (p - r - 1) + 1) j)
      rw [if_pos rfl, if_neg (by omega), show r + (p - r - 1) + 1 = p by omega]
  rw [h, z]
  grind
/-! ### a step of the clearing -/
theorem det_col0 : ∀ {n : Nat} {M : Mx}, 0 < n → (∀ i, i < n → M i 0 = 0) → det n M = 0
  | 0, _, h, _ => by omega
  | n + 1, M, _, h => by
    have : sm (n + 1) (fun j => sg j * M 0 j * det n (minor M j)) = sm (n + 1) fun _ => 0 := sm_congr fun j hj => by
      by_cases c : j = 0
      · rw [c, h 0 (by omega)]
        grind
      · have e : det n (minor M j) = 0 := det_col0 (by omega) fun i hi => by
          show M (i + 1) (skip j 0) = 0
          rw [skip_lt (by omega)]
          exact h (i + 1) (by omega)
        rw [e]
        grind
    show sm (n + 1) _ = 0
    rw [this, sm_zero]
/-- the first column has its first entry alone -/
theorem det_col1 {n : Nat} {M : Mx} (h : ∀ i, i < n → M (i + 1) 0 = 0) : det (n + 1) M = M 0 0 * det n (fun i j => M (i + 1) (j + 1)) := by
  have e : sm (n + 1) (fun j => sg j * M 0 j * det n (minor M j)) = sm (n + 1) fun j => if j = 0 then M 0 0 * det n (fun i j => M (i + 1) (j + 1)) else 0 := sm_congr fun j hj => by
    by_cases c : j = 0
    · subst c
      have e1 : det n (minor M 0) = det n (fun i j => M (i + 1) (j + 1)) := det_congr fun i l _ _ => by
        show M (i + 1) (skip 0 l) = _
        rw [skip_ge (by omega)]
      rw [if_pos rfl, e1]
      have : sg 0 = 1 := rfl
      rw [this]
      grind
    · have z : det n (minor M j) = 0 := det_col0 (by omega) fun i hi => by
        show M (i + 1) (skip j 0) = 0
        rw [skip_lt (by omega)]
        exact h i hi
      rw [if_neg c, z]
      grind
  show sm (n + 1) _ = _
  rw [e]
  have one : ∀ (m : Nat) (x : Rat), sm (m + 1) (fun j => if j = 0 then x else 0) = x := fun m x => by
    induction m with
    | zero =>
      show (0 : Rat) + (if (0 : Nat) = 0 then x else 0) = x
      rw [if_pos rfl]
      grind
    | succ m ih =>
      show sm (m + 1) (fun j => if j = 0 then x else 0) + (if m + 1 = 0 then x else 0) = x
      rw [ih, if_neg (by omega)]
      grind
  exact one n _
/-- the rest behind the first row and column, cleared by them -/
def ga (M : Mx) : Mx := fun i j => M (i + 1) (j + 1) - M (i + 1) 0 / M 0 0 * M 0 (j + 1)
/-- rows 1 to k cleared -/
def el (M : Mx) (k : Nat) : Mx := fun i j => if 0 < i ∧ i ≤ k then M i j - M i 0 / M 0 0 * M 0 j else M i j
theorem det_el {n : Nat} {M : Mx} : ∀ k, k < n → det n (el M k) = det n M
  | 0, h => det_congr fun i j _ _ => if_neg (by omega)
  | k + 1, h => by
    have ih := det_el (n := n) (M := M) k (by omega)
    rw [← ih, ← det_ad (r := k + 1) (p := 0) (c := -(M (k + 1) 0 / M 0 0)) (M := el M k) h (by omega) (by omega)]
    refine det_congr fun i j _ _ => ?_
    show (if 0 < i ∧ i ≤ k + 1 then M i j - M i 0 / M 0 0 * M 0 j else M i j) = if i = k + 1 then (if 0 < k + 1 ∧ k + 1 ≤ k then _ else M (k + 1) j) + _ * (if 0 < 0 ∧ 0 ≤ k then _ else M 0 j) else (if 0 < i ∧ i ≤ k then M i j - M i 0 / M 0 0 * M 0 j else M i j)
    by_cases c : i = k + 1
    · rw [if_pos ⟨by omega, by omega⟩, if_pos c, if_neg (by omega), if_neg (by omega), c]
      grind
    · rw [if_neg c]
      by_cases c2 : 0 < i ∧ i ≤ k
      · rw [if_pos c2, if_pos ⟨c2.1, by omega⟩]
      · rw [if_neg c2, if_neg (by omega)]
theorem det_ga {n : Nat} {M : Mx} (h : M 0 0 ≠ 0) : det (n + 1) M = M 0 0 * det n (ga M) := by
  rw [← det_el n (by omega), det_col1]
  · have e : (el M n) 0 0 = M 0 0 := if_neg (by omega)
    rw [e]
    congr 1
    refine det_congr fun i j hi _ => ?_
    show (if 0 < i + 1 ∧ i + 1 ≤ n then _ else _) = _
    rw [if_pos ⟨by omega, by omega⟩]
    rfl
  · intro i hi
    show (if 0 < i + 1 ∧ i + 1 ≤ n then M (i + 1) 0 - M (i + 1) 0 / M 0 0 * M 0 0 else _) = 0
    rw [if_pos ⟨by omega, by omega⟩, Rat.div_mul_cancel h]
    grind
/-- so many steps -/
def gas : Nat → Mx → Mx
  | 0, M => M
  | k + 1, M => gas k (ga M)
/-- the product of the first leading entries -/
def cor : Nat → Mx → Rat
  | 0, _ => 1
  | k + 1, M => M 0 0 * cor k (ga M)
def leads : Nat → Mx → Prop
  | 0, _ => True
  | k + 1, M => M 0 0 ≠ 0 ∧ leads k (ga M)
theorem det_gas {n : Nat} : ∀ {k : Nat} {M : Mx}, leads k M → det (n + k) M = cor k M * det n (gas k M)
  | 0, M, _ => by
    show det n M = 1 * det n M
    grind
  | k + 1, M, h => by
    show det ((n + k) + 1) M = M 0 0 * cor k (ga M) * det n (gas k (ga M))
    rw [det_ga h.1, det_gas h.2]
    grind

/-! ### two rows exchanged, whichever -/
theorem det_neg {n r : Nat} {M : Mx} (hr : r < n) : det n (fun i j => if i = r then -(M r j) else M i j) = -det n M := by
  have h := det_lin (c := -2) (r := r) (n := n) (M := fun i j => if i = r then -(M r j) else M i j) (A := M) (B := M) hr
    (fun j _ => by
      show (if r = r then -(M r j) else M r j) = _
      rw [if_pos rfl]
      grind)
    (fun i j hi _ _ => by
      show (if i = r then _ else M i j) = M i j ∧ (if i = r then _ else M i j) = M i j
      rw [if_neg hi]
      exact ⟨rfl, rfl⟩)
  rw [h]
  grind
def xch (r t : Nat) (M : Mx) : Mx := fun i j => M (if i = r then t else if i = t then r else i) j
theorem det_xch {n r t : Nat} {M : Mx} (hr : r < n) (ht : t < n) (ne : r ≠ t) : det n (xch r t M) = -det n M := by
  have a1 := det_ad (c := 1) (M := M) hr ht (fun z => ne z.symm)
  have a2 := det_ad (c := -1) (M := ad r t 1 M) ht hr ne
  have a3 := det_ad (c := 1) (M := ad t r (-1) (ad r t 1 M)) hr ht (fun z => ne z.symm)
  have e : det n (ad r t 1 (ad t r (-1) (ad r t 1 M))) = det n (fun i j => if i = t then -((xch r t M) t j) else (xch r t M) i j) := det_congr fun i j _ _ => by
    unfold ad xch
    by_cases c1 : i = r
    · subst c1
      simp only [if_pos rfl, if_neg ne, if_neg (fun z => ne z.symm : ¬ t = i)]
      grind
    · by_cases c2 : i = t
      · subst c2
        simp only [if_neg c1, if_pos rfl, if_neg ne]
        grind
      · simp only [if_neg c1, if_neg c2]
  rw [e, det_neg ht] at a3
  grind
/-! ### whole numbers -/
def Wh (x : Rat) : Prop := ∃ z : Int, x = (z : Rat)
theorem wh_int (z : Int) : Wh (z : Rat) := ⟨z, rfl⟩
theorem wh_add {x y : Rat} (h : Wh x) (g : Wh y) : Wh (x + y) := by
  obtain ⟨a, rfl⟩ := h
  obtain ⟨b, rfl⟩ := g
  exact ⟨a + b, (Rat.intCast_add a b).symm⟩
theorem wh_mul {x y : Rat} (h : Wh x) (g : Wh y) : Wh (x * y) := by
  obtain ⟨a, rfl⟩ := h
  obtain ⟨b, rfl⟩ := g
  exact ⟨a * b, (Rat.intCast_mul a b).symm⟩
theorem wh_sg (j : Nat) : Wh (sg j) := by
  unfold sg
  split
  · exact ⟨1, rfl⟩
  · exact ⟨-1, by decide +kernel⟩
theorem wh_sm {f : Nat → Rat} : ∀ {n : Nat}, (∀ j, j < n → Wh (f j)) → Wh (sm n f)
  | 0, _ => ⟨0, rfl⟩
  | n + 1, h => wh_add (wh_sm fun j hj => h j (by omega)) (h n (by omega))
theorem wh_det : ∀ {n : Nat} {M : Mx}, (∀ i j, i < n → j < n → Wh (M i j)) → Wh (det n M)
  | 0, _, _ => ⟨1, rfl⟩
  | n + 1, M, h => wh_sm fun j hj => wh_mul (wh_mul (wh_sg j) (h 0 j (by omega) hj)) (wh_det fun i l hi hl => h (i + 1) (skip j l) (by omega) (by unfold skip; split <;> omega))
/-! ### the rest is a determinant over the corner -/
/-- rows 0 to k - 1 and from k + i on, columns likewise -/
def sel (k i j : Nat) (M : Mx) : Mx := fun a b => M (if a < k then a else i + a) (if b < k then b else j + b)
theorem sel_ga (k i j : Nat) (M : Mx) : ga (sel (k + 1) i j M) = sel k i j (ga M) := by
  funext a b
  have h1 : (if a + 1 < k + 1 then a + 1 else i + (a + 1)) = (if a < k then a else i + a) + 1 := by split <;> split <;> omega
  have h2 : (if b + 1 < k + 1 then b + 1 else j + (b + 1)) = (if b < k then b else j + b) + 1 := by split <;> split <;> omega
  have h0 : (if 0 < k + 1 then 0 else i + 0) = 0 := if_pos (by omega)
  have h0' : (if 0 < k + 1 then 0 else j + 0) = 0 := if_pos (by omega)
  unfold ga sel
  simp only [h1, h2, h0, h0']
theorem sel_zero (i j : Nat) (M : Mx) : (sel 0 i j M) 0 0 = M i j := rfl
theorem sel_top (k i j : Nat) (M : Mx) : (sel (k + 1) i j M) 0 0 = M 0 0 := by
  unfold sel
  rw [if_pos (by omega), if_pos (by omega)]
theorem sel_gas (i j : Nat) : ∀ (k : Nat) (M : Mx), (gas k (sel k i j M)) 0 0 = gas k M i j
  | 0, M => rfl
  | k + 1, M => by
    show (gas k (ga (sel (k + 1) i j M))) 0 0 = gas k (ga M) i j
    rw [sel_ga]
    exact sel_gas i j k (ga M)
theorem sel_cor (i j : Nat) : ∀ (k : Nat) (M : Mx), cor k (sel k i j M) = cor k M
  | 0, _ => rfl
  | k + 1, M => by
    show (sel (k + 1) i j M) 0 0 * cor k (ga (sel (k + 1) i j M)) = M 0 0 * cor k (ga M)
    rw [sel_top, sel_ga, sel_cor i j k]
theorem sel_leads (i j : Nat) : ∀ (k : Nat) (M : Mx), leads k M → leads k (sel k i j M)
  | 0, _, _ => trivial
  | k + 1, M, h => by
    refine ⟨by rw [sel_top]; exact h.1, ?_⟩
    rw [sel_ga]
    exact sel_leads i j k (ga M) h.2
theorem det_one (M : Mx) : det 1 M = M 0 0 := by
  show (0 : Rat) + sg 0 * M 0 0 * 1 = M 0 0
  have : sg 0 = 1 := rfl
  rw [this]
  grind
theorem rest_det {k i j : Nat} {M : Mx} (h : leads k M) : cor k M * gas k M i j = det (1 + k) (sel k i j M) := by
  rw [det_gas (n := 1) (sel_leads i j k M h), det_one, sel_gas, sel_cor]
theorem rest_wh {k i j : Nat} {M : Mx} (h : leads k M) (w : ∀ a b, Wh (M a b)) : Wh (cor k M * gas k M i j) := by
  rw [rest_det h]
  exact wh_det fun a b _ _ => w _ _
theorem gas_succ : ∀ (k : Nat) (M : Mx), gas (k + 1) M = ga (gas k M)
  | 0, _ => rfl
  | k + 1, M => gas_succ k (ga M)
theorem cor_succ : ∀ (k : Nat) (M : Mx), cor (k + 1) M = cor k M * gas k M 0 0
  | 0, M => by
    show M 0 0 * 1 = 1 * M 0 0
    grind
  | k + 1, M => by
    show M 0 0 * cor (k + 1) (ga M) = M 0 0 * cor k (ga M) * gas k (ga M) 0 0
    rw [cor_succ k (ga M)]
    grind
theorem leads_succ : ∀ {k : Nat} {M : Mx}, leads k M → gas k M 0 0 ≠ 0 → leads (k + 1) M
  | 0, _, _, h => ⟨h, trivial⟩
  | k + 1, _, h, g => ⟨h.1, leads_succ (k := k) h.2 g⟩
theorem cor_ne : ∀ {k : Nat} {M : Mx}, leads k M → cor k M ≠ 0
  | 0, _, _ => by
    show (1 : Rat) ≠ 0
    decide +kernel
  | k + 1, M, h => by
    have := cor_ne h.2
    show M 0 0 * cor k (ga M) ≠ 0
    have h1 := h.1
    grind
/-- a step of the program: exact -/
theorem bar_step {k : Nat} {M : Mx} {B : Nat → Nat → Int} {c : Int} (w : ∀ a b, Wh (M a b)) (h : leads k M) (hc : (c : Rat) = cor k M) (hB : ∀ i j, ((B i j : Int) : Rat) = cor k M * gas k M i j) (h0 : B 0 0 ≠ 0) :
    leads (k + 1) M ∧ ((B 0 0 : Int) : Rat) = cor (k + 1) M ∧ ∀ i j, (((B (i + 1) (j + 1) * B 0 0 - B (i + 1) 0 * B 0 (j + 1)).fdiv c : Int) : Rat) = cor (k + 1) M * gas (k + 1) M i j := by
  have cn := cor_ne h
  have b0 : ((B 0 0 : Int) : Rat) ≠ 0 := fun z => h0 (by exact_mod_cast z)
  have g0 : gas k M 0 0 ≠ 0 := fun z => b0 (by rw [hB, z]; grind)
  have l := leads_succ h g0
  refine ⟨l, by rw [hB, cor_succ], fun i j => ?_⟩
  obtain ⟨z, hz⟩ := rest_wh (i := i) (j := j) l w
  have key : ((c * z : Int) : Rat) = ((B (i + 1) (j + 1) * B 0 0 - B (i + 1) 0 * B 0 (j + 1) : Int) : Rat) := by
    rw [Rat.intCast_mul, ← hz, hc, Rat.intCast_sub, Rat.intCast_mul, Rat.intCast_mul, hB, hB, hB, hB, cor_succ, gas_succ]
    show cor k M * (cor k M * gas k M 0 0 * (gas k M (i + 1) (j + 1) - gas k M (i + 1) 0 / gas k M 0 0 * gas k M 0 (j + 1))) = _
    have d : gas k M (i + 1) 0 / gas k M 0 0 * gas k M 0 0 = gas k M (i + 1) 0 := Rat.div_mul_cancel g0
    grind
  have key2 : c * z = B (i + 1) (j + 1) * B 0 0 - B (i + 1) 0 * B 0 (j + 1) := by exact_mod_cast key
  have c0 : c ≠ 0 := fun q => cn (by rw [← hc, q]; rfl)
  rw [← key2, hz, Int.mul_fdiv_cancel_left _ c0]

/-! ### cleared by an entry anywhere -/
theorem det_colz {c : Nat} : ∀ {n : Nat} {M : Mx}, c < n → (∀ i, i < n → M i c = 0) → det n M = 0
  | 0, _, h, _ => by omega
  | n + 1, M, hc, h => by
    have : sm (n + 1) (fun j => sg j * M 0 j * det n (minor M j)) = sm (n + 1) fun _ => 0 := sm_congr fun j hj => by
      by_cases e : j = c
      · rw [e, h 0 (by omega)]
        grind
      · have z : det n (minor M j) = 0 := by
          by_cases l : c < j
          · refine det_colz (c := c) (by omega) fun i hi => ?_
            show M (i + 1) (skip j c) = 0
            rw [skip_lt l]
            exact h (i + 1) (by omega)
          · refine det_colz (c := c - 1) (by omega) fun i hi => ?_
            show M (i + 1) (skip j (c - 1)) = 0
            rw [skip_ge (by omega), show c - 1 + 1 = c by omega]
            exact h (i + 1) (by omega)
        rw [z]
        grind
    show sm (n + 1) _ = 0
    rw [this, sm_zero]
termination_by n => n
/-- row r at the top, the others below in their order -/
def top (r : Nat) (M : Mx) : Mx := fun i j => M (if i = 0 then r else skip r (i - 1)) j
theorem det_top {n : Nat} : ∀ {r : Nat} {M : Mx}, r < n → det n (top r M) = sg r * det n M
  | 0, M, _ => by
    have e : det n (top 0 M) = det n M := det_congr fun i j _ _ => by
      unfold top
      by_cases c : i = 0
      · rw [if_pos c, c]
      · rw [if_neg c, skip_ge (by omega), show i - 1 + 1 = i by omega]
    have : sg 0 = 1 := rfl
    rw [e, this]
    grind
  | r + 1, M, h => by
    have e : det n (top (r + 1) M) = det n (top r (sw r M)) := det_congr fun i j _ _ => by
      unfold top sw
      by_cases c : i = 0
      · rw [if_pos c, if_pos c, if_pos rfl]
      · rw [if_neg c, if_neg c]
        congr 1
        by_cases l : i - 1 < r
        · rw [skip_lt l, skip_lt (by omega), if_neg (by omega), if_neg (by omega)]
        · by_cases l2 : i - 1 = r
          · rw [l2, skip_lt (by omega), skip_ge (by omega), if_neg (by omega), if_pos rfl]
          · rw [skip_ge (by omega), skip_ge (by omega), if_neg (by omega), if_neg (by omega)]
    rw [e, det_top (by omega), det_sw (by omega), sg_succ]
    grind
/-- all rows but r cleared at column c, the first k of them -/
def cl (r c k : Nat) (M : Mx) : Mx := fun i j => if i ≠ r ∧ i < k then M i j - M i c / M r c * M r j else M i j
theorem det_cl {n r c : Nat} {M : Mx} (hr : r < n) : ∀ k, k ≤ n → det n (cl r c k M) = det n M
  | 0, _ => det_congr fun i j _ _ => if_neg (by omega)
  | k + 1, h => by
    have ih := det_cl (c := c) (M := M) hr k (by omega)
    by_cases e : k = r
    · rw [← ih]
      refine det_congr fun i j _ _ => ?_
      unfold cl
      by_cases g : i ≠ r ∧ i < k
      · rw [if_pos g, if_pos ⟨g.1, by omega⟩]
      · rw [if_neg g, if_neg (by omega)]
    · rw [← ih, ← det_ad (r := k) (p := r) (c := -(M k c / M r c)) (M := cl r c k M) (by omega) hr (fun z => e z.symm)]
      refine det_congr fun i j _ _ => ?_
      show (if i ≠ r ∧ i < k + 1 then M i j - M i c / M r c * M r j else M i j) = if i = k then (if k ≠ r ∧ k < k then _ else M k j) + -(M k c / M r c) * (if r ≠ r ∧ r < k then _ else M r j) else (if i ≠ r ∧ i < k then M i j - M i c / M r c * M r j else M i j)
      by_cases g : i = k
      · rw [if_pos ⟨by omega, by omega⟩, if_pos g, if_neg (by omega), if_neg (by omega), g]
        grind
      · rw [if_neg g]
        by_cases g2 : i ≠ r ∧ i < k
        · rw [if_pos g2, if_pos ⟨g2.1, by omega⟩]
        · rw [if_neg g2, if_neg (by omega)]
/-- the determinant by a pivot: its sign, the entry, the rest -/
theorem det_piv {n r c : Nat} {M : Mx} (hr : r < n + 1) (hc : c < n + 1) (h : M r c ≠ 0) :
    det (n + 1) M = sg r * sg c * M r c * det n (fun a b => M (skip r a) (skip c b) - M (skip r a) c / M r c * M r (skip c b)) := by
  have e1 := det_cl (c := c) (M := M) hr (n + 1) (Nat.le_refl _)
  have e2 := det_top (M := cl r c (n + 1) M) hr
  have e3 : det (n + 1) (top r (cl r c (n + 1) M)) = sg c * M r c * det n (fun a b => M (skip r a) (skip c b) - M (skip r a) c / M r c * M r (skip c b)) := by
    have row0 : ∀ j, (top r (cl r c (n + 1) M)) 0 j = M r j := fun j => by
      show (if r ≠ r ∧ r < n + 1 then _ else M r j) = M r j
      rw [if_neg (by omega)]
    have rest : ∀ a j, a < n → (top r (cl r c (n + 1) M)) (a + 1) j = M (skip r a) j - M (skip r a) c / M r c * M r j := fun a j ha => by
      show (if skip r a ≠ r ∧ skip r a < n + 1 then _ else _) = _
      rw [if_pos (by unfold skip; split <;> omega), if_neg (by omega), Nat.add_sub_cancel]
    have e : sm (n + 1) (fun j => sg j * (top r (cl r c (n + 1) M)) 0 j * det n (minor (top r (cl r c (n + 1) M)) j)) = sm (n + 1) fun j => if j = c then sg c * M r c * det n (fun a b => M (skip r a) (skip c b) - M (skip r a) c / M r c * M r (skip c b)) else 0 := sm_congr fun j hj => by
      rw [row0]
      by_cases g : j = c
      · subst g
        rw [if_pos rfl]
        congr 1
        exact det_congr fun a b ha hb => rest a (skip j b) ha
      · rw [if_neg g]
        have z : ∀ a, a < n → (top r (cl r c (n + 1) M)) (a + 1) c = 0 := fun a ha => by
          rw [rest a c ha, Rat.div_mul_cancel h]
          grind
        have z2 : det n (minor (top r (cl r c (n + 1) M)) j) = 0 := by
          by_cases l : c < j
          · refine det_colz (c := c) (by omega) fun i hi => ?_
            show (top r (cl r c (n + 1) M)) (i + 1) (skip j c) = 0
            rw [skip_lt l]
            exact z i hi
          · refine det_colz (c := c - 1) (by omega) fun i hi => ?_
            show (top r (cl r c (n + 1) M)) (i + 1) (skip j (c - 1)) = 0
            rw [skip_ge (by omega), show c - 1 + 1 = c by omega]
            exact z i hi
        rw [z2]
        grind
    show sm (n + 1) _ = _
    rw [e]
    have one : ∀ (m : Nat) (x : Rat), c < m → sm m (fun j => if j = c then x else 0) = x := fun m x => by
      induction m with
      | zero => intro h; omega
      | succ m ih =>
        intro hm
        show sm m (fun j => if j = c then x else 0) + (if m = c then x else 0) = x
        by_cases g : m = c
        · have : sm m (fun j => if j = c then x else 0) = sm m fun _ => 0 := sm_congr fun j hj => if_neg (by omega)
          rw [if_pos g, this, sm_zero]
          grind
        · rw [if_neg g, ih (by omega)]
          grind
    exact one _ _ hc
  have s2 := sg_sq r
  rw [e1] at e2
  have : det (n + 1) M = sg r * det (n + 1) (top r (cl r c (n + 1) M)) := by
    rw [e2]
    grind
  rw [this, e3]
  grind

/-! ### rows exchanged behind the cleared ones -/
theorem xch_ga {a b : Nat} (M : Mx) : ga (xch (a + 1) (b + 1) M) = xch a b (ga M) := by
  funext i j
  have h : (if i + 1 = a + 1 then b + 1 else if i + 1 = b + 1 then a + 1 else i + 1) = (if i = a then b else if i = b then a else i) + 1 := by
    by_cases c1 : i = a
    · rw [if_pos (by omega), if_pos c1]
    · rw [if_neg (by omega), if_neg c1]
      by_cases c2 : i = b
      · rw [if_pos (by omega), if_pos c2]
      · rw [if_neg (by omega), if_neg c2]
  have h0 : (if 0 = a + 1 then b + 1 else if 0 = b + 1 then a + 1 else 0) = 0 := by
    rw [if_neg (by omega), if_neg (by omega)]
  unfold ga xch
  simp only [h, h0]
theorem xch_top {a b : Nat} (M : Mx) : (xch (a + 1) (b + 1) M) 0 0 = M 0 0 := by
  unfold xch
  rw [if_neg (by omega), if_neg (by omega)]
theorem xch_gas {a b : Nat} : ∀ (k : Nat) (M : Mx), gas k (xch (k + a) (k + b) M) = xch a b (gas k M)
  | 0, M => by
    show xch (0 + a) (0 + b) M = xch a b M
    rw [Nat.zero_add, Nat.zero_add]
  | k + 1, M => by
    show gas k (ga (xch (k + 1 + a) (k + 1 + b) M)) = xch a b (gas k (ga M))
    rw [show k + 1 + a = (k + a) + 1 by omega, show k + 1 + b = (k + b) + 1 by omega, xch_ga, xch_gas k]
theorem xch_cor {a b : Nat} : ∀ (k : Nat) (M : Mx), cor k (xch (k + a) (k + b) M) = cor k M
  | 0, _ => rfl
  | k + 1, M => by
    show (xch (k + 1 + a) (k + 1 + b) M) 0 0 * cor k (ga (xch (k + 1 + a) (k + 1 + b) M)) = M 0 0 * cor k (ga M)
    rw [show k + 1 + a = (k + a) + 1 by omega, show k + 1 + b = (k + b) + 1 by omega, xch_ga, xch_top, xch_cor k]
theorem xch_leads {a b : Nat} : ∀ (k : Nat) (M : Mx), leads k M → leads k (xch (k + a) (k + b) M)
  | 0, _, _ => trivial
  | k + 1, M, h => by
    rw [show k + 1 + a = (k + a) + 1 by omega, show k + 1 + b = (k + b) + 1 by omega]
    refine ⟨by rw [xch_top]; exact h.1, ?_⟩
    rw [xch_ga]
    exact xch_leads k (ga M) h.2
theorem xch_wh {a b : Nat} {M : Mx} (w : ∀ i j, Wh (M i j)) : ∀ i j, Wh ((xch a b M) i j) := fun i j => w _ j
/-! ### the program's clearing, over lists -/
/-- the entry of a table, 0 outside -/
def at_ (R : List (List Int)) (i j : Nat) : Int := (R[i]?.getD [])[j]?.getD 0
def mx (R : List (List Int)) : Mx := fun i j => ((at_ R i j : Int) : Rat)
theorem mx_wh (R : List (List Int)) : ∀ i j, Wh (mx R i j) := fun i j => ⟨_, rfl⟩
def crow (row lead : List Int) (col : Nat) (corner : Int) : List Int := List.zipWith (fun e t => (e * lead[col]?.getD 0 - row[col]?.getD 0 * t).fdiv corner) row lead
/-- the rows behind so many steps, the row at t exchanged with the first of them -/
def others (R : List (List Int)) (s t : Nat) : List (List Int) := (List.range (R.length - (s + 1))).map fun i => if s + 1 + i = t then R[s]?.getD [] else R[s + 1 + i]?.getD []
/-- a step at a column, the row at t leading -/
def stepR (R : List (List Int)) (s t col : Nat) (corner : Int) : List (List Int) := R.take s ++ [R[t]?.getD []] ++ (others R s t).map fun row => crow row (R[t]?.getD []) col corner
structure Sq (n : Nat) (R : List (List Int)) : Prop where
  len : R.length = n
  wid : ∀ r ∈ R, r.length = n
theorem Sq.row {n : Nat} {R : List (List Int)} (h : Sq n R) {i : Nat} (hi : i < n) : (R[i]?.getD []).length = n := by
  have hl := h.len
  rw [List.getElem?_eq_getElem (by omega)]
  exact h.wid _ (List.getElem_mem _)
theorem Sq.out {n : Nat} {R : List (List Int)} (h : Sq n R) {i j : Nat} (c : n ≤ i ∨ n ≤ j) : at_ R i j = 0 := by
  unfold at_
  by_cases hi : i < n
  · have hr := h.row hi
    rw [List.getElem?_eq_none (l := R[i]?.getD []) (by omega)]
    rfl
  · rw [List.getElem?_eq_none (l := R) (by have := h.len; omega)]
    rfl
theorem step_sq {n s t col : Nat} {corner : Int} {R : List (List Int)} (h : Sq n R) (hs : s < n) (ht : t < n) : Sq n (stepR R s t col corner) := by
  have hl := h.len
  constructor
  · unfold stepR others
    rw [List.length_append, List.length_append, List.length_take, List.length_map, List.length_map, List.length_range, List.length_singleton]
    omega
  · intro r hr
    unfold stepR at hr
    rcases List.mem_append.mp hr with hr | hr
    · rcases List.mem_append.mp hr with hr | hr
      · exact h.wid r (List.mem_of_mem_take hr)
      · rw [List.mem_singleton.mp hr]
        exact h.row ht
    · obtain ⟨r', hr', rfl⟩ := List.mem_map.mp hr
      unfold others at hr'
      obtain ⟨i, hi, rfl⟩ := List.mem_map.mp hr'
      have hi := List.mem_range.mp hi
      unfold crow
      rw [List.length_zipWith, h.row ht]
      split
      · rw [h.row hs]
        omega
      · rw [h.row (by omega)]
        omega
/-- the rows with two exchanged -/
def perm (s t i : Nat) : Nat := if i = s then t else if i = t then s else i
theorem step_at {n s t : Nat} {corner : Int} {R : List (List Int)} (h : Sq n R) (hs : s < n) (ht : t < n) (hst : s ≤ t) (i j : Nat) :
    at_ (stepR R s t s corner) (s + 1 + i) (s + 1 + j) = (at_ R (perm s t (s + (i + 1))) (s + (j + 1)) * at_ R (perm s t s) s - at_ R (perm s t (s + (i + 1))) s * at_ R (perm s t s) (s + (j + 1))).fdiv corner := by
  have hl := h.len
  have hp : perm s t s = t := if_pos rfl
  rw [hp]
  by_cases c : s + 1 + i < n ∧ s + 1 + j < n
  · have e1 : (stepR R s t s corner)[s + 1 + i]? = some (crow (R[perm s t (s + (i + 1))]?.getD []) (R[t]?.getD []) s corner) := by
      unfold stepR
      have l1 : (R.take s ++ [R[t]?.getD []]).length = s + 1 := by
        rw [List.length_append, List.length_take, List.length_singleton]
        omega
      rw [List.getElem?_append_right (by omega), l1, show s + 1 + i - (s + 1) = i by omega, List.getElem?_map]
      unfold others
      rw [List.getElem?_map, List.getElem?_range (by omega)]
      show some (crow (if s + 1 + i = t then R[s]?.getD [] else R[s + 1 + i]?.getD []) _ s corner) = _
      congr 2
      unfold perm
      rw [if_neg (show ¬ s + (i + 1) = s by omega)]
      by_cases g : s + 1 + i = t
      · rw [if_pos g, if_pos (by omega)]
      · rw [if_neg g, if_neg (by omega), show s + 1 + i = s + (i + 1) by omega]
    have hpn : perm s t (s + (i + 1)) < n := by
      unfold perm
      repeat' split
      all_goals omega
    have r1 := h.row hpn
    have r2 := h.row ht
    unfold at_
    rw [e1]
    show (crow _ _ s corner)[s + 1 + j]?.getD 0 = _
    unfold crow
    rw [List.getElem?_zipWith, List.getElem?_eq_getElem (show s + 1 + j < (R[perm s t (s + (i + 1))]?.getD []).length by omega), List.getElem?_eq_getElem (show s + 1 + j < (R[t]?.getD []).length by omega)]
    show (_ * _ - _ * _ : Int).fdiv corner = _
    have ej : s + (j + 1) = s + 1 + j := by omega
    rw [ej, List.getElem?_eq_getElem (show s + 1 + j < (R[perm s t (s + (i + 1))]?.getD []).length by omega), List.getElem?_eq_getElem (show s + 1 + j < (R[t]?.getD []).length by omega)]
    rfl
  · rw [(step_sq h hs ht).out (by omega)]
    by_cases ci : n ≤ s + 1 + i
    · have hp2 : perm s t (s + (i + 1)) = s + (i + 1) := by
        unfold perm
        rw [if_neg (by omega), if_neg (by omega)]
      rw [hp2, h.out (.inl (by omega)), h.out (i := s + (i + 1)) (j := s) (.inl (by omega))]
      simp
    · rw [h.out (i := perm s t (s + (i + 1))) (j := s + (j + 1)) (.inr (by omega)), h.out (i := t) (j := s + (j + 1)) (.inr (by omega))]
      simp

/-! ### all steps -/
structure Cs where
  R : List (List Int)
  sign : Int
  corner : Int
  steps : Nat
def found (c : Cs) (col : Nat) : List Nat := (List.range (c.R.length - c.steps)).filter fun i => at_ c.R (c.steps + i) col != 0
def cstep (c : Cs) (col : Nat) : Cs := match found c col with
  | [] => c
  | i :: _ => ⟨stepR c.R c.steps (c.steps + i) col c.corner, if i = 0 then c.sign else -c.sign, at_ c.R (c.steps + i) col, c.steps + 1⟩
def clears (R : List (List Int)) : Nat → Cs
  | 0 => ⟨R, 1, 1, 0⟩
  | k + 1 => cstep (clears R k) k
structure InvC (n k : Nat) (R0 : List (List Int)) (c : Cs) : Prop where
  sq : Sq n c.R
  le : c.steps ≤ k
  cn : c.corner ≠ 0
  ss : c.sign * c.sign = 1
  good : c.steps = k → ∃ M : Mx, (∀ i j, Wh (M i j)) ∧ det n M = (c.sign : Rat) * det n (mx R0) ∧ leads k M ∧ (c.corner : Rat) = cor k M ∧ ∀ i j, ((at_ c.R (k + i) (k + j) : Int) : Rat) = cor k M * gas k M i j
  bad : c.steps < k → det n (mx R0) = 0
theorem found_mem {c : Cs} {col i : Nat} {r : List Nat} (h : found c col = i :: r) : i < c.R.length - c.steps ∧ at_ c.R (c.steps + i) col ≠ 0 := by
  have : i ∈ found c col := by rw [h]; exact List.mem_cons_self ..
  unfold found at this
  obtain ⟨h1, h2⟩ := List.mem_filter.mp this
  exact ⟨List.mem_range.mp h1, by simpa using h2⟩
theorem found_nil {c : Cs} {col i : Nat} (h : found c col = []) (hi : i < c.R.length - c.steps) : at_ c.R (c.steps + i) col = 0 := by
  unfold found at h
  have := List.filter_eq_nil_iff.mp h i (List.mem_range.mpr hi)
  simpa using this
theorem perm_add (k i a : Nat) : perm k (k + i) (k + a) = k + (if a = 0 then i else if a = i then 0 else a) := by
  unfold perm
  by_cases c1 : a = 0
  · rw [if_pos (by omega), if_pos c1]
  · rw [if_neg (by omega), if_neg c1]
    by_cases c2 : a = i
    · rw [if_pos (by omega), if_pos c2]
      rfl
    · rw [if_neg (by omega), if_neg c2]
/-- one step of the clearing as found by the program, at a width that may be another one -/
theorem inv_step {n k : Nat} {R0 : List (List Int)} {c : Cs} (h : InvC n k R0 c) (hk : k < n) : InvC n (k + 1) R0 (cstep c k) := by
  have hl := h.sq.len
  have hs := h.le
  cases e : found c k with
  | nil =>
    have ec : cstep c k = c := by unfold cstep; rw [e]
    rw [ec]
    refine ⟨h.sq, by omega, h.cn, h.ss, fun z => by omega, fun _ => ?_⟩
    by_cases g : c.steps < k
    · exact h.bad g
    have gs : c.steps = k := by omega
    obtain ⟨M, w, hd, hle, hc, hB⟩ := h.good gs
    have cn := cor_ne hle
    have z : det (n - k) (gas k M) = 0 := det_col0 (by omega) fun i hi => by
      have h1 := found_nil e (i := i) (by omega)
      rw [gs] at h1
      have h2 := hB i 0
      rw [Nat.add_zero, h1] at h2
      have h3 : cor k M * gas k M i 0 = 0 := h2.symm
      grind
    have hd2 := det_gas (n := n - k) (k := k) (M := M) hle
    rw [show n - k + k = n by omega, z] at hd2
    rw [hd2] at hd
    have s1 : ((c.sign * c.sign : Int) : Rat) = 1 := by rw [h.ss]; rfl
    rw [Rat.intCast_mul] at s1
    grind
  | cons i r =>
    obtain ⟨hi, hne⟩ := found_mem e
    have ec : cstep c k = ⟨stepR c.R c.steps (c.steps + i) k c.corner, if i = 0 then c.sign else -c.sign, at_ c.R (c.steps + i) k, c.steps + 1⟩ := by unfold cstep; rw [e]
    rw [ec]
    have s2 : (if i = 0 then c.sign else -c.sign) * (if i = 0 then c.sign else -c.sign) = 1 := by
      split
      · exact h.ss
      · rw [Int.neg_mul_neg]
        exact h.ss
    refine ⟨step_sq h.sq (by omega) (by omega), by show c.steps + 1 ≤ k + 1; omega, hne, s2, fun z => ?_, fun z => h.bad (by have : c.steps + 1 < k + 1 := z; omega)⟩
    have gs : c.steps = k := by
      have : c.steps + 1 = k + 1 := z
      omega
    obtain ⟨M, w, hd, hle, hc, hB⟩ := h.good gs
    rw [gs] at hi hne ⊢
    have hB' : ∀ a b, ((at_ c.R (perm k (k + i) (k + a)) (k + b) : Int) : Rat) = cor k (xch (k + 0) (k + i) M) * gas k (xch (k + 0) (k + i) M) a b := fun a b => by
      rw [perm_add, hB, xch_cor, xch_gas]
      rfl
    have h0 : at_ c.R (perm k (k + i) (k + 0)) (k + 0) ≠ 0 := by
      rw [perm_add, if_pos rfl]
      exact hne
    obtain ⟨b1, b2, b3⟩ := bar_step (k := k) (M := xch (k + 0) (k + i) M) (B := fun a b => at_ c.R (perm k (k + i) (k + a)) (k + b)) (c := c.corner) (xch_wh w) (xch_leads k M hle) (by rw [xch_cor]; exact hc) hB' h0
    have hp : perm k (k + i) (k + 0) = k + i := by rw [perm_add, if_pos rfl]
    refine ⟨xch (k + 0) (k + i) M, xch_wh w, ?_, b1, ?_, fun a b => ?_⟩
    · show det n (xch (k + 0) (k + i) M) = (((if i = 0 then c.sign else -c.sign) : Int) : Rat) * det n (mx R0)
      by_cases ci : i = 0
      · rw [if_pos ci, ← hd]
        refine det_congr fun a b _ _ => ?_
        unfold xch
        rw [ci]
        congr 1
        by_cases g : a = k + 0
        · rw [if_pos g, g]
        · rw [if_neg g, if_neg g]
      · rw [if_neg ci, det_xch (by omega) (by omega) (by omega), hd, Rat.intCast_neg]
        grind
    · have := b2
      rw [hp] at this
      exact this
    · have g := b3 a b
      have ss := step_at (corner := c.corner) h.sq (show k < n by omega) (show k + i < n by omega) (by omega) a b
      rw [← g, ss]
      rfl
theorem inv_zero {n : Nat} {R : List (List Int)} (h : Sq n R) : InvC n 0 R ⟨R, 1, 1, 0⟩ :=
  ⟨h, Nat.le_refl _, (by decide : (1 : Int) ≠ 0), (by decide : (1 : Int) * 1 = 1), fun _ => ⟨mx R, mx_wh R, by
    show det n (mx R) = ((1 : Int) : Rat) * det n (mx R)
    have : ((1 : Int) : Rat) = 1 := rfl
    rw [this]
    grind, trivial, rfl, fun i j => by
    rw [Nat.zero_add, Nat.zero_add]
    show mx R i j = 1 * mx R i j
    grind⟩, fun z => by omega⟩
theorem inv_all {n : Nat} {R : List (List Int)} (h : Sq n R) : ∀ k, k ≤ n → InvC n k R (clears R k)
  | 0, _ => inv_zero h
  | k + 1, hk => inv_step (inv_all h k (by omega)) (by omega)
/-- what the program tells of a square -/
theorem clears_det {n : Nat} {R : List (List Int)} (h : Sq n R) : (((if (clears R n).steps = n then (clears R n).sign * (clears R n).corner else 0) : Int) : Rat) = det n (mx R) := by
  have I := inv_all h n (Nat.le_refl _)
  by_cases c : (clears R n).steps = n
  · rw [if_pos c]
    obtain ⟨M, _, hd, hle, hc, _⟩ := I.good c
    have h1 := det_gas (n := 0) (k := n) (M := M) hle
    rw [Nat.zero_add] at h1
    have h2 : det n M = cor n M := by
      rw [h1]
      show cor n M * 1 = cor n M
      grind
    have s1 : (((clears R n).sign * (clears R n).sign : Int) : Rat) = 1 := by rw [I.ss]; rfl
    rw [Rat.intCast_mul] at s1 ⊢
    rw [hc, ← h2, hd]
    grind
  · rw [if_neg c]
    have := I.le
    exact (I.bad (by omega)).symm
/-! ### bounds of the clearing -/
def Bdz (n : Nat) (i : Int) : Prop := i.natAbs < 2 ^ n
theorem fdiv_abs (a c : Int) : (a.fdiv c).natAbs ≤ a.natAbs := by
  rcases Int.lt_trichotomy c 0 with h | h | h
  · have e : a.fdiv c = (-a).fdiv (-c) := (Int.neg_fdiv_neg a c).symm
    have e2 : (-a).fdiv (-c) = (-a) / (-c) := Int.fdiv_eq_ediv_of_nonneg _ (by omega)
    rw [e, e2]
    exact Nat.le_trans (Int.natAbs_ediv_le_natAbs _ _) (by rw [Int.natAbs_neg]; exact Nat.le_refl _)
  · rw [h, Int.fdiv_zero]
    exact Nat.zero_le _
  · rw [Int.fdiv_eq_ediv_of_nonneg _ (by omega)]
    exact Int.natAbs_ediv_le_natAbs _ _
theorem crow_one {n : Nat} {a b c d e : Int} (h1 : Bdz n a) (h2 : Bdz n b) (h3 : Bdz n c) (h4 : Bdz n d) : Bdz (2 * n + 1) ((a * b - c * d).fdiv e) := by
  unfold Bdz at *
  refine Nat.lt_of_le_of_lt (fdiv_abs _ _) ?_
  have m1 : (a * b).natAbs < 2 ^ (n + n) := by
    rw [Int.natAbs_mul, Nat.pow_add]
    exact Nat.mul_lt_mul_of_lt_of_le h1 (Nat.le_of_lt h2) (Nat.two_pow_pos _)
  have m2 : (c * d).natAbs < 2 ^ (n + n) := by
    rw [Int.natAbs_mul, Nat.pow_add]
    exact Nat.mul_lt_mul_of_lt_of_le h3 (Nat.le_of_lt h4) (Nat.two_pow_pos _)
  have e2 : (2 : Nat) ^ (2 * n + 1) = 2 ^ (n + n) + 2 ^ (n + n) := by
    rw [show 2 * n + 1 = (n + n) + 1 by omega, Nat.pow_succ]
    omega
  rw [e2]
  omega
/-- what stays of the clearing of a table of m rows and w columns, entries below 2^b -/
structure PC (m w b k : Nat) (c : Cs) : Prop where
  len : c.R.length = m
  wid : ∀ r ∈ c.R, r.length = w
  st : c.steps ≤ k
  sm_ : c.steps ≤ m
  cn : c.corner ≠ 0
  cb : Bdz ((b + 1) * 2 ^ c.steps - 1) c.corner
  eb : ∀ r ∈ c.R, ∀ y ∈ r, Bdz ((b + 1) * 2 ^ c.steps - 1) y
  sn : c.sign = 1 ∨ c.sign = -1
theorem bits_succ (b s : Nat) : 2 * ((b + 1) * 2 ^ s - 1) + 1 = (b + 1) * 2 ^ (s + 1) - 1 := by
  have h : 0 < (b + 1) * 2 ^ s := Nat.mul_pos (by omega) (Nat.two_pow_pos _)
  rw [Nat.pow_succ, ← Nat.mul_assoc]
  omega
theorem bdz_mono {a b : Nat} {i : Int} (h : Bdz a i) (hab : a ≤ b) : Bdz b i := Nat.lt_of_lt_of_le h (Nat.pow_le_pow_right (by decide) hab)
theorem PC.row {m w b k : Nat} {c : Cs} (h : PC m w b k c) {i : Nat} (hi : i < m) : (c.R[i]?.getD []) ∈ c.R ∧ (c.R[i]?.getD []).length = w := by
  have hl := h.len
  rw [List.getElem?_eq_getElem (by omega)]
  exact ⟨List.getElem_mem _, h.wid _ (List.getElem_mem _)⟩
theorem PC.entry {m w b k : Nat} {c : Cs} (h : PC m w b k c) {i j : Nat} (hi : i < m) (hj : j < w) : Bdz ((b + 1) * 2 ^ c.steps - 1) (at_ c.R i j) := by
  obtain ⟨h1, h2⟩ := h.row hi
  unfold at_
  rw [List.getElem?_eq_getElem (by omega)]
  exact h.eb _ h1 _ (List.getElem_mem _)
theorem others_mem {R : List (List Int)} {s t : Nat} (hs : s < R.length) {r : List Int} (hr : r ∈ others R s t) : r ∈ R := by
  unfold others at hr
  obtain ⟨i, hi, rfl⟩ := List.mem_map.mp hr
  have hi := List.mem_range.mp hi
  split
  · rw [List.getElem?_eq_getElem hs]
    exact List.getElem_mem _
  · rw [List.getElem?_eq_getElem (by omega)]
    exact List.getElem_mem _
theorem pc_step {m w b k : Nat} {c : Cs} (h : PC m w b k c) (hk : k < w) : PC m w b (k + 1) (cstep c k) := by
  have hl := h.len
  cases e : found c k with
  | nil =>
    have ec : cstep c k = c := by unfold cstep; rw [e]
    rw [ec]
    exact ⟨h.len, h.wid, by have := h.st; omega, h.sm_, h.cn, h.cb, h.eb, h.sn⟩
  | cons i r =>
    obtain ⟨hi, hne⟩ := found_mem e
    have ec : cstep c k = ⟨stepR c.R c.steps (c.steps + i) k c.corner, if i = 0 then c.sign else -c.sign, at_ c.R (c.steps + i) k, c.steps + 1⟩ := by unfold cstep; rw [e]
    rw [ec]
    have hb := bits_succ b c.steps
    have le : (b + 1) * 2 ^ c.steps - 1 ≤ (b + 1) * 2 ^ (c.steps + 1) - 1 := by omega
    have ld := h.row (i := c.steps + i) (by omega)
    have crw : ∀ r ∈ c.R, (crow r (c.R[c.steps + i]?.getD []) k c.corner).length = w ∧ ∀ y ∈ crow r (c.R[c.steps + i]?.getD []) k c.corner, Bdz ((b + 1) * 2 ^ (c.steps + 1) - 1) y := fun r hr => by
      have lr := h.wid r hr
      refine ⟨by unfold crow; rw [List.length_zipWith, lr, ld.2]; omega, fun y hy => ?_⟩
      unfold crow at hy
      obtain ⟨j, hj⟩ := List.mem_iff_getElem?.mp hy
      have hj2 : j < w := by
        have := (List.getElem?_eq_some_iff.mp hj).1
        rw [List.length_zipWith, lr, ld.2] at this
        omega
      rw [List.getElem?_zipWith, List.getElem?_eq_getElem (show j < r.length by omega), List.getElem?_eq_getElem (show j < (c.R[c.steps + i]?.getD []).length by omega)] at hj
      cases hj
      rw [← hb]
      refine crow_one (h.eb r hr _ (List.getElem_mem _)) ?_ ?_ (h.eb _ ld.1 _ (List.getElem_mem _))
      · rw [List.getElem?_eq_getElem (show k < (c.R[c.steps + i]?.getD []).length by omega)]
        exact h.eb _ ld.1 _ (List.getElem_mem _)
      · rw [List.getElem?_eq_getElem (show k < r.length by omega)]
        exact h.eb _ hr _ (List.getElem_mem _)
    have cases_ : ∀ r ∈ stepR c.R c.steps (c.steps + i) k c.corner, r.length = w ∧ ∀ y ∈ r, Bdz ((b + 1) * 2 ^ (c.steps + 1) - 1) y := fun r hr => by
      unfold stepR at hr
      rcases List.mem_append.mp hr with hr | hr
      · rcases List.mem_append.mp hr with hr | hr
        · have hr := List.mem_of_mem_take hr
          exact ⟨h.wid r hr, fun y hy => bdz_mono (h.eb r hr y hy) le⟩
        · rw [List.mem_singleton.mp hr]
          exact ⟨ld.2, fun y hy => bdz_mono (h.eb _ ld.1 y hy) le⟩
      · obtain ⟨r', hr', rfl⟩ := List.mem_map.mp hr
        exact crw r' (others_mem (by omega) hr')
    refine ⟨?_, fun r hr => (cases_ r hr).1, by have := h.st; show c.steps + 1 ≤ k + 1; omega, by show c.steps + 1 ≤ m; omega, hne, bdz_mono (h.entry (by omega) hk) le, fun r hr => (cases_ r hr).2, ?_⟩
    · show (stepR c.R c.steps (c.steps + i) k c.corner).length = m
      unfold stepR others
      rw [List.length_append, List.length_append, List.length_take, List.length_map, List.length_map, List.length_range, List.length_singleton]
      omega
    · show (if i = 0 then c.sign else -c.sign) = 1 ∨ (if i = 0 then c.sign else -c.sign) = -1
      have := h.sn
      split <;> omega
theorem pc_all {m w b : Nat} {R : List (List Int)} (hl : R.length = m) (hw : ∀ r ∈ R, r.length = w) (hb : ∀ r ∈ R, ∀ y ∈ r, Bdz b y) (h0 : 0 < b) : ∀ k, k ≤ w → PC m w b k (clears R k)
  | 0, _ => ⟨hl, hw, Nat.le_refl _, Nat.zero_le _, (by decide : (1 : Int) ≠ 0), by
    show (1 : Int).natAbs < 2 ^ ((b + 1) * 2 ^ 0 - 1)
    exact Nat.one_lt_two_pow (by rw [Nat.pow_zero]; omega), fun r hr y hy => bdz_mono (hb r hr y hy) (by show b ≤ (b + 1) * 2 ^ 0 - 1; rw [Nat.pow_zero]; omega), .inl rfl⟩
  | k + 1, h => pc_step (pc_all hl hw hb h0 k (by omega)) (by omega)
end Dt
/-! pivoting, entry by entry -/
namespace Dt
def pvAt (R : List (List Int)) (i j a b : Nat) : Int :=
  if a = i then (if b = j then at_ R i j else at_ R i j * at_ R i b) else if b = j then -(at_ R i j) * at_ R a j else at_ R a b - at_ R i j * at_ R a j * at_ R i b
def pivT (R : List (List Int)) (m w i j : Nat) : List (List Int) := (List.range m).map fun a => (List.range w).map fun b => pvAt R i j a b
theorem pivT_len {R : List (List Int)} {m w i j : Nat} : (pivT R m w i j).length = m := by unfold pivT; rw [List.length_map, List.length_range]
theorem pivT_wid {R : List (List Int)} {m w i j : Nat} : ∀ r ∈ pivT R m w i j, r.length = w := by
  intro r hr
  unfold pivT at hr
  obtain ⟨a, _, rfl⟩ := List.mem_map.mp hr
  rw [List.length_map, List.length_range]
theorem tab_at (f : Nat → Nat → Int) {m w a b : Nat} (ha : a < m) (hb : b < w) : at_ ((List.range m).map fun a => (List.range w).map fun b => f a b) a b = f a b := by
  unfold at_
  rw [List.getElem?_map, List.getElem?_range ha]
  show ((List.range w).map fun b => f a b)[b]?.getD 0 = _
  rw [List.getElem?_map, List.getElem?_range hb]
  rfl
theorem pivT_at {R : List (List Int)} {m w i j a b : Nat} (ha : a < m) (hb : b < w) : at_ (pivT R m w i j) a b = pvAt R i j a b := tab_at (pvAt R i j) ha hb
theorem tab_eq {R : List (List Int)} {m w : Nat} (hl : R.length = m) (hw : ∀ r ∈ R, r.length = w) : ((List.range m).map fun a => (List.range w).map fun b => at_ R a b) = R := by
  refine List.ext_getElem (by rw [List.length_map, List.length_range, hl]) fun a h1 h2 => ?_
  rw [List.getElem_map, List.getElem_range]
  have hr := hw _ (List.getElem_mem h2)
  refine List.ext_getElem (by rw [List.length_map, List.length_range, hr]) fun b h3 h4 => ?_
  rw [List.getElem_map, List.getElem_range]
  unfold at_
  rw [List.getElem?_eq_getElem h2]
  show R[a][b]?.getD 0 = _
  rw [List.getElem?_eq_getElem h4]
  rfl
theorem piv_two {R : List (List Int)} {m w i j a b : Nat} (ha : a < m) (hb : b < w) (hi : i < m) (hj : j < w) (p : at_ R i j = 1 ∨ at_ R i j = -1) : pvAt (pivT R m w i j) i j a b = at_ R a b := by
  have eij : at_ (pivT R m w i j) i j = at_ R i j := by
    rw [pivT_at hi hj]
    unfold pvAt
    rw [if_pos rfl, if_pos rfl]
  unfold pvAt
  rw [eij]
  by_cases c : a = i
  · subst c
    rw [if_pos rfl]
    by_cases d : b = j
    · subst d
      rw [if_pos rfl]
    · rw [if_neg d, pivT_at hi hb]
      unfold pvAt
      rw [if_pos rfl, if_neg d]
      rcases p with p | p <;> rw [p] <;> grind
  · rw [if_neg c]
    have ea : at_ (pivT R m w i j) a j = -(at_ R i j) * at_ R a j := by
      rw [pivT_at ha hj]
      unfold pvAt
      rw [if_neg c, if_pos rfl]
    by_cases d : b = j
    · subst d
      rw [if_pos rfl, ea]
      rcases p with p | p <;> rw [p] <;> grind
    · rw [if_neg d, ea, pivT_at ha hb, pivT_at hi hb]
      unfold pvAt
      rw [if_neg c, if_neg d, if_pos rfl, if_neg d]
      rcases p with p | p <;> rw [p] <;> grind
theorem pivT_twice {R : List (List Int)} {m w i j : Nat} (hl : R.length = m) (hw : ∀ r ∈ R, r.length = w) (hi : i < m) (hj : j < w) (p : at_ R i j = 1 ∨ at_ R i j = -1) : pivT (pivT R m w i j) m w i j = R := by
  refine Eq.trans ?_ (tab_eq hl hw)
  show (List.range m).map _ = _
  refine List.map_congr_left fun a ha => List.map_congr_left fun b hb => ?_
  exact piv_two (List.mem_range.mp ha) (List.mem_range.mp hb) hi hj p
/-- without a row and a column -/
def restT (R : List (List Int)) (i j : Nat) : List (List Int) := (R.take i ++ R.drop (i + 1)).map fun r => r.take j ++ r.drop (j + 1)
theorem out_get {α : Type} (l : List α) (i k : Nat) (h : i < l.length) : (l.take i ++ l.drop (i + 1))[k]? = l[skip i k]? := by
  by_cases c : k < i
  · rw [List.getElem?_append_left (by rw [List.length_take]; omega), List.getElem?_take_of_lt c, skip_lt c]
  · rw [List.getElem?_append_right (by rw [List.length_take]; omega), List.getElem?_drop, skip_ge (by omega), List.length_take]
    congr 1
    omega
theorem rest_at {R : List (List Int)} {m w i j : Nat} (hl : R.length = m) (hw : ∀ r ∈ R, r.length = w) (hi : i < m) (hj : j < w) (a b : Nat) (ha : skip i a < m) : at_ (restT R i j) a b = at_ R (skip i a) (skip j b) := by
  unfold at_ restT
  rw [List.getElem?_map, out_get R i a (by omega)]
  have : skip i a < R.length := by omega
  rw [List.getElem?_eq_getElem this]
  show (R[skip i a].take j ++ R[skip i a].drop (j + 1))[b]?.getD 0 = _
  rw [out_get _ j b (by rw [hw _ (List.getElem_mem this)]; exact hj)]
  rfl
theorem rest_len {R : List (List Int)} {m i j : Nat} (hl : R.length = m) (hi : i < m) : (restT R i j).length = m - 1 := by
  unfold restT
  rw [List.length_map, List.length_append, List.length_take, List.length_drop]
  omega
theorem rest_wid {R : List (List Int)} {w i j : Nat} (hw : ∀ r ∈ R, r.length = w) (hj : j < w) : ∀ r ∈ restT R i j, r.length = w - 1 := by
  intro r hr
  unfold restT at hr
  obtain ⟨r', h', rfl⟩ := List.mem_map.mp hr
  have hm : r' ∈ R := by
    rcases List.mem_append.mp h' with h | h
    · exact List.mem_of_mem_take h
    · exact List.mem_of_mem_drop h
  have := hw _ hm
  rw [List.length_append, List.length_take, List.length_drop]
  omega
theorem rest_mem {R : List (List Int)} {i j : Nat} {P : Int → Prop} (h : ∀ r ∈ R, ∀ y ∈ r, P y) : ∀ r ∈ restT R i j, ∀ y ∈ r, P y := by
  intro r hr y hy
  unfold restT at hr
  obtain ⟨r', h', rfl⟩ := List.mem_map.mp hr
  have hm : r' ∈ R := by
    rcases List.mem_append.mp h' with h | h
    · exact List.mem_of_mem_take h
    · exact List.mem_of_mem_drop h
  refine h r' hm y ?_
  rcases List.mem_append.mp hy with h | h
  · exact List.mem_of_mem_take h
  · exact List.mem_of_mem_drop h
theorem sg_pm (n : Nat) : (n % 2 = 0 ∧ sg n = 1) ∨ (n % 2 = 1 ∧ sg n = -1) := by
  induction n with
  | zero => exact .inl ⟨rfl, rfl⟩
  | succ n ih =>
    rw [sg_succ]
    rcases ih with ⟨h, e⟩ | ⟨h, e⟩
    · exact .inr ⟨by omega, by rw [e]⟩
    · exact .inl ⟨by omega, by rw [e]; rfl⟩
/-- the sign at a row and a column -/
def sgn2 (i j : Nat) : Int := if (i + j) % 2 = 0 then 1 else -1
theorem sgn2_eq (i j : Nat) : ((sgn2 i j : Int) : Rat) = sg i * sg j := by
  unfold sgn2
  rcases sg_pm i with ⟨h, e⟩ | ⟨h, e⟩ <;> rcases sg_pm j with ⟨g, f⟩ | ⟨g, f⟩ <;> rw [e, f]
  · rw [if_pos (by omega)]; simp
  · rw [if_neg (by omega)]; simp
  · rw [if_neg (by omega)]; simp
  · rw [if_pos (by omega)]; simp; grind
theorem piv_det {R : List (List Int)} {n i j : Nat} (hl : R.length = n + 1) (hw : ∀ r ∈ R, r.length = n + 1) (hi : i < n + 1) (hj : j < n + 1) (p : at_ R i j = 1 ∨ at_ R i j = -1) :
    det (n + 1) (mx R) = ((sgn2 i j * at_ R i j : Int) : Rat) * det n (mx (restT (pivT R (n + 1) (n + 1) i j) i j)) := by
  have hp : mx R i j ≠ 0 := by
    show ((at_ R i j : Int) : Rat) ≠ 0
    rcases p with p | p <;> rw [p] <;> decide
  rw [det_piv hi hj hp, Rat.intCast_mul, sgn2_eq]
  have e : det n (fun a b => mx R (skip i a) (skip j b) - mx R (skip i a) j / mx R i j * mx R i (skip j b)) = det n (mx (restT (pivT R (n + 1) (n + 1) i j) i j)) := by
    refine det_congr fun a b ha hb => ?_
    have ka : skip i a < n + 1 := by unfold skip; split <;> omega
    have kb : skip j b < n + 1 := by unfold skip; split <;> omega
    have na : skip i a ≠ i := by unfold skip; split <;> omega
    have nb : skip j b ≠ j := by unfold skip; split <;> omega
    show _ = ((at_ _ a b : Int) : Rat)
    rw [rest_at pivT_len pivT_wid hi hj a b ka, pivT_at ka kb]
    unfold pvAt
    rw [if_neg na, if_neg nb, Rat.intCast_sub, Rat.intCast_mul, Rat.intCast_mul]
    show ((at_ R (skip i a) (skip j b) : Int) : Rat) - ((at_ R (skip i a) j : Int) : Rat) / ((at_ R i j : Int) : Rat) * ((at_ R i (skip j b) : Int) : Rat) = _
    rcases p with p | p <;> rw [p] <;> simp only [Rat.div_def] <;> grind
  rw [e]
  rfl
end Dt
/-! determinants of turned squares and of products -/
namespace Dt
theorem sm_shift {f : Nat → Rat} : ∀ n : Nat, sm (n + 1) f = f 0 + sm n (fun j => f (j + 1))
  | 0 => by
    show sm 0 f + f 0 = f 0 + 0
    show 0 + f 0 = f 0 + 0
    grind
  | n + 1 => by
    show sm (n + 1) f + f (n + 1) = f 0 + (sm n (fun j => f (j + 1)) + f (n + 1))
    rw [sm_shift n]
    grind
theorem sm_mulr {f : Nat → Rat} (c : Rat) (n : Nat) : sm n (fun j => f j * c) = sm n f * c := by
  have : sm n (fun j => f j * c) = sm n (fun j => c * f j) := sm_congr fun j _ => Rat.mul_comm _ _
  rw [this, sm_mul, Rat.mul_comm]
theorem sg0 : sg 0 = 1 := rfl
theorem skip_succ (i a : Nat) : skip (i + 1) (a + 1) = skip i a + 1 := by
  unfold skip
  by_cases h : a < i
  · rw [if_pos h, if_pos (by omega)]
  · rw [if_neg h, if_neg (by omega)]
/-- along the first column -/
theorem det_first : ∀ {n : Nat} {M : Mx}, det (n + 1) M = sm (n + 1) fun i => sg i * M i 0 * det n (fun a b => M (skip i a) (b + 1))
  | 0, M => rfl
  | n + 1, M => by
    have L : det (n + 2) M = sm (n + 2) fun j => sg j * M 0 j * det (n + 1) (minor M j) := rfl
    rw [L, sm_shift (n + 1), sm_shift (n + 1)]
    have h0 : sg 0 * M 0 0 * det (n + 1) (minor M 0) = sg 0 * M 0 0 * det (n + 1) (fun a b => M (skip 0 a) (b + 1)) := by
      congr 1
    rw [h0]
    congr 1
    have l1 : sm (n + 1) (fun j => sg (j + 1) * M 0 (j + 1) * det (n + 1) (minor M (j + 1))) = sm (n + 1) fun j => sm (n + 1) fun i => -(sg j * sg i) * (M 0 (j + 1) * M (i + 1) 0) * det n (fun a b => M (skip i a + 1) (skip j b + 1)) := sm_congr fun j hj => by
      rw [det_first (n := n) (M := minor M (j + 1)), ← sm_mul]
      refine sm_congr fun i hi => ?_
      have e1 : (minor M (j + 1)) i 0 = M (i + 1) 0 := by
        show M (i + 1) (skip (j + 1) 0) = _
        rw [skip_lt (by omega)]
      have e2 : det n (fun a b => (minor M (j + 1)) (skip i a) (b + 1)) = det n (fun a b => M (skip i a + 1) (skip j b + 1)) := det_congr fun a b _ _ => by
        show M (skip i a + 1) (skip (j + 1) (b + 1)) = _
        rw [skip_succ]
      rw [e1, e2, sg_succ]
      grind
    have l2 : sm (n + 1) (fun i => sg (i + 1) * M (i + 1) 0 * det (n + 1) (fun a b => M (skip (i + 1) a) (b + 1))) = sm (n + 1) fun i => sm (n + 1) fun j => -(sg j * sg i) * (M 0 (j + 1) * M (i + 1) 0) * det n (fun a b => M (skip i a + 1) (skip j b + 1)) := sm_congr fun i hi => by
      have e : det (n + 1) (fun a b => M (skip (i + 1) a) (b + 1)) = sm (n + 1) fun j => sg j * M 0 (j + 1) * det n (fun a b => M (skip i a + 1) (skip j b + 1)) := by
        show sm (n + 1) _ = _
        refine sm_congr fun j hj => ?_
        have e2 : det n (minor (fun a b => M (skip (i + 1) a) (b + 1)) j) = det n (fun a b => M (skip i a + 1) (skip j b + 1)) := det_congr fun a b _ _ => by
          show M (skip (i + 1) (a + 1)) (skip j b + 1) = _
          rw [skip_succ]
        rw [e2]
        show sg j * M (skip (i + 1) 0) (j + 1) * _ = _
        rw [skip_lt (show 0 < i + 1 by omega)]
      rw [e, ← sm_mul]
      refine sm_congr fun j hj => ?_
      rw [sg_succ]
      grind
    rw [l1, l2, sm_comm]
theorem det_T : ∀ {n : Nat} {M : Mx}, det n (fun i j => M j i) = det n M
  | 0, _ => rfl
  | n + 1, M => by
    rw [det_first (M := M)]
    show sm (n + 1) _ = _
    refine sm_congr fun j hj => ?_
    show sg j * M j 0 * det n (minor (fun i j => M j i) j) = _
    have e : det n (minor (fun i j => M j i) j) = det n (fun a b => M (skip j a) (b + 1)) := det_T (n := n) (M := fun a b => M (skip j a) (b + 1))
    rw [e]
def adds (k : Nat) (c : Nat → Rat) (M : Mx) : Mx := fun i j => if 0 < i ∧ i < k then M i j + c i * M 0 j else M i j
theorem det_adds {n : Nat} {c : Nat → Rat} {M : Mx} : ∀ k, k ≤ n → det n (adds k c M) = det n M
  | 0, _ => det_congr fun i j _ _ => if_neg (by omega)
  | k + 1, h => by
    have ih := det_adds (n := n) (c := c) (M := M) k (by omega)
    by_cases z : k = 0
    · subst z
      rw [← ih]
      exact det_congr fun i j _ _ => by
        unfold adds
        rw [if_neg (by omega), if_neg (by omega)]
    · rw [← ih, ← det_ad (r := k) (p := 0) (c := c k) (M := adds k c M) (by omega) (by omega) (fun z2 => z z2.symm)]
      exact det_congr fun i j _ _ => by
        unfold ad adds
        by_cases e : i = k
        · subst e
          rw [if_pos ⟨by omega, by omega⟩, if_pos rfl, if_neg (by omega), if_neg (by omega)]
        · rw [if_neg e]
          by_cases g : 0 < i ∧ i < k
          · rw [if_pos g, if_pos ⟨g.1, by omega⟩]
          · rw [if_neg g, if_neg (by omega)]
def mulM (m : Nat) (A B : Mx) : Mx := fun i j => sm m fun k => A i k * B k j
theorem det_mul : ∀ {n : Nat} {A B : Mx}, det n (mulM n A B) = det n A * det n B
  | 0, _, _ => by
    show (1 : Rat) = 1 * 1
    grind
  | n + 1, A, B => by
    -- each row of B ahead of the rest
    let P : Nat → Mx := fun k i j => if i = 0 then B k j else mulM (n + 1) A B i j
    have s1 : det (n + 1) (mulM (n + 1) A B) = sm (n + 1) fun k => A 0 k * det (n + 1) (P k) := by
      have e : ∀ k, A 0 k * det (n + 1) (P k) = sm (n + 1) fun j => sg j * (A 0 k * B k j) * det n (minor (mulM (n + 1) A B) j) := fun k => by
        show A 0 k * sm (n + 1) (fun j => sg j * (P k) 0 j * det n (minor (P k) j)) = _
        rw [← sm_mul]
        refine sm_congr fun j hj => ?_
        have e1 : (P k) 0 j = B k j := if_pos rfl
        have e2 : det n (minor (P k) j) = det n (minor (mulM (n + 1) A B) j) := det_congr fun a b _ _ => by
          show P k (a + 1) (skip j b) = mulM (n + 1) A B (a + 1) (skip j b)
          exact if_neg (by omega)
        rw [e1, e2]
        grind
      rw [sm_congr (fun k _ => e k), sm_comm]
      show sm (n + 1) _ = _
      refine sm_congr fun j hj => ?_
      rw [sm_mulr]
      congr 1
      show sg j * sm (n + 1) (fun k => A 0 k * B k j) = _
      rw [← sm_mul]
    have s2 : ∀ k, k < n + 1 → det (n + 1) (P k) = det n (minor A k) * (sg k * det (n + 1) B) := fun k hk => by
      rw [← det_adds (c := fun i => -(A i k)) (M := P k) (n + 1) (Nat.le_refl _), ← det_top (M := B) hk]
      show sm (n + 1) _ = _ * sm (n + 1) _
      rw [← sm_mul]
      refine sm_congr fun j hj => ?_
      have e0 : (adds (n + 1) (fun i => -(A i k)) (P k)) 0 j = B k j := by
        unfold adds
        rw [if_neg (by omega)]
        exact if_pos rfl
      have e1 : (top k B) 0 j = B k j := rfl
      have e2 : det n (minor (top k B) j) = det n (fun a b => B (skip k a) (skip j b)) := det_congr fun a b _ _ => by
        show B (if a + 1 = 0 then k else skip k (a + 1 - 1)) (skip j b) = _
        rw [if_neg (by omega), Nat.add_sub_cancel]
      have e3 : det n (minor (adds (n + 1) (fun i => -(A i k)) (P k)) j) = det n (mulM n (minor A k) (fun a b => B (skip k a) (skip j b))) := det_congr fun a b ha hb => by
        show (if 0 < a + 1 ∧ a + 1 < n + 1 then P k (a + 1) (skip j b) + -(A (a + 1) k) * P k 0 (skip j b) else P k (a + 1) (skip j b)) = sm n fun l => A (a + 1) (skip k l) * B (skip k l) (skip j b)
        rw [if_pos ⟨by omega, by omega⟩, sm_skip (g := fun l => A (a + 1) l * B l (skip j b)) (by omega)]
        have p1 : P k (a + 1) (skip j b) = sm (n + 1) fun l => A (a + 1) l * B l (skip j b) := if_neg (by omega)
        have p0 : P k 0 (skip j b) = B k (skip j b) := if_pos rfl
        rw [p1, p0]
        have one : ∀ (m : Nat) (x : Rat), k < m → sm m (fun l => if l = k then x else 0) = x := fun m x => by
          induction m with
          | zero => intro h; omega
          | succ m ih =>
            intro hm
            show sm m (fun l => if l = k then x else 0) + (if m = k then x else 0) = x
            by_cases g : m = k
            · have : sm m (fun l => if l = k then x else 0) = sm m fun _ => 0 := sm_congr fun l hl => if_neg (by omega)
              rw [if_pos g, this, sm_zero]
              grind
            · rw [if_neg g, ih (by omega)]
              grind
        have o := one (n + 1) (-(A (a + 1) k) * B k (skip j b)) hk
        rw [← o, ← sm_add]
        refine sm_congr fun l hl => ?_
        by_cases g : l = k
        · subst g
          rw [if_pos rfl, if_pos rfl]
          grind
        · rw [if_neg g, if_neg g]
          grind
      rw [e0, e1, e2, e3, det_mul (n := n)]
      grind
    rw [s1]
    show _ = sm (n + 1) (fun k => sg k * A 0 k * det n (minor A k)) * det (n + 1) B
    rw [← sm_mulr]
    refine sm_congr fun k hk => ?_
    rw [s2 k hk]
    grind
theorem det_scale {n r : Nat} {c : Rat} {M N : Mx} (hr : r < n) (h1 : ∀ j, j < n → N r j = c * M r j) (h2 : ∀ i j, i ≠ r → i < n → j < n → N i j = M i j) : det n N = c * det n M := by
  have h := det_lin (c := c - 1) (r := r) (n := n) (M := N) (A := M) (B := M) hr (fun j hj => by rw [h1 j hj]; grind) (fun i j ne hi hj => ⟨h2 i j ne hi hj, h2 i j ne hi hj⟩)
  rw [h]
  grind
theorem det_scalec {n r : Nat} {c : Rat} {M N : Mx} (hr : r < n) (h1 : ∀ i, i < n → N i r = c * M i r) (h2 : ∀ i j, j ≠ r → i < n → j < n → N i j = M i j) : det n N = c * det n M := by
  rw [← det_T (M := N), ← det_T (M := M)]
  exact det_scale hr (fun j hj => h1 j hj) (fun i j ne hi hj => h2 j i ne hj hi)
end Dt
/-! what determinants keep, of tables as lists -/
namespace Dt
def detI (n : Nat) (R : List (List Int)) : Int := if (clears R n).steps = n then (clears R n).sign * (clears R n).corner else 0
theorem detI_eq {n : Nat} {R : List (List Int)} (h : Sq n R) : ((detI n R : Int) : Rat) = det n (mx R) := clears_det h
theorem detI_of {n : Nat} {R S : List (List Int)} {c : Int} (h : Sq n R) (g : Sq n S) (e : det n (mx S) = (c : Rat) * det n (mx R)) : detI n S = c * detI n R := by
  apply Rat.intCast_inj.mp
  rw [detI_eq g, Rat.intCast_mul, detI_eq h, e]
theorem sum_range (f : Nat → Int) : ∀ n : Nat, ((((List.range n).map f).sum : Int) : Rat) = sm n fun k => ((f k : Int) : Rat)
  | 0 => rfl
  | n + 1 => by
    rw [List.range_succ, List.map_append, List.sum_append, Rat.intCast_add, sum_range f n]
    show _ + (((f n + 0 : Int)) : Rat) = _
    rw [Int.add_zero]
    rfl
theorem detI_turn {n : Nat} {R S : List (List Int)} (h : Sq n R) (g : Sq n S) (e : ∀ a b, a < n → b < n → at_ S b a = at_ R a b) : detI n S = detI n R := by
  apply Rat.intCast_inj.mp
  rw [detI_eq g, detI_eq h, ← det_T]
  exact det_congr fun a b ha hb => by
    show ((at_ S b a : Int) : Rat) = ((at_ R a b : Int) : Rat)
    rw [e a b ha hb]
theorem detI_mul {n : Nat} {A B C : List (List Int)} (hA : Sq n A) (hB : Sq n B) (hC : Sq n C) (e : ∀ a b, a < n → b < n → at_ C a b = ((List.range n).map fun k => at_ A a k * at_ B k b).sum) : detI n C = detI n A * detI n B := by
  apply Rat.intCast_inj.mp
  rw [detI_eq hC, Rat.intCast_mul, detI_eq hA, detI_eq hB, ← det_mul]
  refine det_congr fun a b ha hb => ?_
  show ((at_ C a b : Int) : Rat) = sm n fun k => ((at_ A a k : Int) : Rat) * ((at_ B k b : Int) : Rat)
  rw [e a b ha hb, sum_range]
  exact sm_congr fun k _ => Rat.intCast_mul _ _
theorem detI_row {n r : Nat} {R S : List (List Int)} {c : Int} (h : Sq n R) (g : Sq n S) (hr : r < n) (e1 : ∀ b, b < n → at_ S r b = c * at_ R r b) (e2 : ∀ a b, a ≠ r → a < n → b < n → at_ S a b = at_ R a b) : detI n S = c * detI n R := detI_of h g (det_scale hr (fun b hb => by
    show ((at_ S r b : Int) : Rat) = (c : Rat) * ((at_ R r b : Int) : Rat)
    rw [e1 b hb, Rat.intCast_mul]) (fun a b ne ha hb => by
    show ((at_ S a b : Int) : Rat) = ((at_ R a b : Int) : Rat)
    rw [e2 a b ne ha hb]))
theorem detI_col {n r : Nat} {R S : List (List Int)} {c : Int} (h : Sq n R) (g : Sq n S) (hr : r < n) (e1 : ∀ a, a < n → at_ S a r = c * at_ R a r) (e2 : ∀ a b, b ≠ r → a < n → b < n → at_ S a b = at_ R a b) : detI n S = c * detI n R := detI_of h g (det_scalec hr (fun a ha => by
    show ((at_ S a r : Int) : Rat) = (c : Rat) * ((at_ R a r : Int) : Rat)
    rw [e1 a ha, Rat.intCast_mul]) (fun a b ne ha hb => by
    show ((at_ S a b : Int) : Rat) = ((at_ R a b : Int) : Rat)
    rw [e2 a b ne ha hb]))
theorem detI_add {n r p : Nat} {R S : List (List Int)} {c : Int} (h : Sq n R) (g : Sq n S) (hr : r < n) (hp : p < n) (ne : p ≠ r) (e1 : ∀ b, b < n → at_ S r b = at_ R r b + c * at_ R p b) (e2 : ∀ a b, a ≠ r → a < n → b < n → at_ S a b = at_ R a b) : detI n S = detI n R := by
  apply Rat.intCast_inj.mp
  rw [detI_eq g, detI_eq h, ← det_ad (c := (c : Rat)) (M := mx R) hr hp ne]
  refine det_congr fun a b ha hb => ?_
  unfold ad
  by_cases z : a = r
  · subst z
    rw [if_pos rfl]
    show ((at_ S a b : Int) : Rat) = ((at_ R a b : Int) : Rat) + (c : Rat) * ((at_ R p b : Int) : Rat)
    rw [e1 b hb, Rat.intCast_add, Rat.intCast_mul]
  · rw [if_neg z]
    show ((at_ S a b : Int) : Rat) = ((at_ R a b : Int) : Rat)
    rw [e2 a b z ha hb]
theorem detI_swap {n r t : Nat} {R S : List (List Int)} (h : Sq n R) (g : Sq n S) (hr : r < n) (ht : t < n) (ne : r ≠ t) (e : ∀ a b, a < n → b < n → at_ S a b = at_ R (if a = r then t else if a = t then r else a) b) : detI n S = 0 - detI n R := by
  apply Rat.intCast_inj.mp
  rw [detI_eq g, Rat.intCast_sub, detI_eq h]
  have x := det_xch (M := mx R) hr ht ne
  have : det n (mx S) = det n (xch r t (mx R)) := det_congr fun a b ha hb => by
    show ((at_ S a b : Int) : Rat) = ((at_ R (if a = r then t else if a = t then r else a) b : Int) : Rat)
    rw [e a b ha hb]
  rw [this, x]
  show _ = (0 : Rat) - _
  grind
theorem at_set {R : List (List Int)} {r : Nat} {x : List Int} (hr : r < R.length) (a b : Nat) : at_ (R.set r x) a b = if a = r then x[b]?.getD 0 else at_ R a b := by
  unfold at_
  by_cases h : a = r
  · subst h
    rw [if_pos rfl, List.getElem?_set_self hr]
    rfl
  · rw [if_neg h, List.getElem?_set_ne (fun z => h z.symm)]
end Dt
/-! picks of so many of the first numbers, the least ahead -/
namespace Cb
/-- all rising lists of so many of lo .. n - 1, the least ahead -/
def C (n : Nat) : Nat → Nat → List (List Nat)
  | 0, _ => [[]]
  | r + 1, lo => (List.range' lo (n - lo)).flatMap fun i => (C n r (i + 1)).map (i :: ·)
theorem C_step (n r lo : Nat) (h : lo < n) : C n (r + 1) lo = (C n r (lo + 1)).map (lo :: ·) ++ C n (r + 1) (lo + 1) := by
  have e : ∀ m, C n (r + 1) m = (List.range' m (n - m)).flatMap fun i => (C n r (i + 1)).map (i :: ·) := fun m => rfl
  obtain ⟨k, hk⟩ : ∃ k, n - lo = k + 1 := ⟨n - lo - 1, by omega⟩
  have h2 : n - (lo + 1) = k := by omega
  rw [e, e, hk, h2, List.range'_succ, List.flatMap_cons]
theorem C_end (n r lo : Nat) (h : n ≤ lo) : C n (r + 1) lo = [] := by
  unfold C
  rw [show n - lo = 0 by omega]
  rfl
/-- the next one, as the table's own recursion has it -/
def nxt (n : Nat) : List Nat → Option (List Nat)
  | [] => none
  | a :: l => match nxt n l with
    | some m => some (a :: m)
    | none => if a != n - (l.length + 1) then some (List.range' (a + 1) (l.length + 1)) else none
/-- the next one, as the iterator finds it -/
def step (n : Nat) (indices : List Nat) : Option (List Nat) :=
  let r := indices.length
  match (List.range r).reverse.find? fun i => indices.getD i 0 != i + n - r with
  | none => none
  | some i => some (indices.take i ++ (List.range (r - i)).map (indices.getD i 0 + 1 + ·))
theorem step_nxt (n : Nat) : ∀ l : List Nat, step n l = nxt n l
  | [] => rfl
  | a :: l => by
    have ih := step_nxt n l
    have e1 : (List.range (l.length + 1)).reverse = (List.range l.length).reverse.map (· + 1) ++ [0] := by
      rw [List.range_succ_eq_map, List.reverse_cons, List.map_reverse]
    have e2 : (fun i => (a :: l).getD i 0 != i + n - (l.length + 1)) ∘ (· + 1) = fun i => l.getD i 0 != i + n - l.length := by
      funext i
      show (l.getD i 0 != i + 1 + n - (l.length + 1)) = _
      rw [show i + 1 + n - (l.length + 1) = i + n - l.length by omega]
    unfold step nxt
    rw [← ih]
    unfold step
    simp only [List.length_cons]
    rw [e1, List.find?_append, List.find?_map, e2]
    cases h : List.find? (fun i => l.getD i 0 != i + n - l.length) (List.range l.length).reverse with
    | some i =>
      simp only [Option.map_some, Option.some_or, List.take_succ_cons, List.getD_cons_succ, List.cons_append]
      rw [show l.length + 1 - (i + 1) = l.length - i by omega]
    | none =>
      simp only [Option.map_none, Option.none_or]
      by_cases z : (a != n - (l.length + 1)) = true
      · have z2 : ((a :: l).getD 0 0 != 0 + n - (l.length + 1)) = true := by rw [Nat.zero_add]; exact z
        have z3 : List.find? (fun i => (a :: l).getD i 0 != i + n - (l.length + 1)) [0] = some 0 := List.find?_cons_of_pos (p := fun i => (a :: l).getD i 0 != i + n - (l.length + 1)) z2
        rw [z3, if_pos z]
        simp only [List.take_zero, List.nil_append, Nat.sub_zero]
        rw [List.range'_eq_map_range]
        rfl
      · have z2 : ¬ ((a :: l).getD 0 0 != 0 + n - (l.length + 1)) = true := by rw [Nat.zero_add]; exact z
        have z3 : List.find? (fun i => (a :: l).getD i 0 != i + n - (l.length + 1)) [0] = none := List.find?_cons_of_neg (p := fun i => (a :: l).getD i 0 != i + n - (l.length + 1)) z2
        rw [z3, if_neg z]
def Ok (n r lo : Nat) : Prop := (r + lo ≤ n → (C n r lo)[0]? = some (List.range' lo r)) ∧ (n < r + lo → lo ≤ n → C n r lo = []) ∧ ∀ i l, (C n r lo)[i]? = some l → l.length = r ∧ nxt n l = (C n r lo)[i + 1]?
theorem ok (n : Nat) : ∀ r d lo, lo + d = n → Ok n r lo
  | 0, d, lo, h => ⟨fun _ => rfl, fun h1 _ => by omega, fun i l hi => by
    cases i with
    | zero =>
      cases hi
      exact ⟨rfl, rfl⟩
    | succ i => cases i <;> cases hi⟩
  | r + 1, 0, lo, h => by
    have e : C n (r + 1) lo = [] := C_end n r lo (by omega)
    exact ⟨fun h1 => by omega, fun _ _ => e, fun i l hi => by rw [e] at hi; cases hi⟩
  | r + 1, d + 1, lo, h => by
    have hlo : lo < n := by omega
    have A := ok n r d (lo + 1) (by omega)
    have B := ok n (r + 1) d (lo + 1) (by omega)
    have e := C_step n r lo hlo
    refine ⟨fun h1 => ?_, fun h1 _ => ?_, fun i l hi => ?_⟩
    · rw [e, List.getElem?_append_left (by
        have := A.1 (by omega)
        have := (List.getElem?_eq_some_iff.mp this).1
        rwa [List.length_map]), List.getElem?_map, A.1 (by omega), List.range'_succ]
      rfl
    · rw [e, A.2.1 (by omega) (by omega), B.2.1 (by omega) (by omega)]
      rfl
    · rw [e] at hi ⊢
      by_cases c : i < ((C n r (lo + 1)).map (lo :: ·)).length
      · rw [List.getElem?_append_left c, List.getElem?_map] at hi
        obtain ⟨m, hm, rfl⟩ := Option.map_eq_some_iff.mp hi
        obtain ⟨l1, l2⟩ := A.2.2 i m hm
        refine ⟨by rw [List.length_cons, l1], ?_⟩
        unfold nxt
        rw [l2]
        by_cases c2 : i + 1 < ((C n r (lo + 1)).map (lo :: ·)).length
        · rw [List.getElem?_append_left c2, List.getElem?_map]
          rw [List.length_map] at c2
          rw [List.getElem?_eq_getElem c2]
          rfl
        · rw [List.getElem?_append_right (by omega)]
          rw [List.length_map] at c c2 ⊢
          rw [List.getElem?_eq_none (by omega), show i + 1 - (C n r (lo + 1)).length = 0 by omega]
          show (if lo != n - (m.length + 1) then some (List.range' (lo + 1) (m.length + 1)) else none) = _
          rw [l1]
          have ne : ¬ (n < r + (lo + 1)) := fun z => by
            rw [A.2.1 z (by omega)] at c
            cases c
          by_cases q : r + 1 + (lo + 1) ≤ n
          · rw [B.1 q, if_pos (by simp; omega)]
          · rw [B.2.1 (by omega) (by omega), if_neg (by simp; omega)]
            rfl
      · rw [List.getElem?_append_right (by omega)] at hi
        obtain ⟨l1, l2⟩ := B.2.2 _ l hi
        refine ⟨l1, ?_⟩
        rw [l2, List.getElem?_append_right (by omega), show i + 1 - ((C n r (lo + 1)).map (lo :: ·)).length = i - ((C n r (lo + 1)).map (lo :: ·)).length + 1 by omega]
/-- all picks of r of n places -/
def all (n r : Nat) : List (List Nat) := C n r 0
theorem all_none {n r : Nat} (h : n < r) : all n r = [] := (ok n r n 0 (by omega)).2.1 (by omega) (by omega)
theorem all_head {n r : Nat} (h : r ≤ n) : (all n r)[0]? = some (List.range r) := by
  rw [List.range_eq_range']
  exact (ok n r n 0 (by omega)).1 (by omega)
theorem all_next {n r i : Nat} {l : List Nat} (h : (all n r)[i]? = some l) : step n l = (all n r)[i + 1]? := by
  rw [step_nxt]
  exact ((ok n r n 0 (by omega)).2.2 i l h).2
theorem all_len {n r i : Nat} {l : List Nat} (h : (all n r)[i]? = some l) : l.length = r := ((ok n r n 0 (by omega)).2.2 i l h).1
/-- what is among them: the rising lists of so many places -/
theorem mem_C {n : Nat} : ∀ {r lo : Nat} {l : List Nat}, l ∈ C n r lo ↔ l.length = r ∧ l.Pairwise (· < ·) ∧ ∀ x ∈ l, lo ≤ x ∧ x < n
  | 0, lo, l => by
    show l ∈ [[]] ↔ _
    rw [List.mem_singleton]
    constructor
    · rintro rfl
      exact ⟨rfl, .nil, fun x hx => nomatch hx⟩
    · rintro ⟨h, _⟩
      exact List.length_eq_zero_iff.mp h
  | r + 1, lo, l => by
    unfold C
    rw [List.mem_flatMap]
    constructor
    · rintro ⟨i, hi, hl⟩
      obtain ⟨m, hm, rfl⟩ := List.mem_map.mp hl
      obtain ⟨a, b, c⟩ := mem_C.mp hm
      rw [List.mem_range'_1] at hi
      refine ⟨by rw [List.length_cons, a], .cons (fun y hy => ?_) b, fun x hx => ?_⟩
      · have := c y hy
        omega
      · rcases List.mem_cons.mp hx with rfl | hx
        · omega
        · have := c x hx
          omega
    · rintro ⟨a, b, c⟩
      cases l with
      | nil => simp at a
      | cons i m =>
        have ci := c i (List.mem_cons_self ..)
        refine ⟨i, by rw [List.mem_range'_1]; omega, List.mem_map.mpr ⟨m, mem_C.mpr ⟨by simpa using a, (List.pairwise_cons.mp b).2, fun x hx => ?_⟩, rfl⟩⟩
        have h1 := (List.pairwise_cons.mp b).1 x hx
        have h2 := c x (List.mem_cons_of_mem _ hx)
        omega
theorem mem_all {n r : Nat} {l : List Nat} : l ∈ all n r ↔ l.length = r ∧ l.Pairwise (· < ·) ∧ ∀ x ∈ l, x < n := by
  unfold all
  rw [mem_C]
  constructor
  · rintro ⟨a, b, c⟩
    exact ⟨a, b, fun x hx => (c x hx).2⟩
  · rintro ⟨a, b, c⟩
    exact ⟨a, b, fun x hx => ⟨Nat.zero_le _, c x hx⟩⟩
end Cb
/-! combinations(..): the facts of the type -/
namespace PySem
namespace F
theorem slot_comb_init : Slot "itertools.combinations" "__init__" "object.__init__" :=
  .of (owner := "object") (n := "__init__") (by rw [typeLookup_type, builtinLookup_eq_fast]; kernel_rfl) (by decide +kernel) (by decide +kernel) (by decide +kernel)
    (by first | exact .inl (by decide +kernel) | exact .inr (by decide +kernel)) (by rw [isSubtype_type]; kernel_rfl)
theorem slot_comb_next : Slot "itertools.combinations" "__next__" "itertools.combinations.__next__" :=
  .of (owner := "itertools.combinations") (n := "__next__") (by rw [typeLookup_type, builtinLookup_eq_fast]; kernel_rfl) (by decide +kernel) (by decide +kernel) (by decide +kernel)
    (by first | exact .inl (by decide +kernel) | exact .inr (by decide +kernel)) (by rw [isSubtype_type]; kernel_rfl)
theorem slot_comb_iter : Slot "itertools.combinations" "__iter__" "itertools.combinations.__iter__" :=
  .of (owner := "itertools.combinations") (n := "__iter__") (by rw [typeLookup_type, builtinLookup_eq_fast]; kernel_rfl) (by decide +kernel) (by decide +kernel) (by decide +kernel)
    (by first | exact .inl (by decide +kernel) | exact .inr (by decide +kernel)) (by rw [isSubtype_type]; kernel_rfl)
theorem owner_comb : Manifest.owners.lookup (String.ofList ['s', 'n', 'o', 'i', 't', 'a', 'n', 'i', 'b', 'm', 'o', 'c', '.', 's', 'l', 'o', 'o', 't', 'r', 'e', 't', 'i'].reverse) = some Manifest.sig_itertools_combinations := by kernel_rfl
theorem args_comb_next_1 (a : Value) : argsOk "itertools.combinations.__next__" ⟨[a], []⟩ := by
  unfold argsOk; rw [signature?_of (id := "itertools.combinations.__next__") (n := ['_', '_', 't', 'x', 'e', 'n', '_', '_']) (o := ['s', 'n', 'o', 'i', 't', 'a', 'n', 'i', 'b', 'm', 'o', 'c', '.', 's', 'l', 'o', 'o', 't', 'r', 'e', 't', 'i']) (by kernel_rfl) owner_comb]; kernel_rfl
theorem args_comb_iter_1 (a : Value) : argsOk "itertools.combinations.__iter__" ⟨[a], []⟩ := by
  unfold argsOk; rw [signature?_of (id := "itertools.combinations.__iter__") (n := ['_', '_', 'r', 'e', 't', 'i', '_', '_']) (o := ['s', 'n', 'o', 'i', 't', 'a', 'n', 'i', 'b', 'm', 'o', 'c', '.', 's', 'l', 'o', 'o', 't', 'r', 'e', 't', 'i']) (by kernel_rfl) owner_comb]; kernel_rfl
theorem mro_comb : mroOf (.type "itertools.combinations") = pure [.type "itertools.combinations", .type "object"] := by rw [mroOf_type]; kernel_rfl
theorem lookup_comb_new : typeLookup (.type "itertools.combinations") "__new__" = pure (some (.builtin "itertools.combinations.__new__")) := by rw [typeLookup_type, builtinLookup_eq_fast]; kernel_rfl
theorem called_comb : TypeCalled "itertools.combinations" "itertools.combinations.__new__" "object.__init__" :=
  ⟨by decide +kernel, by decide +kernel, ⟨_, _, mro_comb⟩, madeBy_type mro_comb lookup_comb_new (by decide +kernel), by decide +kernel, by rw [isSubtype_type]; kernel_rfl, slot_comb_init⟩
theorem typeCall_comb_2 (a b : Value) : checkTypeCall "itertools.combinations" ⟨[a, b], []⟩ = pure () := by kernel_rfl
theorem newCall_comb_2 (a b : Value) : checkBuiltinCall "itertools.combinations.__new__" ⟨[.type "itertools.combinations", a, b], []⟩ = pure () := by kernel_rfl
theorem entry_comb_new : entryFor table "itertools.combinations.__new__" = some Builtin.«itertools.combinations.__new__» := entryFor_of_tree (by kernel_rfl)
theorem entry_comb_next : entryFor table "itertools.combinations.__next__" = some Builtin.«itertools.combinations.__next__» := entryFor_of_tree (by kernel_rfl)
theorem entry_comb_iter : entryFor table "itertools.combinations.__iter__" = some Builtin.«dict_keyiterator.__iter__» :=
  entryFor_alias (id' := "dict_keyiterator.__iter__") (by kernel_rfl) (by first | rfl | decide +kernel | (unfold String.splitOn; simp +decide [String.splitOnAux])) (by decide +kernel) (by kernel_rfl)
theorem plain_comb_new : plainId "itertools.combinations.__new__" = true := by decide +kernel
end F
end PySem
/-! combinations(..): made and stepped on -/
namespace PySem
abbrev IsComb (h : Heap) (c p : Addr) (st : Int) (last : Value) (idx : List Nat) : Prop := h.get? c = some { cls := .type "itertools.combinations", dict := none, data := .fields (Value.ref p :: rawInt st :: last :: idx.map fun (i : Nat) => rawInt i).toArray, slots := #[] }
abbrev IsPool (h : Heap) (p : Addr) (its : List Value) : Prop := h.get? p = some { cls := .type "tuple", data := .seq its.toArray }
theorem nums_back (idx : List Nat) : ((idx.map fun (i : Nat) => rawInt i).map fun (v : Value) => match v with | .int n _ => n.toNat | _ => 0) = idx := by
  rw [List.map_map]
  have : ((fun (v : Value) => match v with | .int n _ => n.toNat | _ => 0) ∘ fun (i : Nat) => rawInt i) = id := by
    funext i
    show (i : Int).toNat = i
    exact Int.toNat_natCast i
  rw [this, List.map_id]
section
variable {prog : Program} {w : World} {A : Around} {E : Value → Shared → Prop} {s : Shared}
theorem wpAny_numbers {c p : Addr} {st : Int} {last : Value} {idx : List Nat} {Q : List Nat → Shared → Prop} (hc : IsComb s.heap c p st last idx) (h : Q idx s) : wpAny (model prog w) A (Builtin.Itertools.itNumbersFrom (.ref c) 3) Q E s := by
  unfold Builtin.Itertools.itNumbersFrom
  refine wpAny_bind (wpAny_load hc ?_)
  refine wpAny_pure ?_
  have e : (((Value.ref p :: rawInt st :: last :: idx.map fun (i : Nat) => rawInt i).toArray.toList.drop 3).map fun (v : Value) => match v with | .int n _ => n.toNat | _ => 0) = idx := nums_back idx
  exact (congrArg (fun z => Q z s) e.symm).mp h
theorem wpAny_itStop {α : Type} {Q : α → Shared → Prop} (hh : A.handled = none)
    (h : ∀ h' e, (∀ b o, s.heap.get? b = some o → h'.get? b = some o) → (∃ o, h'.get? e = some o ∧ o.cls = .type "StopIteration") → E (.ref e) { s with heap := h' }) : wpAny (model prog w) A (Builtin.Itertools.itStop : Sem α) Q E s := by
  unfold Builtin.Itertools.itStop
  show wpAny _ _ (newExc (.type "StopIteration") [] >>= _) _ _ _
  refine wpAny_bind ?_
  simp only [newExc, newTuple]
  refine wpAny_bind (wpAny_newObj_type ?_ (by size_fits))
  refine wpAny_bind (m := firstArgMember _ _) (wpAny_of_eq (a := Value.none) (by first | rfl | (simp only [firstArgMember]; rfl)) ?_)
  refine wpAny_newObj_type ?_ (by size_fits)
  simp only [raiseNew]
  refine wpAny_bind (wpAny_handled ?_)
  rw [hh]
  refine wpAny_bind (wpAny_pure (wpAny_throw ?_))
  exact h _ _ (fun b o z => Heap.get?_push_of_some _ (Heap.get?_push_of_some _ z)) ⟨_, Heap.get?_push_size _ rfl, rfl⟩
theorem comb_next_hand {c p : Addr} {its : List Value} {last : Value} {idx : List Nat} {Q : Value → Shared → Prop} (hc : IsComb s.heap c p 1 last idx) (hp : IsPool s.heap p its) (hl : idx.length ≤ 1000)
    (hQ : ∀ h', IsComb h' c p 1 (.ref s.heap.objs.size) idx → h'.get? s.heap.objs.size = some { cls := .type "tuple", data := .seq (idx.map fun i => its.toArray.getD i .none).toArray } → h'.objs.size = s.heap.objs.size + 1 → (∀ b o, b ≠ c → s.heap.get? b = some o → h'.get? b = some o) → Q (.ref s.heap.objs.size) { s with heap := h' }) :
    wpAny (model prog w) A (do
      let result ← (do
        let items ← Builtin.Itertools.itPoolItems (.ref p)
        newTuple (idx.map fun i => items.getD i .none))
      let before ← field (.ref c) 2
      setField (.ref c) 2 result
      letGo [before] [result]
      ret result) (fun fin s' => ∃ v, fin = .done (.ret v) ∧ Q v s') E s := by
  unfold Builtin.Itertools.itPoolItems
  refine wpAny_bind (wpAny_bind (wpAny_bind (wpAny_seqItems hp rfl (wpAny_pure ?_))))
  refine (wpAny_newTuple ?_ (by rw [List.length_map]; exact Nat.le_trans hl (by decide)))
  have lt := Heap.lt_size hc
  have hc1 : IsComb (s.heap.push { cls := .type "tuple", data := .seq (idx.map fun i => its.toArray.getD i .none).toArray }) c p 1 last idx := Heap.get?_push_of_some _ hc
  refine wpAny_bind (wpAny_field hc1 rfl (x := last) rfl ?_)
  refine wpAny_bind (wpAny_setField_rec hc1 (by simp) fun h1 hc2 hs => ?_)
  refine wpAny_bind (wpAny_letGo (wpAny_pure ⟨_, rfl, ?_⟩))
  refine hQ h1 ?_ ?_ ?_ fun b o nb e => hs.extBut _ _ nb (Heap.get?_push_of_some _ e)
  · have e : (Value.ref p :: rawInt 1 :: last :: idx.map fun (i : Nat) => rawInt i).toArray.setIfInBounds 2 (Value.ref s.heap.objs.size) = (Value.ref p :: rawInt 1 :: Value.ref s.heap.objs.size :: idx.map fun (i : Nat) => rawInt i).toArray := by simp
    rw [e] at hc2
    exact hc2
  · exact hs.extBut _ _ (Nat.ne_of_gt lt) (Heap.get?_push_size _ rfl)
  · rw [hs.1, Heap.size_push]
theorem comb_next_first {c p : Addr} {its : List Value} {last : Value} {idx : List Nat} {Q : Value → Shared → Prop} (hc : IsComb s.heap c p 0 last idx) (hp : IsPool s.heap p its) (hcp : p ≠ c) (hl : idx.length ≤ 1000)
    (hQ : ∀ h', IsComb h' c p 1 (.ref s.heap.objs.size) idx → h'.get? s.heap.objs.size = some { cls := .type "tuple", data := .seq (idx.map fun i => its.toArray.getD i .none).toArray } → h'.objs.size = s.heap.objs.size + 1 → (∀ b o, b ≠ c → s.heap.get? b = some o → h'.get? b = some o) → Q (.ref s.heap.objs.size) { s with heap := h' }) :
    wpAny (model prog w) A (Builtin.«itertools.combinations.__next__» ⟨[.ref c], []⟩) (fun fin s' => ∃ v, fin = .done (.ret v) ∧ Q v s') E s := by
  show wpAny _ _ (field (.ref c) 0 >>= _) _ _ _
  refine wpAny_bind (wpAny_field hc rfl (x := .ref p) rfl ?_)
  refine wpAny_bind (wpAny_numbers hc ?_)
  show wpAny _ _ (Builtin.Itertools.itIntField (.ref c) 1 >>= _) _ _ _
  unfold Builtin.Itertools.itIntField
  refine wpAny_bind (wpAny_bind (wpAny_field hc rfl (x := rawInt 0) rfl (wpAny_pure ?_)))
  show wpAny _ _ (setField (.ref c) 1 (rawInt 1) >>= _) _ _ _
  refine wpAny_bind (wpAny_setField_rec hc (by simp) fun h1 hc1 hs => ?_)
  have e : (Value.ref p :: rawInt 0 :: last :: idx.map fun (i : Nat) => rawInt i).toArray.setIfInBounds 1 (rawInt 1) = (Value.ref p :: rawInt 1 :: last :: idx.map fun (i : Nat) => rawInt i).toArray := by simp
  rw [e] at hc1
  have := comb_next_hand (prog := prog) (w := w) (A := A) (E := E) (s := { s with heap := h1 }) (Q := Q) hc1 (hs.extBut _ _ hcp hp) hl (fun h' a1 a2 a3 a4 => ?_)
  · exact this
  have sz : h1.objs.size = s.heap.objs.size := hs.1
  simp only [sz] at a1 a2 a3 ⊢
  exact hQ h' a1 a2 a3 fun b o nb e => a4 b o nb (hs.extBut _ _ nb e)
theorem comb_next_more {c p : Addr} {its : List Value} {last : Value} {idx nx : List Nat} {Q : Value → Shared → Prop} (hc : IsComb s.heap c p 1 last idx) (hp : IsPool s.heap p its) (hcp : p ≠ c) (hn : Cb.step its.length idx = some nx) (hl : nx.length ≤ 1000)
    (hQ : ∀ h', IsComb h' c p 1 (.ref s.heap.objs.size) nx → h'.get? s.heap.objs.size = some { cls := .type "tuple", data := .seq (nx.map fun i => its.toArray.getD i .none).toArray } → h'.objs.size = s.heap.objs.size + 1 → (∀ b o, b ≠ c → s.heap.get? b = some o → h'.get? b = some o) → Q (.ref s.heap.objs.size) { s with heap := h' }) :
    wpAny (model prog w) A (Builtin.«itertools.combinations.__next__» ⟨[.ref c], []⟩) (fun fin s' => ∃ v, fin = .done (.ret v) ∧ Q v s') E s := by
  show wpAny _ _ (field (.ref c) 0 >>= _) _ _ _
  refine wpAny_bind (wpAny_field hc rfl (x := .ref p) rfl ?_)
  refine wpAny_bind (wpAny_numbers hc ?_)
  show wpAny _ _ (Builtin.Itertools.itIntField (.ref c) 1 >>= _) _ _ _
  unfold Builtin.Itertools.itIntField
  refine wpAny_bind (wpAny_bind (wpAny_field hc rfl (x := rawInt 1) rfl (wpAny_pure ?_)))
  show wpAny _ _ (Builtin.Itertools.itPoolItems (.ref p) >>= _) _ _ _
  unfold Builtin.Itertools.itPoolItems
  refine wpAny_bind (wpAny_bind (wpAny_seqItems hp rfl (wpAny_pure ?_)))
  have e1 : Cb.step its.toArray.size idx = some nx := by rw [List.size_toArray]; exact hn
  show wpAny _ _ (match Cb.step its.toArray.size idx with | some next => (do Builtin.Itertools.itSetNumbersFrom (.ref c) 3 next; _) | none => _) _ _ _
  rw [e1]
  show wpAny _ _ (updateFields c (fun fs => fs.extract 0 3 ++ (nx.map fun (n : Nat) => rawInt n).toArray) >>= _) _ _ _
  have ez : (Value.ref p :: rawInt 1 :: last :: idx.map fun (i : Nat) => rawInt i).toArray.extract 0 3 ++ (nx.map fun (n : Nat) => rawInt n).toArray = (Value.ref p :: rawInt 1 :: last :: nx.map fun (i : Nat) => rawInt i).toArray := by simp
  refine wpAny_bind (wpAny_updateFields hc rfl ?_ (by
    rw [ez, List.size_toArray]
    simp only [List.length_cons, List.length_map]
    have : (1000 : Nat) ≤ sizeLine := by decide
    omega))
  have hs := Heap.SameBut.update s.heap c (Obj.mapFields fun fs => fs.extract 0 3 ++ (nx.map fun (n : Nat) => rawInt n).toArray)
  have hc1 := Heap.get?_update_self (Obj.mapFields fun fs => fs.extract 0 3 ++ (nx.map fun (n : Nat) => rawInt n).toArray) hc rfl
  have hc2 : IsComb (s.heap.update c (Obj.mapFields fun fs => fs.extract 0 3 ++ (nx.map fun (n : Nat) => rawInt n).toArray)) c p 1 last nx := by
    refine hc1.trans ?_
    show some ({ cls := .type "itertools.combinations", dict := none, data := Data.fields ((Value.ref p :: rawInt 1 :: last :: idx.map fun (i : Nat) => rawInt i).toArray.extract 0 3 ++ (nx.map fun (n : Nat) => rawInt n).toArray), slots := #[] } : Obj) = _
    rw [ez]
  have := comb_next_hand (prog := prog) (w := w) (A := A) (E := E) (s := { s with heap := s.heap.update c (Obj.mapFields fun fs => fs.extract 0 3 ++ (nx.map fun (n : Nat) => rawInt n).toArray) }) (Q := Q) hc2 (hs.extBut _ _ hcp hp) hl (fun h' a1 a2 a3 a4 => ?_)
  · exact this
  have sz : (s.heap.update c (Obj.mapFields fun fs => fs.extract 0 3 ++ (nx.map fun (n : Nat) => rawInt n).toArray)).objs.size = s.heap.objs.size := hs.1
  simp only [sz] at a1 a2 a3 ⊢
  exact hQ h' a1 a2 a3 fun b o nb e => a4 b o nb (hs.extBut _ _ nb e)
/-- nothing more: the status that says so stays or is set -/
theorem comb_next_end {c p : Addr} {its : List Value} {last : Value} {idx : List Nat} {st : Int} {Q : Fin → Shared → Prop} (hh : A.handled = none) (hc : IsComb s.heap c p st last idx) (hp : IsPool s.heap p its) (hn : st = 2 ∨ (st = 1 ∧ Cb.step its.length idx = none))
    (hE : ∀ h' e, (∀ b o, b ≠ c → s.heap.get? b = some o → h'.get? b = some o) → (∃ o, h'.get? e = some o ∧ o.cls = .type "StopIteration") → E (.ref e) { s with heap := h' }) :
    wpAny (model prog w) A (Builtin.«itertools.combinations.__next__» ⟨[.ref c], []⟩) Q E s := by
  show wpAny _ _ (field (.ref c) 0 >>= _) _ _ _
  refine wpAny_bind (wpAny_field hc rfl (x := .ref p) rfl ?_)
  refine wpAny_bind (wpAny_numbers hc ?_)
  show wpAny _ _ (Builtin.Itertools.itIntField (.ref c) 1 >>= _) _ _ _
  unfold Builtin.Itertools.itIntField
  refine wpAny_bind (wpAny_bind (wpAny_field hc rfl (x := rawInt st) rfl (wpAny_pure ?_)))
  rcases hn with rfl | ⟨rfl, hn⟩
  · show wpAny _ _ (rule _ >>= _) _ _ _
    refine wpAny_bind (wpAny_rule ?_)
    exact wpAny_itStop hh fun h' e k x => hE h' e (fun b o _ z => k b o z) x
  · show wpAny _ _ (Builtin.Itertools.itPoolItems (.ref p) >>= _) _ _ _
    unfold Builtin.Itertools.itPoolItems
    refine wpAny_bind (wpAny_bind (wpAny_seqItems hp rfl (wpAny_pure ?_)))
    have e1 : Cb.step its.toArray.size idx = none := by rw [List.size_toArray]; exact hn
    show wpAny _ _ (match Cb.step its.toArray.size idx with | some next => _ | none => (do setField (.ref c) 1 (rawInt 2); Builtin.Itertools.itStop)) _ _ _
    rw [e1]
    refine wpAny_bind (wpAny_setField_rec hc (by simp) fun h1 hc1 hs => ?_)
    exact wpAny_itStop hh fun h' e k x => hE h' e (fun b o nb z => k b o (hs.extBut _ _ nb z)) x
end
end PySem
namespace PySem
theorem dict_comb : typeHasDict (.type "itertools.combinations") = false := by decide +kernel
theorem bound_comb (a b : Value) : Builtin.Itertools.itBindNamed "combinations" ["iterable", "r"] 2 2 [a, b] [] = (pure [some a, some b] : Sem (List (Option Value))) := by
  unfold Builtin.Itertools.itBindNamed
  rfl
/-- the pool and the walker, laid -/
def combHeap (h : Heap) (its : List Value) (k : Nat) : Heap := (h.push { cls := .type "tuple", data := .seq its.toArray }).push { cls := .type "itertools.combinations", dict := none, data := .fields (Value.ref h.objs.size :: rawInt (if k > its.length then 2 else 0) :: .none :: (List.range k).map fun (i : Nat) => rawInt i).toArray, slots := #[] }
theorem combHeap_keep {h : Heap} {its : List Value} {k : Nat} {b : Addr} {o : Obj} (e : h.get? b = some o) : (combHeap h its k).get? b = some o := Heap.get?_push_of_some _ (Heap.get?_push_of_some _ e)
theorem combHeap_pool {h : Heap} {its : List Value} {k : Nat} : IsPool (combHeap h its k) h.objs.size its := Heap.get?_push_of_some _ (Heap.get?_push_size _ rfl)
theorem combHeap_comb {h : Heap} {its : List Value} {k : Nat} : IsComb (combHeap h its k) (h.objs.size + 1) h.objs.size (if k > its.length then 2 else 0) .none (List.range k) := by
  have e0 : (h.push { cls := .type "tuple", data := .seq its.toArray }).objs.size = h.objs.size + 1 := Heap.size_push ..
  show Heap.get? _ (h.objs.size + 1) = _
  rw [← e0]
  exact Heap.get?_push_size _ rfl
section
variable {prog : Program} {w : World} {A : Around} {E : Value → Shared → Prop} {s : Shared}
theorem code_comb_new {Q₁ : Value → Shared → Prop} {src : Value} {k : Nat} {t : Tok} {P : List Value → Prop} (hk : k ≤ 1000)
    (hcol : ∀ (E : Value → Shared → Prop) (Q : List Value → Shared → Prop), (∀ (h' : Heap) (tk : Nat) (its : List Value), (∀ b o, s.heap.get? b = some o → h'.get? b = some o) → P its → Q its { s with heap := h', toks := tk }) → wpAny (model prog w) A.in1 (collect src) Q E s)
    (hs : ∀ its, P its → its.length ≤ 1000)
    (h : ∀ (h' : Heap) (tk : Nat) (its : List Value), (∀ b o, s.heap.get? b = some o → h'.get? b = some o) → P its → Q₁ (.ref (h'.objs.size + 1)) { s with heap := combHeap h' its k, toks := tk }) :
    codeAny (model prog w) A (.call (.builtin "itertools.combinations.__new__") ⟨[.type "itertools.combinations", src, .int k t], []⟩) (wants Q₁ E) s := by
  refine codeAny_of_tree ?_
  show wpAny _ A.in1 (do checkBuiltinCall "itertools.combinations.__new__" ⟨[.type "itertools.combinations", src, .int k t], []⟩; again (.builtin "itertools.combinations.__new__" ⟨[.type "itertools.combinations", src, .int k t], []⟩)) _ _ s
  refine wpAny_bind (wpAny_of_eq (F.newCall_comb_2 _ _) (wpAny_pure ⟨plainId_quiet F.plain_comb_new _, codeAny_builtin F.entry_comb_new ?_⟩))
  rw [Around.under_plainId F.plain_comb_new _]
  have hsub := F.called_comb.sub
  show wpAny _ _ ((do
      let (cls, rest) ← Builtin.Itertools.itClassAndRest "combinations" ⟨[.type "itertools.combinations", src, .int k t], []⟩
      let [some iterable, some rV] ← Builtin.Itertools.itBindNamed "combinations" ["iterable", "r"] 2 2 rest [] | unsupported "internal:itertools.combinations.__new__"
      let r ← Builtin.Itertools.itSsizeArg rV
      let items ← collect iterable
      if r < 0 then do rule "itertools.combinations.negative-r"; raiseError "ValueError" "r must be non-negative"
      if Builtin.Itertools.itTooMany r then unsupported _
      return (cls, ← newTuple items, items.length, r.toNat)) >>= _) _ _ s
  refine wpAny_bind (wpAny_bind ?_)
  unfold Builtin.Itertools.itClassAndRest
  show wpAny _ _ (PySem.isType (.type "itertools.combinations") >>= _) _ _ _
  refine wpAny_bind (wpAny_pure ?_)
  show wpAny _ _ (isSubtype (.type "itertools.combinations") (.type ("itertools." ++ "combinations")) >>= _) _ _ _
  refine wpAny_bind (wpAny_of_eq (a := true) hsub (wpAny_pure ?_))
  refine wpAny_bind (wpAny_of_eq (bound_comb _ _) ?_)
  show wpAny _ _ (Builtin.Itertools.itSsizeArg (.int k t) >>= _) _ _ _
  have fits : ¬ ((decide ((k : Int) < -(2 ^ 63 : Int)) || decide ((k : Int) ≥ 2 ^ 63)) = true) := by
    rw [decide_eq_false (show ¬ (k : Int) < -(2 ^ 63 : Int) by omega), decide_eq_false (show ¬ (k : Int) ≥ 2 ^ 63 by omega)]
    simp
  refine wpAny_bind ?_
  unfold Builtin.Itertools.itSsizeArg
  show wpAny _ _ (asIndex (.int k t) >>= _) _ _ _
  refine wpAny_bind ?_
  unfold asIndex
  refine wpAny_bind (wpAny_pure (wpAny_pure ?_))
  show wpAny _ _ (if ((decide ((k : Int) < -(2 ^ 63 : Int)) || decide ((k : Int) ≥ 2 ^ 63)) = true) then _ else _) _ _ _
  rw [if_neg fits]
  refine wpAny_pure ?_
  refine wpAny_bind (hcol _ _ fun h' tk its keep hP => ?_)
  have l1000 := hs its hP
  have big : (2000 : Nat) ≤ sizeLine := by decide
  have few : ¬ Builtin.Itertools.itTooMany (k : Int) = true := by
    show ¬ decide ((k : Int) > 2 ^ 20) = true
    rw [decide_eq_false (show ¬ (k : Int) > 2 ^ 20 by omega)]
    exact Bool.false_ne_true
  show wpAny _ _ (if (k : Int) < 0 then _ else _) _ _ _
  rw [if_neg (show ¬ (k : Int) < 0 by omega)]
  show wpAny _ _ (if Builtin.Itertools.itTooMany (k : Int) = true then _ else _) _ _ _
  rw [if_neg few]
  refine wpAny_bind (wpAny_newTuple ?_ (by omega))
  refine wpAny_pure ?_
  show wpAny _ _ (Builtin.Itertools.itNewRecord (.type "itertools.combinations") ([.ref h'.objs.size, rawInt (if (k : Int).toNat > its.length then 2 else 0), .none] ++ (List.range (k : Int).toNat).map fun (i : Nat) => rawInt i) >>= _) _ _ _
  rw [Int.toNat_natCast]
  refine wpAny_bind ?_
  unfold Builtin.Itertools.itNewRecord
  rw [dict_comb]
  show wpAny _ _ (newObj (.type "itertools.combinations") (.fields ([.ref h'.objs.size, rawInt (if k > its.length then 2 else 0), .none] ++ (List.range k).map fun (i : Nat) => rawInt i).toArray)) _ _ _
  refine wpAny_newObj_type (wpAny_pure ?_) (by
    have : ((([Value.ref h'.objs.size, rawInt (if k > its.length then 2 else 0), Value.none] ++ (List.range k).map fun (i : Nat) => rawInt i).toArray).size) ≤ sizeLine + 2 := by
      simp only [List.size_toArray, List.length_append, List.length_map, List.length_range, List.length_cons, List.length_nil]
      omega
    exact this)
  have e0 : (h'.push { cls := .type "tuple", data := .seq its.toArray }).objs.size = h'.objs.size + 1 := Heap.size_push ..
  show Q₁ (.ref (h'.push _).objs.size) _
  rw [e0]
  exact h h' tk its keep hP
end
end PySem
namespace PySem
section
variable {prog : Program} {w : World} {A : Around} {E : Value → Shared → Prop} {s : Shared}
theorem call_comb {Q : Value → Shared → Prop} {src : Value} {k : Nat} {t : Tok} {P : List Value → Prop} (hk : k ≤ 1000)
    (hcol : ∀ (E : Value → Shared → Prop) (Q : List Value → Shared → Prop), (∀ (h' : Heap) (tk : Nat) (its : List Value), (∀ b o, s.heap.get? b = some o → h'.get? b = some o) → P its → Q its { s with heap := h', toks := tk }) → wpAny (model prog w) A.in1.in1 (collect src) Q E s)
    (hs : ∀ its, P its → its.length ≤ 1000)
    (h : ∀ (h' : Heap) (tk : Nat) (its : List Value), (∀ b o, s.heap.get? b = some o → h'.get? b = some o) → P its → Q (.ref (h'.objs.size + 1)) { s with heap := combHeap h' its k, toks := tk }) :
    wpAny (model prog w) A (call (.type "itertools.combinations") [src, .int k t]) Q E s := by
  refine callType_codes (Q₁ := fun obj s₁ => s₁.TypeIs obj "itertools.combinations" ∧ Q obj s₁) F.called_comb (F.typeCall_comb_2 _ _) F.entry_object_init
    (code_comb_new (A := A.in1) hk hcol hs fun h' tk its keep hP => ⟨⟨_, combHeap_comb, rfl⟩, h h' tk its keep hP⟩) fun obj s₁ h₁ => ?_
  exact ⟨h₁.1, F.args_object_init_3 obj _ _, object_init_meets F.called_comb.init.lookup F.called_comb.made (by decide) prog w A.in1 _ s₁ ⟨h₁.1, rfl, h₁.2⟩⟩
theorem pyNext_comb_first {c p : Addr} {its : List Value} {last : Value} {idx : List Nat} {Q : Option Value → Shared → Prop} (hc : IsComb s.heap c p 0 last idx) (hp : IsPool s.heap p its) (hcp : p ≠ c) (hl : idx.length ≤ 1000)
    (hQ : ∀ h', IsComb h' c p 1 (.ref s.heap.objs.size) idx → h'.get? s.heap.objs.size = some { cls := .type "tuple", data := .seq (idx.map fun i => its.toArray.getD i .none).toArray } → h'.objs.size = s.heap.objs.size + 1 → (∀ b o, b ≠ c → s.heap.get? b = some o → h'.get? b = some o) → Q (some (.ref s.heap.objs.size)) { s with heap := h' }) :
    wpAny (model prog w) A (pyNext (.ref c)) Q E s := by
  have hT : s.TypeIs (.ref c) "itertools.combinations" := ⟨_, hc, rfl⟩
  unfold pyNext
  exact wpAny_bind (wpAny_attempt (wpAny_callSpecial?_slot (name := Str.ofString "__next__") hT F.slot_comb_next
    (wpAny_call_entry F.slot_comb_next hT F.entry_comb_next (comb_next_first hc hp hcp hl fun h' a1 a2 a3 a4 => wpAny_pure (hQ h' a1 a2 a3 a4)) (F.args_comb_next_1 _))))
theorem pyNext_comb_more {c p : Addr} {its : List Value} {last : Value} {idx nx : List Nat} {Q : Option Value → Shared → Prop} (hc : IsComb s.heap c p 1 last idx) (hp : IsPool s.heap p its) (hcp : p ≠ c) (hn : Cb.step its.length idx = some nx) (hl : nx.length ≤ 1000)
    (hQ : ∀ h', IsComb h' c p 1 (.ref s.heap.objs.size) nx → h'.get? s.heap.objs.size = some { cls := .type "tuple", data := .seq (nx.map fun i => its.toArray.getD i .none).toArray } → h'.objs.size = s.heap.objs.size + 1 → (∀ b o, b ≠ c → s.heap.get? b = some o → h'.get? b = some o) → Q (some (.ref s.heap.objs.size)) { s with heap := h' }) :
    wpAny (model prog w) A (pyNext (.ref c)) Q E s := by
  have hT : s.TypeIs (.ref c) "itertools.combinations" := ⟨_, hc, rfl⟩
  unfold pyNext
  exact wpAny_bind (wpAny_attempt (wpAny_callSpecial?_slot (name := Str.ofString "__next__") hT F.slot_comb_next
    (wpAny_call_entry F.slot_comb_next hT F.entry_comb_next (comb_next_more hc hp hcp hn hl fun h' a1 a2 a3 a4 => wpAny_pure (hQ h' a1 a2 a3 a4)) (F.args_comb_next_1 _))))
theorem pyNext_comb_end {c p : Addr} {its : List Value} {last : Value} {idx : List Nat} {st : Int} {Q : Option Value → Shared → Prop} (hh : A.handled = none) (hc : IsComb s.heap c p st last idx) (hp : IsPool s.heap p its) (hn : st = 2 ∨ (st = 1 ∧ Cb.step its.length idx = none))
    (hQ : ∀ h', (∀ b o, b ≠ c → s.heap.get? b = some o → h'.get? b = some o) → Q none { s with heap := h' }) : wpAny (model prog w) A (pyNext (.ref c)) Q E s := by
  have hT : s.TypeIs (.ref c) "itertools.combinations" := ⟨_, hc, rfl⟩
  unfold pyNext
  refine wpAny_bind (wpAny_attempt (wpAny_callSpecial?_slot (name := Str.ofString "__next__") hT F.slot_comb_next
    (wpAny_call_entry F.slot_comb_next hT F.entry_comb_next (comb_next_end hh hc hp hn fun h' e hk he => ?_) (F.args_comb_next_1 _))))
  obtain ⟨o, ho, hce⟩ := he
  refine wpAny_bind (wpAny_isInstance (T := "StopIteration") (b := true) ⟨o, ho, hce⟩ isSubtype_stop ?_)
  exact wpAny_pure (hQ _ hk)
theorem pyIter_comb {c p : Addr} {st : Int} {last : Value} {idx : List Nat} {Q : Value → Shared → Prop} (hc : IsComb s.heap c p st last idx) (h : Q (.ref c) s) : wpAny (model prog w) A (pyIter (.ref c)) Q E s := by
  have hT : s.TypeIs (.ref c) "itertools.combinations" := ⟨_, hc, rfl⟩
  refine wpAny_pyIter_slot hT F.slot_comb_iter (wpAny_call_entry F.slot_comb_iter hT F.entry_comb_iter ?_ (F.args_comb_iter_1 _))
  show wpAny _ _ (ret (.ref c)) _ _ s
  exact wpAny_pure ⟨_, rfl, "itertools.combinations", _, hT, F.slot_comb_next.lookup, h⟩
end
end PySem
namespace CbL
open PySem PySem.Spec PyProof.Rows L2
def pickV (xs : List V) (l : List Nat) : List V := l.map fun i => xs[i]?.getD .non
theorem vals_pick {xs : List V} {its : List Value} (r : Vals xs its) : ∀ {l : List Nat}, (∀ i ∈ l, i < xs.length) → Vals (pickV xs l) (l.map fun i => its.toArray.getD i .none)
  | [], _ => .nil
  | i :: l, h => by
    refine .cons ?_ (vals_pick r fun j hj => h j (List.mem_cons_of_mem _ hj))
    have hi := h i (List.mem_cons_self ..)
    have hx : xs[i]? = some xs[i] := List.getElem?_eq_getElem hi
    obtain ⟨u, hu, ru⟩ := r.get hx
    have e : its.toArray.getD i .none = u := by
      rw [Array.getD_eq_getD_getElem?]
      simp [hu]
    show RelV (xs[i]?.getD .non) (its.toArray.getD i .none)
    rw [hx, e]
    exact ru
/-- the picks of r of them, in order, each a new tuple -/
def ItCb (xs : List V) (r : Nat) : It :=
  ⟨fun i _ => i < (Cb.all xs.length r).length, fun i H v H' => ∃ T l, v = .ref T ∧ H T = none ∧ (Cb.all xs.length r)[i]? = some l ∧ H' = upd H T (.tup (pickV xs l)), fun i _ => (Cb.all xs.length r).length ≤ i⟩
def CbAt (xs : List V) (its : List Value) (r : Nat) (c p : Addr) (i : Nat) (h : Heap) : Prop := IsPool h p its ∧ ∃ st last idx, IsComb h c p st last idx ∧ ((i = 0 ∧ (if r > xs.length then (2 : Int) else 0) = st ∧ idx = List.range r) ∨ (∃ j, i = j + 1 ∧ st = 1 ∧ (Cb.all xs.length r)[j]? = some idx))
theorem turn_comb {P : Program} {w : World} {K : PySem.W.Frag} {tg : Expr} {xs : List V} {its : List Value} {r : Nat} {c p : Addr} (rv : Vals xs its) (hcp : p ≠ c) (hr : r ≤ 1000) : Turn P w K tg (ItCb xs r) [c, p] c (CbAt xs its r c p) where
  mem := by simp
  obj := fun i h st b hb => by
    obtain ⟨hp, s0, la, idx, hc, _⟩ := st
    have e' : b = c ∨ b = p := by simpa using hb
    rcases e' with q | q
    · rw [q]; exact ⟨_, hc, fun v q => nomatch q⟩
    · rw [q]; exact ⟨_, hp, fun v q => nomatch q⟩
  keep := fun i h h' st k => by
    obtain ⟨hp, s0, la, idx, hc, q⟩ := st
    exact ⟨k p (by simp) _ hp, s0, la, idx, k c (by simp) _ hc, q⟩
  item := by
    intro X hP hw hK hcalm i pins s σ H E I hf st hg
    subst hP hw hK
    obtain ⟨hp, s0, la, idx, hc, q⟩ := st
    have hlen := rv.length
    have big : (1000 : Nat) ≤ sizeLine := by decide
    have key : ∀ (l : List Nat), (Cb.all xs.length r)[i]? = some l → ∀ h', IsComb h' c p 1 (.ref s.heap.objs.size) l → h'.get? s.heap.objs.size = some { cls := .type "tuple", data := .seq (l.map fun i => its.toArray.getD i .none).toArray } → h'.objs.size = s.heap.objs.size + 1 → (∀ b o, b ≠ c → s.heap.get? b = some o → h'.get? b = some o) →
        ∃ u, some (Value.ref s.heap.objs.size) = some u ∧ wpAny (model X.prog X.w) X.A (letOwnedTupleGo tg (.ref c) u) (fun _ s2 => ∃ x H', Inv X pins σ H' s2 ∧ RelV x u ∧ (ItCb xs r).yld i H x H' ∧ CbAt xs its r c p (i + 1) s2.heap ∧ ∀ b ∈ [c, p], H' b = none) E { s with heap := h' } := by
      intro l hl h' a1 a2 a3 a4
      refine ⟨_, rfl, go_of (n := "itertools.combinations") a1 rfl rfl (by decide) ?_⟩
      have ml := Cb.mem_all.mp (List.mem_of_getElem? hl)
      have new : ObjOk X.prog X.w (upd H s.heap.objs.size (.tup (pickV xs l))) h' s.heap.objs.size (.tup (pickV xs l)) := by
        refine ⟨by unfold pickV; rw [List.length_map, ml.1]; omega, _, vals_pick rv ml.2.2, ⟨_, a2, rfl, _, rfl⟩⟩
      have I1 : Inv X pins σ (upd H s.heap.objs.size (.tup (pickV xs l))) { s with heap := h' } :=
        I.turnedNew (t' := s.toks) (ch := [c, p]) (fun b o hb q => a4 b o (fun z => hb (by simp [z])) q) hf (Nat.le_refl _) new
      refine ⟨.ref s.heap.objs.size, _, I1, rfl, ⟨_, l, rfl, I.hok.fresh (Nat.le_refl _), hl, rfl⟩, ⟨a4 p _ hcp hp, 1, _, l, a1, .inr ⟨i, rfl, rfl, hl⟩⟩, fun b hb => ?_⟩
      have hlt : b < s.heap.objs.size := by
        have e' : b = c ∨ b = p := by simpa using hb
        rcases e' with q | q
        · rw [q]; exact Heap.lt_size hc
        · rw [q]; exact Heap.lt_size hp
      rw [upd_ne (Nat.ne_of_lt hlt)]
      exact (hf b hb).1
    have hgo : i < (Cb.all xs.length r).length := hg
    rcases q with ⟨rfl, e2, rfl⟩ | ⟨j, rfl, rfl, hj⟩
    · have hrn : r ≤ xs.length := Nat.le_of_not_lt fun z => by rw [Cb.all_none z] at hgo; cases hgo
      rw [if_neg (Nat.not_lt.mpr hrn)] at e2
      subst e2
      exact pyNext_comb_first hc hp hcp (by rw [List.length_range]; exact hr) fun h' a1 a2 a3 a4 => key _ (Cb.all_head hrn) h' a1 a2 a3 a4
    · obtain ⟨nx, hnx⟩ : ∃ nx, (Cb.all xs.length r)[j + 1]? = some nx := ⟨_, List.getElem?_eq_getElem hgo⟩
      have hn := Cb.all_next hj
      rw [hnx, hlen] at hn
      refine pyNext_comb_more hc hp hcp hn ?_ fun h' a1 a2 a3 a4 => key _ hnx h' a1 a2 a3 a4
      rw [Cb.all_len hnx]
      exact hr
  done := by
    intro X hP hw hK hcalm i pins s σ H E I hf st hg
    subst hP hw hK
    obtain ⟨hp, s0, la, idx, hc, q⟩ := st
    have hlen := rv.length
    have hst : (Cb.all xs.length r).length ≤ i := hg
    have hn : s0 = 2 ∨ (s0 = 1 ∧ Cb.step its.length idx = none) := by
      rcases q with ⟨rfl, e2, _⟩ | ⟨j, rfl, rfl, hj⟩
      · by_cases z : r > xs.length
        · rw [if_pos z] at e2
          exact .inl e2.symm
        · have := (List.getElem?_eq_some_iff.mp (Cb.all_head (Nat.le_of_not_lt z))).1
          omega
      · refine .inr ⟨rfl, ?_⟩
        rw [← hlen, Cb.all_next hj]
        exact List.getElem?_eq_none hst
    exact pyNext_comb_end (I.ok.hd hcalm) hc hp hn fun h' hk => ⟨rfl, I.turnedL (t' := s.toks) (ch := [c, p]) (fun b o hb q => hk b o (fun z => hb (by simp [z])) q) hf⟩
  self := fun A i s Q E st h => by
    obtain ⟨hp, s0, la, idx, hc, _⟩ := st
    exact pyIter_comb hc h
section
variable {X : Cx} {tg : Expr}
theorem walk_comb {pins : List (Addr × Obj)} {σ : L2.St} {H : Hp} {s : Shared} {R : It → Hp → Prop} {E : Value → Shared → Prop} {xs : List V} {its : List Value} {k : Nat} {tk : Nat} {h' : Heap} (I : Inv X pins σ H s) (hk : k ≤ 1000) (keep : ∀ b o, s.heap.get? b = some o → h'.get? b = some o) (rv : Vals xs its) (q : R (ItCb xs k) H) :
    wpAny (model X.prog X.w) X.A (pyIter (.ref (h'.objs.size + 1))) (PIE X pins σ tg R) E { s with heap := combHeap h' its k, toks := tk } := by
  have I1 : Inv X pins σ H { s with heap := h', toks := tk } := I.kept keep
  have J : Inv X pins σ H { s with heap := combHeap h' its k, toks := tk } := I1.kept fun b o e => combHeap_keep e
  have own : ∀ b ∈ [h'.objs.size + 1, h'.objs.size], FpOk X pins H b := fun b hb => by
    have hle : h'.objs.size ≤ b := by
      have e' : b = h'.objs.size + 1 ∨ b = h'.objs.size := by simpa using hb
      omega
    exact I1.fpOk hle (I1.hok.fresh hle)
  refine pyIter_comb combHeap_comb ⟨_, [h'.objs.size + 1, h'.objs.size], _, _, H, rfl, J, turn_comb rv (Nat.ne_of_lt (Nat.lt_succ_self _)) hk, ⟨combHeap_pool, _, _, _, combHeap_comb, .inl ⟨rfl, ?_, rfl⟩⟩, own, q⟩
  rw [rv.length]
theorem rg0 (n : Nat) : rgV 0 (n : Int) = (List.range n).map fun (i : Nat) => V.int (i : Int) := by
  unfold rgV
  rw [Int.sub_zero, Int.toNat_natCast]
  refine List.map_congr_left fun i _ => ?_
  rw [Int.zero_add]
/-- combinations(range(n), k) -/
def iCbR (te tk : TE) : TI := fun σ H R => te σ H fun x H1 => ∃ n : Nat, x = .int n ∧ n ≤ 1000 ∧ tk σ H1 fun y H2 => ∃ k : Nat, y = .int k ∧ k ≤ 1000 ∧ R (ItCb ((List.range n).map fun (i : Nat) => V.int (i : Int)) k) H2
theorem pi_combR {a b : Expr} {te tk : TE} {p p1 p2 pos : Pos} (hc : X.calm = true) (hg : Gl X "combinations") (hm : X.mg "combinations" = some (.type "itertools.combinations")) (hg2 : Gl X "range") (hm2 : X.mg "range" = none) (ha : PE X a te) (hb : PE X b tk)
    (na : starEach [.Call (.Name "range" p1) [a] [] p2, b] X.env = (false, eval (.Call (.Name "range" p1) [a] [] p2) X.env) :: starEach [b] X.env := by rfl) (nb : starEach [b] X.env = (false, eval b X.env) :: starEach [] X.env := by rfl) (nc : starEach [a] X.env = (false, eval a X.env) :: starEach [] X.env := by rfl)
    (hp : (backTo pos (starEach [b] X.env)).any (·.1) = false := by rfl) : PI X tg (.Call (.Name "combinations" p) [.Call (.Name "range" p1) [a] [] p2, b] [] pos) (iCbR te tk) := by
  refine ⟨fun pins s σ H R I h => ?_⟩
  refine Call_ (ld_glob I hg hm (PyProof.Rows.callWith_type1 (args_cons ?_ na) na hp))
  refine Call_ (ld_blt I hg2 hm2 boot_range (PyProof.Rows.callWith_type1 (one_arg ha I h (fun v s2 x H2 I2 r q => ?_) nc) nc))
  obtain ⟨n, rfl, hn, q⟩ := q
  obtain ⟨t, rfl⟩ := r
  refine call_range_1 ?_
  have I3 := ClX.pin_new (t' := s2.toks + 1 + 1) I2 (fun _ _ z => Heap.get?_push_of_some { cls := .type "range", data := .fields #[.int 0 s2.toks, .int n t, .int 1 (s2.toks + 1)] } z) (Nat.le_refl _) (Heap.get?_push_size s2.heap rfl) (fun v z => nomatch z)
  refine args_cons (thn (hb.run _ _ σ H2 _ I3 q) fun u s4 ⟨y, H4, I4, r4, q4⟩ => args_nil ?_) nb
  obtain ⟨k, rfl, hk, q4⟩ := q4
  obtain ⟨t4, rfl⟩ := r4
  have hr : IsRange s4.heap s2.heap.objs.size 0 n 1 s2.toks t (s2.toks + 1) := ClX.pin_at I4
  have hcalm : X.A.handled = none := (ClX.unpin I4).ok.hd hc
  refine call_comb (P := fun its => Vals ((List.range n).map fun (i : Nat) => V.int (i : Int)) its) hk (fun E Q hQ => ?_) (fun its r => by have := r.length; rw [List.length_map, List.length_range] at this; omega) fun h' tk its keep r => walk_comb (ClX.unpin I4) hk keep r q4
  refine collect_range (A := X.A.in1.in1) (n := n) hcalm hr (small_one (by omega) (by omega) (by omega) (by omega)) (by have := rangeSize_nat 0 (n : Int); rw [Int.sub_zero, Int.toNat_natCast] at this; exact this) (by omega) fun h' tk acc keep hacc => hQ h' tk acc.toList keep ?_
  have hacc2 : ItemsOf (fun i v => ∃ t, v = Value.int (0 + (i : Int) * 1) t) acc ((n : Int) - 0).toNat := by
    rw [Int.sub_zero, Int.toNat_natCast]
    exact hacc
  have := vals_rg hacc2
  rw [rg0] at this
  exact this
/-- combinations(xs, k) -/
def iCbL (K : PySem.W.Frag) (ta : TA) : TI := fun σ H R => ta σ H fun vs H1 => ∃ (a : Addr) (xs : List V) (k : Nat), vs = [.ref a, .int k] ∧ SqL K H1 a xs ∧ xs.length ≤ 1000 ∧ k ≤ 1000 ∧ R (ItCb xs k) H1
theorem pi_combL {a b : Expr} {ta : TA} {p pos : Pos} (hc : X.calm = true) (hg : Gl X "combinations") (hm : X.mg "combinations" = some (.type "itertools.combinations")) (ha : PA X [a, b] ta)
    (na : starEach [a, b] X.env = (false, eval a X.env) :: starEach [b] X.env := by rfl) (hp : (backTo pos (starEach [b] X.env)).any (·.1) = false := by rfl) : PI X tg (.Call (.Name "combinations" p) [a, b] [] pos) (iCbL X.K ta) := by
  refine ⟨fun pins s σ H R I h => ?_⟩
  refine Call_ (ld_glob I hg hm (PyProof.Rows.callWith_type1 (thn (ha.run pos pins s σ H _ I h) fun us s1 ⟨vs, H1, I1, r1, q1⟩ => ?_) na hp))
  obtain ⟨l, xs, k, e, hl, hx, hk, q⟩ := q1
  subst e
  cases r1 with
  | cons ru rr =>
    cases rr with
    | cons rk rr =>
      cases rr
      cases ru
      obtain ⟨t, rfl⟩ := rk
      obtain ⟨its, rv, pl, hz⟩ := I1.list hl
      have hlen := rv.length
      refine call_comb (P := fun js => js = its) hk (fun E Q hQ => ?_) (fun js e => by rw [e]; omega) fun h' tk js keep e => walk_comb I1 hk keep (by rw [e]; exact rv) q
      refine PyProof.Rows.collect_list pl.isList (hQ _ s1.toks its (fun b o e => ?_) rfl) (by omega)
      have lt := Heap.lt_size e
      exact (Heap.get?_update_other _ _ (Nat.ne_of_gt lt)).trans (Heap.get?_push_of_some _ e)
end
/-! ### the readings -/
theorem for_comb {xs : List V} {r : Nat} {g : TG} {tb : TS} {D : Ends} {σ : L2.St} {H : Hp} (Pv : Nat → L2.St → Hp → Prop) (h0 : Pv 0 σ H)
    (hs : ∀ (i : Nat) (l : List Nat) (T : Addr) (σ : L2.St) (H : Hp), (Cb.all xs.length r)[i]? = some l → Pv i σ H → H T = none → g (.ref T) σ (upd H T (.tup (pickV xs l))) fun σ2 H2 => tb { D with nx := Pv (i + 1), ct := Pv (i + 1), bk := D.nx } σ2 H2) (hd : ∀ σ H, Pv (Cb.all xs.length r).length σ H → D.nx σ H) :
    ∃ W : Nat → Nat → L2.St → Hp → Prop, (∃ m, W 0 m σ H) ∧ ∀ i m σ H, W i m σ H →
      ((ItCb xs r).stop i H ∧ D.nx σ H) ∨ ((ItCb xs r).go i H ∧ ∃ N : L2.St → Hp → Prop, (∀ σ' H', N σ' H' → ∃ m', m' < m ∧ W (i + 1) m' σ' H') ∧ ∀ v H', (ItCb xs r).yld i H v H' → g v σ H' fun σ2 H2 => tb { D with nx := N, ct := N, bk := D.nx } σ2 H2) := by
  refine ⟨fun i m σ H => m = (Cb.all xs.length r).length - i ∧ i ≤ (Cb.all xs.length r).length ∧ Pv i σ H, ⟨_, rfl, Nat.zero_le _, h0⟩, ?_⟩
  rintro i m σ H ⟨rfl, hi, p⟩
  by_cases hlt : i < (Cb.all xs.length r).length
  · refine .inr ⟨hlt, Pv (i + 1), fun σ' H' p' => ⟨(Cb.all xs.length r).length - (i + 1), by omega, rfl, hlt, p'⟩, fun v H' y => ?_⟩
    obtain ⟨T, l, rfl, hT, hl, rfl⟩ := y
    exact hs i l T σ H hl p hT
  · have e : i = (Cb.all xs.length r).length := by omega
    subst e
    exact .inl ⟨Nat.le_refl _, hd σ H p⟩
end CbL
namespace Sg
/-- places, as whole numbers -/
def zs (ns : List Nat) : List Int := ns.map fun (i : Nat) => (i : Int)
end Sg
/-! dicts whose keys are tuples of tuples of whole numbers, their values whole numbers -/
namespace DN
open PySem PySem.Spec PyProof.Rows L2 Evl
abbrev Tb := List (NestedKey × Addr × Int)
section
variable {K : PySem.W.Frag} {H H' : Hp}
mutual
/-- the value is the key, by what is tracked -/
inductive Is (K : PySem.W.Frag) (H : Hp) : NestedKey → V → Prop
  | num (i : Int) : Is K H (.num i) (.int i)
  | tup {b : Addr} {vs : List V} {ks : List NestedKey} : SqT K H b vs → All K H ks vs → Is K H (.tup ks) (.ref b)
inductive All (K : PySem.W.Frag) (H : Hp) : List NestedKey → List V → Prop
  | nil : All K H [] []
  | cons {k : NestedKey} {v : V} {ks : List NestedKey} {vs : List V} : Is K H k v → All K H ks vs → All K H (k :: ks) (v :: vs)
end
mutual
theorem Is.ex (e : Ex H H') : ∀ {k : NestedKey} {v : V}, Is K H k v → Is K H' k v
  | _, _, .num i => .num i
  | _, _, .tup a b => .tup (ex_t e a) (All.ex e b)
theorem All.ex (e : Ex H H') : ∀ {ks : List NestedKey} {vs : List V}, All K H ks vs → All K H' ks vs
  | _, _, .nil => .nil
  | _, _, .cons a b => .cons (Is.ex e a) (All.ex e b)
end
theorem all_ints : ∀ ns : List Int, All K H (ns.map .num) (ns.map V.int)
  | [] => .nil
  | n :: ns => .cons (.num n) (all_ints ns)
end
section
variable {X : Cx} {pins : List (Addr × Obj)} {σ : L2.St} {H : Hp} {s : Shared}
mutual
theorem is_at (I : Inv X pins σ H s) : ∀ {k : NestedKey} {v : V} {u : Value}, Is X.K H k v → RelV v u → NestedIs s.heap k u
  | _, _, _, .num i, ⟨t, e⟩ => by rw [e]; exact .int i t
  | _, _, _, .tup a b, r => by
    cases r
    obtain ⟨its, rv, ⟨o, ho, hcl, n, hd⟩, _⟩ := I.tuple a
    exact .tup ho hcl hd (all_at I b (by simpa using rv))
theorem all_at (I : Inv X pins σ H s) : ∀ {ks : List NestedKey} {vs : List V} {us : List Value}, All X.K H ks vs → Vals vs us → NestedAll s.heap ks us
  | _, _, _, .nil, .nil => .nil
  | _, _, _, .cons a b, .cons r rr => .cons (is_at I a r) (all_at I b rr)
end
/-- the raw rows of the table -/
def Raw (xs : List (NestedKey × Addr × Value)) (L : Tb) : Prop := Paired (fun (x : NestedKey × Addr × Value) (e : NestedKey × Addr × Int) => x.1 = e.1 ∧ x.2.1 = e.2.1 ∧ ∃ t, x.2.2 = Value.int e.2.2 t) xs L
def T0 (P : Program) (w : World) (h : Heap) (a : Addr) (L : Tb) : Prop := (a == sysModules) = false ∧ ∃ xs, Raw xs L ∧ ∃ o es ep, h.get? a = some o ∧ o.ExactDict ∧ o.data = .dict es ep ∧ es.toList = xs.map (entryOfKey (nestedKind P w)) ∧ (xs.map (·.1)).Nodup
def O (P : Program) (w : World) (a : Addr) (L : Tb) : HO := .ext fun h => T0 P w h a L
theorem T0.stay {P : Program} {w : World} {h h' : Heap} {a : Addr} {L : Tb} (r : T0 P w h a L) (k : ∀ o, h.get? a = some o → h'.get? a = some o) : T0 P w h' a L := by
  obtain ⟨hd, xs, rr, o, es, ep, ho, q⟩ := r
  exact ⟨hd, xs, rr, o, es, ep, k o ho, q⟩
theorem o_new {P : Program} {w : World} {G : Hp} {h : Heap} {a : Addr} {L : Tb} (r : T0 P w h a L) : ObjOk P w G h a (O P w a L) := by
  obtain ⟨hd, xs, rr, o, es, ep, ho, q⟩ := r
  exact ⟨⟨hd, xs, rr, o, es, ep, ho, q⟩, ⟨o, ho⟩, fun h1 h2 p k => p.stay k⟩
theorem o_get (I : Inv X pins σ H s) {a : Addr} {L : Tb} (ha : H a = some (O X.prog X.w a L)) : T0 X.prog X.w s.heap a L := (I.hok a _ ha).1
/-- all keys of the table stand -/
def Keys (K : PySem.W.Frag) (H : Hp) (L : Tb) : Prop := ∀ e ∈ L, Is K H e.1 (.ref e.2.1) ∧ e.1.depth ≤ 8
theorem Keys.ex {K : PySem.W.Frag} {H H' : Hp} {L : Tb} (k : Keys K H L) (e : Ex H H') : Keys K H' L := fun x hx => ⟨(k x hx).1.ex e, (k x hx).2⟩
theorem raw_mem {xs : List (NestedKey × Addr × Value)} {L : Tb} (r : Raw xs L) : ∀ x ∈ xs, ∃ e ∈ L, x.1 = e.1 ∧ x.2.1 = e.2.1 := by
  unfold Raw at r
  induction r with
  | nil => exact fun x hx => nomatch hx
  | cons h t ih =>
    intro x hx
    rcases List.mem_cons.mp hx with rfl | hx
    · exact ⟨_, List.mem_cons_self .., h.1, h.2.1⟩
    · obtain ⟨e, he, q⟩ := ih x hx
      exact ⟨e, List.mem_cons_of_mem _ he, q⟩
theorem full (I : Inv X pins σ H s) {a : Addr} {L : Tb} (r : T0 X.prog X.w s.heap a L) (k : Keys X.K H L) : ∃ xs, Raw xs L ∧ s.heap.DictOfH (nestedKind X.prog X.w) a xs := by
  obtain ⟨hd, xs, rr, o, es, ep, ho, q1, q2, q3, q4⟩ := r
  refine ⟨xs, rr, o, es, ep, ho, q1, q2, q3, fun x hx => ?_, q4⟩
  obtain ⟨e, he, e1, e2⟩ := raw_mem rr x hx
  obtain ⟨k1, k2⟩ := k e he
  rw [e1, e2]
  exact ⟨is_at I k1 rfl, k2⟩
def find (L : Tb) (k : NestedKey) : Option Int := (L.find? fun e => decide (e.1 = k)).map (·.2.2)
theorem find_some {k : NestedKey} {i : Int} : ∀ {xs : List (NestedKey × Addr × Value)} {L : Tb}, Raw xs L → find L k = some i → ∃ b t, atKey xs k = some (b, Value.int i t)
  | _, _, .nil, h => nomatch h
  | x :: xs, e :: L, .cons ⟨h1, h2, t, h3⟩ r, h => by
    unfold find at h
    unfold atKey
    rw [List.find?_cons] at h ⊢
    rw [h1]
    cases c : decide (e.1 = k) with
    | true =>
      rw [c] at h
      have h : e.2.2 = i := Option.some.inj h
      refine ⟨x.2.1, t, ?_⟩
      show some x.2 = _
      rw [← h, ← h3]
    | false =>
      rw [c] at h
      exact find_some r h
theorem find_none {k : NestedKey} : ∀ {xs : List (NestedKey × Addr × Value)} {L : Tb}, Raw xs L → find L k = none → atKey xs k = none
  | _, _, .nil, _ => rfl
  | x :: xs, e :: L, .cons ⟨h1, h2, t, h3⟩ r, h => by
    unfold find at h
    unfold atKey
    rw [List.find?_cons] at h ⊢
    rw [h1]
    cases c : decide (e.1 = k) with
    | true =>
      rw [c] at h
      cases h
    | false =>
      rw [c] at h
      exact find_none r h
end
/-! ### the readings -/
/-- {} -/
def tNew (P : Program) (w : World) : TE := fun _ H Q => ∀ p, H p = none → Q (.ref p) (upd H p (O P w p []))
/-- d[k] -/
def tGet (K : PySem.W.Frag) (P : Program) (w : World) (td ty : TE) : TE := fun σ H Q => td σ H fun x H1 => ty σ H1 fun y H2 => ∃ (a b : Addr) (L : Tb) (k : NestedKey) (i : Int), x = .ref a ∧ y = .ref b ∧ H2 a = some (O P w a L) ∧ Keys K H2 L ∧ Is K H2 k (.ref b) ∧ k.depth ≤ 8 ∧ find L k = some i ∧ Q (.int i) H2
/-- d[k] = v, k new -/
def sPut (K : PySem.W.Frag) (P : Program) (w : World) (td ty tv : TE) : TS := fun D σ H => tv σ H fun v H1 => td σ H1 fun x H2 => ty σ H2 fun y H3 => ∃ (a b : Addr) (L : Tb) (k : NestedKey) (i : Int), v = .int i ∧ x = .ref a ∧ y = .ref b ∧ H3 a = some (O P w a L) ∧ Keys K H3 L ∧ Is K H3 k (.ref b) ∧ k.depth ≤ 8 ∧ find L k = none ∧ L.length < 100000 ∧ D.nx σ (upd H3 a (O P w a (L ++ [(k, b, i)])))
/-- {k: v} -/
def tOne (K : PySem.W.Frag) (P : Program) (w : World) (ty tv : TE) : TE := fun σ H Q => ∀ p, H p = none → ty σ (upd H p (O P w p [])) fun y H1 => tv σ H1 fun v H2 => ∃ (b : Addr) (k : NestedKey) (i : Int), y = .ref b ∧ v = .int i ∧ H2 p = some (O P w p []) ∧ Is K H2 k (.ref b) ∧ k.depth ≤ 8 ∧ Q (.ref p) (upd H2 p (O P w p [(k, b, i)]))
section
variable {X : Cx} {o i value : Expr} {td ty tv : TE} {pos pos' : Pos}
theorem t0_empty {P : Program} {w : World} {h : Heap} (hb : sysModules < h.objs.size) : T0 P w (h.push { cls := .type "dict", data := .dict #[] }) h.objs.size [] :=
  ⟨beq_eq_false_iff_ne.mpr (Ne.symm (Nat.ne_of_lt hb)), [], .nil, _, #[], _, Heap.get?_push_size _ rfl, ⟨rfl, rfl, rfl⟩, rfl, rfl, List.nodup_nil⟩
theorem pe_new : PE X (.Dict [] [] pos) (tNew X.prog X.w) := ⟨fun pins s σ H Q I h =>
  wpAny_Dict_empty ⟨.ref s.heap.objs.size, _, I.laid (a := s.heap.objs.size) (o := O X.prog X.w s.heap.objs.size []) (t' := s.toks) (fun _ _ q => Heap.get?_push_of_some _ q) (Nat.le_refl _) (o_new (t0_empty I.big)), rfl, h _ (I.hok.fresh (Nat.le_refl _))⟩⟩
theorem pe_get {k : Nat} (hr : Room k X.A) (ho : PE X o td) (hi : PE X i ty) (hs : NoSl i) : PE X (.Subscript o i pos) (tGet X.K X.prog X.w td ty) := by
  refine ⟨fun pins s σ H Q I h => ?_⟩
  have hu := hr.units
  refine subD_of PySem.F.slot_dict_getitem.lookup hs (thn (ho.run pins s σ H _ I h) fun u s1 ⟨x, H1, I1, rx, q1⟩ => thn (hi.run pins s1 σ H1 _ I1 q1) fun iv s2 ⟨y, H2, I2, ry, q2⟩ => ?_)
  obtain ⟨a, b, L, k, i, rfl, rfl, hL, hK, hk, hd, hf, q⟩ := q2
  cases rx
  cases ry
  obtain ⟨xs, rr, dd⟩ := full I2 (o_get I2 hL) hK
  obtain ⟨c, t, hp⟩ := find_some rr hf
  refine ⟨dd.typeIs, wpAny_getItem_heap (knd := nestedKind X.prog X.w) (show X.A.in1.units + 8 < cLine by simp only [Around.in1_units]; omega) ⟨is_at I2 hk rfl, hd⟩ dd hp ⟨.int i, H2, I2.tok _, ⟨t, rfl⟩, q⟩⟩
theorem raw_more {xs : List (NestedKey × Addr × Value)} {L : Tb} (r : Raw xs L) (k : NestedKey) (b : Addr) (i : Int) (t : Tok) : Raw (xs ++ [(k, b, Value.int i t)]) (L ++ [(k, b, i)]) := Paired.snoc r ⟨rfl, rfl, t, rfl⟩
theorem ps_put {k : Nat} (hr : Room k X.A) (ho : PE X o td) (hi : PE X i ty) (hv : PE X value tv) (hs : swapsWith value (some (.Subscript o i pos')) pos.line X.env = pure false) :
    PS X (.Assign [.Subscript o i pos'] value pos) (sPut X.K X.prog X.w td ty tv) := by
  refine ⟨fun pins s σ H D I h => ?_⟩
  have hu := hr.units
  refine wpAny_Assign_Subscript (thn (hv.run pins s σ H _ I h) fun r s1 ⟨v, H1, I1, rv, q1⟩ => thn (ho.run pins s1 σ H1 _ I1 q1) fun u s2 ⟨x, H2, I2, rx, q2⟩ => thn (hi.run pins s2 σ H2 _ I2 q2) fun iv s3 ⟨y, H3, I3, ry, q3⟩ => ?_) hs
  obtain ⟨a, b, L, k, i, rfl, rfl, rfl, hL, hK, hk, hd, hf, hl, q⟩ := q3
  cases rx
  cases ry
  obtain ⟨t, rfl⟩ := rv
  obtain ⟨xs, rr, dd⟩ := full I3 (o_get I3 hL) hK
  have nf := find_none rr hf
  have xl : xs.length = L.length := Paired.length rr
  have nm := (o_get I3 hL).1
  refine wpAny_setItem_heap (knd := nestedKind X.prog X.w) (show X.A.in1.units + 8 < cLine by simp only [Around.in1_units]; omega) ⟨is_at I3 hk rfl, hd⟩ dd (fun h' dd' sb => ?_) (by rw [sizeLine_eq]; omega)
  rw [storedH_new nf] at dd'
  obtain ⟨o', es, ep, g1, g2, g3, g4, g5, g6⟩ := dd'
  refine ⟨σ, _, d_write I3 (by rw [hL]; exact True.intro) sb ⟨o', g1⟩ (o_new ⟨nm, _, raw_more rr k b i t, o', es, ep, g1, g2, g3, g4, g6⟩), q⟩
def pOne (F : V → V → Hp → Prop) : List (V × V) → Hp → Prop
  | [(y, v)], H => F y v H
  | _, _ => False
theorem pOne_has {F : V → V → Hp → Prop} : ∀ {ps : List (V × V)} {H : Hp}, pOne F ps H → ∃ y v, ps = [(y, v)] ∧ F y v H
  | [], _, h => h.elim
  | [(y, v)], _, h => ⟨y, v, rfl, h⟩
  | _ :: _ :: _, _, h => h.elim
theorem pe_one {kx vx : Expr} {k : Nat} (hr : Room k X.A) (hi : PE X kx ty) (hv : PE X vx tv) : PE X (.Dict [some kx] [vx] pos) (tOne X.K X.prog X.w ty tv) := by
  refine ⟨fun pins s σ H Q I q => ?_⟩
  have hu := hr.units
  have hn := I.hok.fresh (Nat.le_refl s.heap.objs.size)
  have I1 := I.laid (a := s.heap.objs.size) (o := O X.prog X.w s.heap.objs.size []) (h' := s.heap.push { cls := .type "dict", data := .dict #[] }) (t' := s.toks) (fun _ _ q => Heap.get?_push_of_some _ q) (Nat.le_refl _) (o_new (t0_empty I.big))
  have hp := (pps_cons (pos := pos) hi hv pps_nil).run pins _ σ _ (pOne fun y v H2 => ∃ (b : Addr) (k : NestedKey) (i : Int), y = .ref b ∧ v = .int i ∧ H2 s.heap.objs.size = some (O X.prog X.w s.heap.objs.size []) ∧ Is X.K H2 k (.ref b) ∧ k.depth ≤ 8 ∧ Q (.ref s.heap.objs.size) (upd H2 s.heap.objs.size (O X.prog X.w s.heap.objs.size [(k, b, i)]))) I1 (q _ hn)
  have e0 : (pairTrees [some kx] [vx] X.env pos).length = 1 := pairTrees_length _ _ _ _ rfl rfl
  have n0 : pairTrees [some kx] [vx] X.env pos ≠ [] := fun z => by rw [z] at e0; cases e0
  have shp : (evalEachOpt [some kx] X.env).zip ((evalEach [vx] X.env).map fun v => do let x ← v; standAt pos; pure x) = (pairTrees [some kx] [vx] X.env pos).map fun p => (some p.1, p.2) := by rfl
  rw [arm_eval_Dict, shp, dictDisplay_pairs _ n0 (by rw [e0]; decide)]
  refine wpAny_bind (wpAny_standAt (wpAny_bind (wpAny_subDictH (knd := nestedKind X.prog X.w) (show X.A.units + 8 < cLine by omega) (by rw [e0]; decide) (thn hp fun ws s2 ⟨ps, H2, I2, rel, q1⟩ => ?_))))
  obtain ⟨y, v, rfl, b, k, i, rfl, rfl, hL, hk, hd, q2⟩ := pOne_has q1
  obtain ⟨w0, rfl, r1, r2⟩ : ∃ w0 : Value × Value, ws = [w0] ∧ RelV (.ref b) w0.1 ∧ RelV (.int i) w0.2 := by
    cases rel with
    | cons r rr =>
      cases rr
      exact ⟨_, rfl, r⟩
  obtain ⟨w1, w2⟩ := w0
  cases (show w1 = Value.ref b from r1)
  obtain ⟨t, e2⟩ := (show ∃ t, w2 = Value.int i t from r2)
  subst e2
  have T := o_get I2 hL
  obtain ⟨xs, rr, dd⟩ := full I2 T (fun e he => nomatch he)
  cases rr
  refine ⟨[(k, b, Value.int i t)], ⟨rfl, rfl, ⟨is_at I2 hk rfl, hd⟩, trivial⟩, dd, fun h' tk dd' sb => wpAny_pure ?_⟩
  have e3 : storedAllH ([] : List (NestedKey × Addr × Value)) [(k, b, Value.int i t)] = [(k, b, Value.int i t)] := rfl
  rw [e3] at dd'
  obtain ⟨o', es, ep, g1, g2, g3, g4, g5, g6⟩ := dd'
  exact ⟨.ref _, _, d_write I2 (by rw [hL]; exact True.intro) sb ⟨o', g1⟩ (o_new ⟨T.1, _, .cons ⟨rfl, rfl, t, rfl⟩ .nil, o', es, ep, g1, g2, g3, g4, g6⟩), rfl, q2⟩
end
end DN
/-! for i, x in enumerate(a tuple) -/
namespace EnT
open PySem PySem.Spec PyProof.Rows L2
set_option maxHeartbeats 1000000 in
theorem made {v : Value} {ob : Obj} {Fx : Heap → Prop} (B : Begins v ob Fx) : Meets (Builtin.«enumerate.__new__» ⟨[.type "enumerate", v], []⟩) (fun _ Post s => Fx s.heap ∧
    Post (.ok (.ret (.ref (s.heap.push ob).objs.size))) { s with heap := (s.heap.push ob).push { cls := .type "enumerate", data := .fields #[.none, .bool false, .ref s.heap.objs.size, rawInt 0, .none, .none] } }) :=
  .of_wp fun prog w A Post s told => by
    obtain ⟨hp, gn, dd, tk, osx⟩ := s
    obtain ⟨begun, told⟩ := told
    have hsub := sub_enumerate
    have step : ∀ {A' : Around} {E : Value → Shared → Prop} {Q : Value → Shared → Prop}, Q (.ref hp.objs.size) ⟨hp.push ob, gn, dd, tk, osx⟩ → wpAny (model prog w) A' (pyIter v) Q E ⟨hp, gn, dd, tk, osx⟩ :=
      fun q => B.iter prog w _ _ ⟨hp, gn, dd, tk, osx⟩ _ begun q
    wp_walk using step
    refine wpAny_stack_any fun st => wpAny_pure ?_
    split
    · rename_i cl _ _ _ _ _
      cases (cl == Value.type "enumerate")
      · wp_walk using step
        exact ⟨_, rfl, told⟩
      · wp_walk using step
        exact ⟨_, rfl, told⟩
    · wp_walk using step
      exact ⟨_, rfl, told⟩
theorem call1 {prog : Program} {w : World} {A : Around} {E : Value → Shared → Prop} {s : Shared} {v : Value} {ob : Obj} {Fx : Heap → Prop} {Q : Value → Shared → Prop} (B : Begins v ob Fx) (begun : Fx s.heap)
    (k : ∀ g, IsEnum g (s.heap.objs.size + 1) s.heap.objs.size 0 .none → g.get? s.heap.objs.size = some ob → (∀ c u, s.heap.get? c = some u → g.get? c = some u) → Q (.ref (s.heap.objs.size + 1)) { s with heap := g }) : wpAny (model prog w) A (call (.type "enumerate") [v]) Q E s := by
  refine callType_new F.called_enumerate (by decide) (F.typeCall_enumerate_1 _) (F.newCall_enumerate_1 _) (fun obj => F.args_object_init_2 obj _) F.entry_enumerate_new (made B) ⟨begun, ?_⟩
  have sz : (s.heap.push ob).objs.size = s.heap.objs.size + 1 := Heap.size_push ..
  show _ ∧ _
  rw [sz]
  have here : IsEnum ((s.heap.push ob).push { cls := .type "enumerate", data := .fields #[.none, .bool false, .ref s.heap.objs.size, rawInt 0, .none, .none] }) (s.heap.objs.size + 1) s.heap.objs.size 0 .none := by
    have z := Heap.get?_push_size (s.heap.push ob) (o := { cls := .type "enumerate", data := .fields #[.none, .bool false, .ref s.heap.objs.size, rawInt 0, .none, .none] }) rfl
    rw [sz] at z
    exact z
  exact ⟨⟨_, here, rfl⟩, k _ here (Heap.get?_push_of_some _ (Heap.get?_push_size _ B.free)) fun c u x => Heap.get?_push_of_some _ (Heap.get?_push_of_some _ x)⟩
/-- the tuple at a, each item in a new pair with its place -/
def Over (K : PySem.W.Frag) (a : Addr) : It :=
  ⟨fun n G => ∃ (xs : List V) (x : V), SqT K G a xs ∧ xs[n]? = some x, fun n G v G' => ∃ T x, v = .ref T ∧ G T = none ∧ G' = upd G T (.tup [.int (n : Nat), x]) ∧ ∀ xs, SqT K G a xs → xs[n]? = some x, fun n G => ∃ xs : List V, SqT K G a xs ∧ xs.length = n⟩
theorem turn {P : Program} {w : World} {K : PySem.W.Frag} {elts : List Expr} {kk : Nat} {tpos : Pos} (a e it : Addr) : Turn P w K (.Tuple elts kk tpos) (Over K a) [e, it] e (fun n h => (∃ old, IsEnum h e it ((n : Nat) : Int) old) ∧ h.IsTupleIter it a n ∧ e ≠ it) where
  mem := by simp
  obj := fun n h st b hb => by
    obtain ⟨⟨old, en⟩, ⟨o, ho, hc, hd⟩, _⟩ := st
    have two : b = e ∨ b = it := by simpa using hb
    rcases two with z | z
    · rw [z]
      exact ⟨_, en, fun v q => nomatch q⟩
    · rw [z]
      exact ⟨o, ho, fun v q => by rw [hd] at q; cases q⟩
  keep := fun n h h' st keeps => by
    obtain ⟨⟨old, en⟩, iter, apart⟩ := st
    exact ⟨⟨old, keeps e (by simp) _ en⟩, iter.at fun o q => keeps it (by simp) o q, apart⟩
  item := by
    intro X hP hw hK calm n pins s σ G E I fp st more
    subst hP hw hK
    obtain ⟨⟨old, en⟩, iter, apart⟩ := st
    obtain ⟨xs, x, sq, at_⟩ := more
    obtain ⟨its, rv, tup, _⟩ := I.tuple sq
    obtain ⟨u, hu, ru⟩ := rv.get at_
    have el : e < s.heap.objs.size := Heap.lt_size en
    have il : it < s.heap.objs.size := by
      obtain ⟨_, q, _⟩ := iter
      exact Heap.lt_size q
    have eIsT : s.heap.IsTuple a its.toArray := tup
    have ne1 : e ≠ a := fun z => by
      obtain ⟨o, ho, hc, _⟩ := eIsT
      rw [← z, show s.heap.get? e = _ from en] at ho
      cases ho
      exact absurd (Value.type.inj hc) (by decide)
    have ne2 : a ≠ it := fun z => by
      obtain ⟨o, ho, hc, _⟩ := eIsT
      obtain ⟨o2, ho2, hc2, _⟩ := iter
      rw [z, ho2] at ho
      cases ho
      rw [hc2] at hc
      exact absurd (Value.type.inj hc) (by decide)
    have D := Draws.tuple (prog := X.prog) (w := X.w) (A := X.A.in1) (by simp [I.ok.hd calm]) it a ne2 its.toArray
    refine wpAny_pyNext_enum_itemD D en ⟨iter, eIsT⟩ (by have := (List.getElem?_eq_some_iff.mp hu).1; simpa using this) apart (by simp [apart, ne1]) fun y h' tk gy out nxt hT hsz hk => ?_
    have ey : y = u := by
      have gy : its.toArray[n]? = some y := gy
      rw [List.getElem?_toArray, hu] at gy
      exact (Option.some.inj gy).symm
    subst ey
    refine ⟨_, rfl, wpAny_letOwnedTupleGo_enum (s := { s with heap := h', toks := tk + 1 }) out fun h2 back sb => ?_⟩
    have hT2 : h2.get? s.heap.objs.size = some { cls := .type "tuple", data := .seq #[.int n tk, y] } := (sb.2 _ (Nat.ne_of_gt el)).trans hT
    have new : ObjOk X.prog X.w (upd G s.heap.objs.size (.tup [.int (n : Nat), x])) h2 s.heap.objs.size (.tup [.int (n : Nat), x]) :=
      ⟨by show 2 ≤ sizeLine; decide, [.int n tk, y], .cons ⟨_, rfl⟩ (.cons ru .nil), ⟨_, hT2, rfl, _, rfl⟩⟩
    have I1 : Inv X pins σ (upd G s.heap.objs.size (.tup [.int (n : Nat), x])) { s with heap := h2, toks := tk + 1 } :=
      I.turnedNew (ch := [e, it]) (fun b ob hb q => (sb.2 b (fun z => hb (by simp [z]))).trans (hk b ob (fun z => hb (by simp [z])) (fun z => hb (by simp [z])) q)) fp (Nat.le_refl _) new
    refine ⟨.ref s.heap.objs.size, _, I1, rfl, ⟨_, x, rfl, I.hok.fresh (Nat.le_refl _), rfl, fun ys hy => by rw [I.tuple_inj hy sq]; exact at_⟩, ⟨⟨y, ?_⟩, nxt.1.at fun o q => (sb.2 it (Ne.symm apart)).trans q, apart⟩, fun b hb => ?_⟩
    · have e1 : ((n + 1 : Nat) : Int) = (n : Int) + 1 := by omega
      rw [e1]
      exact back
    · have below : b < s.heap.objs.size := by
        have two : b = e ∨ b = it := by simpa using hb
        rcases two with z | z
        · rw [z]; exact el
        · rw [z]; exact il
      rw [upd_ne (Nat.ne_of_lt below)]
      exact (fp b hb).1
  done := by
    intro X hP hw hK calm n pins s σ G E I fp st over
    subst hP hw hK
    obtain ⟨⟨old, en⟩, iter, apart⟩ := st
    obtain ⟨xs, sq, le⟩ := over
    obtain ⟨its, rv, tup, _⟩ := I.tuple sq
    obtain ⟨f0, f1, f2, f3, f4, f5⟩ := fp it (by simp)
    have hl := rv.length
    have ne2 : a ≠ it := fun z => by
      obtain ⟨o, ho, hc, _⟩ := tup
      obtain ⟨o2, ho2, hc2, _⟩ := iter
      rw [z, ho2] at ho
      cases ho
      rw [hc2] at hc
      exact absurd (Value.type.inj hc) (by decide)
    have D := Draws.tuple (prog := X.prog) (w := X.w) (A := X.A.in1) (by simp [I.ok.hd calm]) it a ne2 its.toArray
    have en2 : its.toArray.size = n := by simpa using hl.symm.trans le
    rw [← en2] at iter
    exact wpAny_pyNext_enum_endD D en ⟨iter, tup⟩ fun h' eb => ⟨rfl, I.turned (t' := s.toks) (fun b o hb q => eb b o hb q) f0 f1 f3 f4 f5⟩
  self := fun A n s Q E st h => let ⟨⟨_, en⟩, _⟩ := st; wpAny_pyIter_enum en h
def iE (K : PySem.W.Frag) (ta : TA) : TI := fun σ H R => ta σ H fun vs H1 => ∃ a xs, vs = [.ref a] ∧ SqT K H1 a xs ∧ R (Over K a) H1
theorem pi_e {X : Cx} {e : Expr} {ta : TA} {p pos tpos : Pos} {elts : List Expr} {kk : Nat} (hg : Gl X "enumerate") (hm : X.mg "enumerate" = none) (ha : PA X [e] ta) (hs : starEach [e] X.env = [(false, eval e X.env)] := by rfl) :
    PI X (.Tuple elts kk tpos) (.Call (.Name "enumerate" p) [e] [] pos) (iE X.K ta) := by
  refine ⟨fun pins s σ H R I h => ?_⟩
  refine Call_ (ld_blt I hg hm boot_enumerate (PyProof.Rows.callWith_type1 (thn (ha.run pos pins s σ H _ I h) fun us s1 ⟨vs, H1, I1, r1, q1⟩ => ?_) hs rfl))
  obtain ⟨a, xs, rfl, sq, q⟩ := q1
  cases r1 with
  | cons r rr =>
    cases rr
    cases r
    obtain ⟨its, rv, tup, _⟩ := I1.tuple sq
    refine call1 (begins_tuple a its.toArray) tup fun g en isit keep => wpAny_pyIter_enum en ?_
    have I2 : Inv X pins σ H1 { s1 with heap := g } := I1.kept (t' := s1.toks) keep
    refine ⟨s1.heap.objs.size + 1, [s1.heap.objs.size + 1, s1.heap.objs.size], _, _, H1, rfl, I2, turn a (s1.heap.objs.size + 1) s1.heap.objs.size, ⟨⟨.none, en⟩, ⟨_, isit, rfl, rfl⟩, Nat.succ_ne_self _⟩, fun b hb => ?_, q⟩
    have two : b = s1.heap.objs.size + 1 ∨ b = s1.heap.objs.size := by simpa using hb
    have le : s1.heap.objs.size ≤ b := by
      rcases two with z | z
      · rw [z]; exact Nat.le_add_right _ _
      · rw [z]; exact Nat.le_refl _
    exact I1.fpOk le (I1.hok.fresh le)
theorem for_enumT {K : PySem.W.Frag} {a : Addr} {xs : List V} {g : TG} {tb : TS} {D : Ends} {σ : L2.St} {H : Hp} (Pv : Nat → L2.St → Hp → Prop) (h0 : Pv 0 σ H) (hq : ∀ i σ H, Pv i σ H → SqT K H a xs)
    (hs : ∀ (i : Nat) (x : V) (T : Addr) (σ : L2.St) (H : Hp), xs[i]? = some x → Pv i σ H → H T = none → g (.ref T) σ (upd H T (.tup [.int (i : Nat), x])) fun σ2 H2 => tb { D with nx := Pv (i + 1), ct := Pv (i + 1), bk := D.nx } σ2 H2) (hd : ∀ σ H, Pv xs.length σ H → D.nx σ H) :
    ∃ W : Nat → Nat → L2.St → Hp → Prop, (∃ m, W 0 m σ H) ∧ ∀ i m σ H, W i m σ H →
      ((Over K a).stop i H ∧ D.nx σ H) ∨ ((Over K a).go i H ∧ ∃ N : L2.St → Hp → Prop, (∀ σ' H', N σ' H' → ∃ m', m' < m ∧ W (i + 1) m' σ' H') ∧ ∀ v H', (Over K a).yld i H v H' → g v σ H' fun σ2 H2 => tb { D with nx := N, ct := N, bk := D.nx } σ2 H2) := by
  refine ⟨fun i m σ H => m = xs.length - i ∧ i ≤ xs.length ∧ Pv i σ H, ⟨xs.length, by simp, Nat.zero_le _, h0⟩, ?_⟩
  rintro i m σ H ⟨rfl, hi, p⟩
  have q := hq i σ H p
  by_cases hlt : i < xs.length
  · refine .inr ⟨⟨xs, xs[i], q, by simp [hlt]⟩, Pv (i + 1), fun σ' H' p' => ⟨xs.length - (i + 1), by omega, rfl, hlt, p'⟩, fun v H' y => ?_⟩
    obtain ⟨T, x, rfl, hT, rfl, hx⟩ := y
    exact hs i x T σ H (hx xs q) p hT
  · have e : i = xs.length := by omega
    subst e
    exact .inl ⟨⟨xs, q, rfl⟩, hd σ H p⟩
end EnT
/-! squares of a table by their rows and columns -/
namespace Cb
theorem C_nodup (n : Nat) : ∀ r d lo, lo + d = n → (C n r lo).Nodup
  | 0, _, _, _ => by simp [C]
  | r + 1, 0, lo, h => by rw [C_end n r lo (by omega)]; exact List.nodup_nil
  | r + 1, d + 1, lo, h => by
    rw [C_step n r lo (by omega)]
    refine List.nodup_append.mpr ⟨?_, C_nodup n (r + 1) d (lo + 1) (by omega), fun a ha b hb e => ?_⟩
    · have := C_nodup n r d (lo + 1) (by omega)
      exact List.Pairwise.map _ (fun a b h e => h (List.cons.inj e).2) this
    · obtain ⟨c, hc, rfl⟩ := List.mem_map.mp ha
      have := (mem_C.mp hb).2.2 lo (by rw [← e]; exact List.mem_cons_self ..)
      omega
theorem all_nodup (n r : Nat) : (all n r).Nodup := C_nodup n r n 0 (by omega)
theorem C_shift (n : Nat) : ∀ r d lo, lo + d = n → C n r lo = (C d r 0).map fun l : List Nat => l.map fun y : Nat => lo + y
  | 0, _, _, _ => by simp [C]
  | r + 1, d, lo, h => by
    have e : ∀ n m, C n (r + 1) m = (List.range' m (n - m)).flatMap fun i => (C n r (i + 1)).map (i :: ·) := fun _ _ => rfl
    rw [e, e, show n - lo = d by omega, Nat.sub_zero, List.range'_eq_map_range, List.range'_eq_map_range, List.flatMap_map, List.flatMap_map, List.map_flatMap]
    have fm : ∀ {f g : Nat → List (List Nat)} {l : List Nat}, (∀ x ∈ l, f x = g x) → l.flatMap f = l.flatMap g := fun {f g l} h => by
      induction l with
      | nil => rfl
      | cons a l ih => rw [List.flatMap_cons, List.flatMap_cons, h a (List.mem_cons_self ..), ih fun x hx => h x (List.mem_cons_of_mem _ hx)]
    refine fm fun x hx => ?_
    have hx := List.mem_range.mp hx
    show (C n r (lo + x + 1)).map (fun l : List Nat => (lo + x) :: l) = ((C d r (0 + x + 1)).map (fun l : List Nat => (0 + x) :: l)).map fun l : List Nat => l.map fun y : Nat => lo + y
    rw [C_shift n r (d - (x + 1)) (lo + x + 1) (by omega), C_shift d r (d - (x + 1)) (0 + x + 1) (by omega), List.map_map, List.map_map, List.map_map]
    refine List.map_congr_left fun l _ => ?_
    show (lo + x) :: l.map (fun y : Nat => lo + x + 1 + y) = (lo + (0 + x)) :: (l.map fun y : Nat => 0 + x + 1 + y).map fun y : Nat => lo + y
    rw [List.map_map, Nat.zero_add]
    congr 1
    refine List.map_congr_left fun y _ => ?_
    show lo + x + 1 + y = lo + (x + 1 + y)
    omega
theorem all_step (n r : Nat) : all n (r + 1) = (List.range n).flatMap fun f => (all (n - f - 1) r).map fun l : List Nat => f :: l.map fun y : Nat => f + 1 + y := by
  have e : C n (r + 1) 0 = (List.range' 0 (n - 0)).flatMap fun i => (C n r (i + 1)).map (i :: ·) := rfl
  unfold all
  rw [e, Nat.sub_zero, ← List.range_eq_range']
  have fm : ∀ {f g : Nat → List (List Nat)} {l : List Nat}, (∀ x ∈ l, f x = g x) → l.flatMap f = l.flatMap g := fun {f g l} h => by
    induction l with
    | nil => rfl
    | cons a l ih => rw [List.flatMap_cons, List.flatMap_cons, h a (List.mem_cons_self ..), ih fun x hx => h x (List.mem_cons_of_mem _ hx)]
  refine fm fun x hx => ?_
  have hx := List.mem_range.mp hx
  rw [C_shift n r (n - x - 1) (x + 1) (by omega), List.map_map]
  rfl
theorem all_count (n : Nat) : ∀ r d lo, lo + d = n → (C n r lo).length ≤ 2 ^ d
  | 0, d, _, _ => Nat.one_le_two_pow
  | r + 1, 0, lo, h => by rw [C_end n r lo (by omega)]; exact Nat.zero_le _
  | r + 1, d + 1, lo, h => by
    rw [C_step n r lo (by omega), List.length_append, List.length_map, Nat.pow_succ]
    have h1 := all_count n r d (lo + 1) (by omega)
    have h2 := all_count n (r + 1) d (lo + 1) (by omega)
    omega
end Cb
namespace Bs
open Dt
def sub (R : List (List Int)) (rows cols : List Nat) : List (List Int) := rows.map fun i => cols.map fun j => at_ R i j
def val (R : List (List Int)) (rows cols : List Nat) : Int := detI rows.length (sub R rows cols)
theorem sub_sq (R : List (List Int)) {rows cols : List Nat} (h : cols.length = rows.length) : Sq rows.length (sub R rows cols) := by
  unfold sub
  refine ⟨by rw [List.length_map], fun r hr => ?_⟩
  obtain ⟨i, _, rfl⟩ := List.mem_map.mp hr
  rw [List.length_map, h]
theorem val_eq (R : List (List Int)) {rows cols : List Nat} (h : cols.length = rows.length) : ((val R rows cols : Int) : Rat) = det rows.length (mx (sub R rows cols)) := detI_eq (sub_sq R h)
theorem sub_at (R : List (List Int)) {rows cols : List Nat} {i j a b : Nat} (hi : rows[i]? = some a) (hj : cols[j]? = some b) : at_ (sub R rows cols) i j = at_ R a b := by
  unfold sub
  show ((rows.map fun i => cols.map fun j => at_ R i j)[i]?.getD [])[j]?.getD 0 = _
  rw [List.getElem?_map, hi]
  show (cols.map fun j => at_ R a j)[j]?.getD 0 = _
  rw [List.getElem?_map, hj]
  rfl
/-- all but the j-th -/
def out (l : List Nat) (j : Nat) : List Nat := l.take j ++ l.drop (j + 1)
theorem out_len {l : List Nat} {j : Nat} (h : j < l.length) : (out l j).length = l.length - 1 := by
  unfold out
  rw [List.length_append, List.length_take, List.length_drop]
  omega
theorem val_nil (R : List (List Int)) : val R [] [] = 1 := by
  have h := val_eq R (rows := []) (cols := []) rfl
  have e : det 0 (mx (sub R [] [])) = ((1 : Int) : Rat) := rfl
  show val R [] [] = 1
  exact Rat.intCast_inj.mp (h.trans e)
/-- along the last row -/
theorem val_last (R : List (List Int)) {ahead cols : List Nat} {r : Nat} (h : cols.length = ahead.length + 1) : ((val R (ahead ++ [r]) cols : Int) : Rat) = sm (ahead.length + 1) fun j => (sg ahead.length * sg j) * ((at_ R r (cols[j]?.getD 0) : Int) : Rat) * ((val R ahead (out cols j) : Int) : Rat) := by
  have hl : (ahead ++ [r]).length = ahead.length + 1 := by simp
  rw [val_eq R (by rw [hl, h]), hl]
  have ht := det_top (n := ahead.length + 1) (r := ahead.length) (M := mx (sub R (ahead ++ [r]) cols)) (by omega)
  have e1 : det (ahead.length + 1) (mx (sub R (ahead ++ [r]) cols)) = sg ahead.length * det (ahead.length + 1) (top ahead.length (mx (sub R (ahead ++ [r]) cols))) := by
    rw [ht, ← Rat.mul_assoc, sg_sq, Rat.one_mul]
  rw [e1, show det (ahead.length + 1) (top ahead.length (mx (sub R (ahead ++ [r]) cols))) = sm (ahead.length + 1) fun j => sg j * (top ahead.length (mx (sub R (ahead ++ [r]) cols))) 0 j * det ahead.length (minor (top ahead.length (mx (sub R (ahead ++ [r]) cols))) j) from rfl, ← sm_mul]
  refine sm_congr fun j hj => ?_
  have hc : cols[j]? = some (cols[j]?.getD 0) := by
    rw [List.getElem?_eq_getElem (by omega)]
    rfl
  have f1 : (top ahead.length (mx (sub R (ahead ++ [r]) cols))) 0 j = ((at_ R r (cols[j]?.getD 0) : Int) : Rat) := by
    show ((at_ (sub R (ahead ++ [r]) cols) ahead.length j : Int) : Rat) = _
    rw [sub_at R (i := ahead.length) (a := r) (by simp) hc]
  have f2 : det ahead.length (minor (top ahead.length (mx (sub R (ahead ++ [r]) cols))) j) = ((val R ahead (out cols j) : Int) : Rat) := by
    rw [val_eq R (by rw [out_len (by omega)]; omega)]
    refine det_congr fun a b ha hb => ?_
    show ((at_ (sub R (ahead ++ [r]) cols) (if a + 1 = 0 then ahead.length else skip ahead.length (a + 1 - 1)) (skip j b) : Int) : Rat) = ((at_ (sub R ahead (out cols j)) a b : Int) : Rat)
    rw [if_neg (by omega), Nat.add_sub_cancel, skip_lt ha]
    have ea : (ahead ++ [r])[a]? = some (ahead[a]) := by
      rw [List.getElem?_append_left ha]
      exact List.getElem?_eq_getElem ha
    have eb : (out cols j)[b]? = cols[skip j b]? := out_get cols j b (by omega)
    have sb : skip j b < cols.length := by
      unfold skip
      split <;> omega
    have ec : cols[skip j b]? = some cols[skip j b] := List.getElem?_eq_getElem sb
    rw [sub_at R ea ec, sub_at R (List.getElem?_eq_getElem ha) (eb.trans ec)]
  rw [f1, f2]
  grind
def isBad (x : Int) : Bool := !(decide (x = -1) || decide (x = 0) || decide (x = 1))
/-- all squares of one size -/
def sq (m w s : Nat) : List (List Nat × List Nat) := (Cb.all m s).flatMap fun rs => (Cb.all w s).map fun cs => (rs, cs)
def sqs (m w n : Nat) : List (List Nat × List Nat) := (List.range n).flatMap fun s => sq m w (s + 1)
theorem sqs_succ (m w n : Nat) : sqs m w (n + 1) = sqs m w n ++ sq m w (n + 1) := by
  unfold sqs
  rw [List.range_succ, List.flatMap_append, List.flatMap_cons, List.flatMap_nil, List.append_nil]
/-- the bad square of the fewest rows, of the least rows, of the least columns -/
def bad (R : List (List Int)) (m w : Nat) : Option (List Nat × List Nat) := (sqs m w (min m w)).find? fun x => isBad (val R x.1 x.2)
theorem find_split {α : Type} {p : α → Bool} {A B : List α} {x : α} (h : ∀ y ∈ A, p y = false) (hx : p x = true) : (A ++ x :: B).find? p = some x := by
  rw [List.find?_append, List.find?_eq_none.mpr (fun y hy => by rw [h y hy]; exact Bool.false_ne_true), List.find?_cons, hx]
  rfl
/-- those ahead of the j-th columns of the i-th rows -/
def upto (m w s i j : Nat) : List (List Nat × List Nat) := ((Cb.all m s).take i).flatMap (fun rs => (Cb.all w s).map fun cs => (rs, cs)) ++ ((Cb.all w s).take j).map fun cs => ((Cb.all m s)[i]?.getD [], cs)
theorem upto_zero (m w s : Nat) : upto m w s 0 0 = [] := by simp [upto]
theorem upto_full {m w s i : Nat} (hi : i < (Cb.all m s).length) : upto m w s i (Cb.all w s).length = upto m w s (i + 1) 0 := by
  unfold upto
  rw [List.take_length, List.take_zero, List.map_nil, List.append_nil, List.take_add_one, List.getElem?_eq_getElem hi, List.flatMap_append]
  simp
theorem upto_all (m w s : Nat) : upto m w s (Cb.all m s).length 0 = sq m w s := by
  unfold upto sq
  rw [List.take_length]
  simp
theorem upto_succ {m w s i j : Nat} {rs cs : List Nat} (hr : (Cb.all m s)[i]? = some rs) (hc : (Cb.all w s)[j]? = some cs) : upto m w s i (j + 1) = upto m w s i j ++ [(rs, cs)] := by
  unfold upto
  rw [List.take_add_one, hc, List.map_append, hr, List.append_assoc]
  rfl
theorem upto_new {m w s i j : Nat} {rs cs : List Nat} (hr : (Cb.all m s)[i]? = some rs) (hc : (Cb.all w s)[j]? = some cs) : (rs, cs) ∉ upto m w s i j := by
  have take_no : ∀ {l : List (List Nat)} {k : Nat} {x : List Nat}, l.Nodup → l[k]? = some x → x ∉ l.take k := fun {l k x} nd h z => by
    obtain ⟨a, ha, e⟩ := List.mem_iff_getElem.mp z
    rw [List.length_take] at ha
    have h1 := (List.getElem?_eq_some_iff.mp h)
    rw [List.getElem_take] at e
    have := (List.getElem?_inj (i := a) (j := k) (by omega) nd).mp (by rw [h, ← e]; exact List.getElem?_eq_getElem (by omega))
    omega
  intro z
  unfold upto at z
  rcases List.mem_append.mp z with h | h
  · obtain ⟨r2, hr2, h⟩ := List.mem_flatMap.mp h
    obtain ⟨c2, _, e⟩ := List.mem_map.mp h
    have e1 := (Prod.mk.inj e).1
    rw [e1] at hr2
    exact take_no (Cb.all_nodup m s) hr hr2
  · obtain ⟨c2, hc2, e⟩ := List.mem_map.mp h
    have e2 := (Prod.mk.inj e).2
    rw [e2] at hc2
    exact take_no (Cb.all_nodup w s) hc hc2
theorem sq_split {m w s i j : Nat} {rs cs : List Nat} (hr : (Cb.all m s)[i]? = some rs) (hc : (Cb.all w s)[j]? = some cs) : ∃ B, sq m w s = upto m w s i j ++ (rs, cs) :: B := by
  have hi := (List.getElem?_eq_some_iff.mp hr).1
  have hj := (List.getElem?_eq_some_iff.mp hc).1
  have e1 : Cb.all m s = (Cb.all m s).take i ++ rs :: (Cb.all m s).drop (i + 1) := by
    have h1 := (List.getElem?_eq_some_iff.mp hr).2
    conv => lhs; rw [← List.take_append_drop i (Cb.all m s)]
    rw [List.drop_eq_getElem_cons hi, h1]
  have e2 : Cb.all w s = (Cb.all w s).take j ++ cs :: (Cb.all w s).drop (j + 1) := by
    have h1 := (List.getElem?_eq_some_iff.mp hc).2
    conv => lhs; rw [← List.take_append_drop j (Cb.all w s)]
    rw [List.drop_eq_getElem_cons hj, h1]
  refine ⟨((Cb.all w s).drop (j + 1)).map (fun c => (rs, c)) ++ ((Cb.all m s).drop (i + 1)).flatMap (fun r => (Cb.all w s).map fun c => (r, c)), ?_⟩
  have e3 : sq m w s = ((Cb.all m s).take i ++ rs :: (Cb.all m s).drop (i + 1)).flatMap fun r => (Cb.all w s).map fun c => (r, c) := by
    unfold sq
    rw [← e1]
  have e4 : (Cb.all w s).map (fun c => (rs, c)) = ((Cb.all w s).take j).map (fun c => (rs, c)) ++ (rs, cs) :: ((Cb.all w s).drop (j + 1)).map (fun c => (rs, c)) := by
    conv => lhs; rw [e2]
    rw [List.map_append, List.map_cons]
  rw [e3, List.flatMap_append, List.flatMap_cons, e4]
  unfold upto
  rw [hr]
  simp [List.append_assoc]
theorem sqs_split {m w n s : Nat} (h : s < n) : ∃ B, sqs m w n = sqs m w s ++ (sq m w (s + 1) ++ B) := by
  induction n with
  | zero => omega
  | succ n ih =>
    by_cases e : s = n
    · subst e
      exact ⟨[], by rw [sqs_succ, List.append_nil]⟩
    · obtain ⟨B, hB⟩ := ih (by omega)
      exact ⟨B ++ sq m w (n + 1), by rw [sqs_succ, hB]; simp [List.append_assoc]⟩
theorem mem_sq {m w s : Nat} {rs cs : List Nat} : (rs, cs) ∈ sq m w s ↔ rs ∈ Cb.all m s ∧ cs ∈ Cb.all w s := by
  unfold sq
  rw [List.mem_flatMap]
  constructor
  · rintro ⟨r, hr, h⟩
    obtain ⟨c, hc, e⟩ := List.mem_map.mp h
    obtain ⟨rfl, rfl⟩ := Prod.mk.inj e
    exact ⟨hr, hc⟩
  · rintro ⟨hr, hc⟩
    exact ⟨rs, hr, List.mem_map.mpr ⟨cs, hc, rfl⟩⟩
theorem out_mem {w s : Nat} {cs : List Nat} {j : Nat} (h : cs ∈ Cb.all w (s + 1)) (hj : j < s + 1) : out cs j ∈ Cb.all w s := by
  obtain ⟨h1, h2, h3⟩ := Cb.mem_all.mp h
  have sl : (out cs j).Sublist cs := by
    unfold out
    have : (cs.take j ++ cs.drop (j + 1)).Sublist (cs.take j ++ cs.drop j) := (List.Sublist.refl _).append (by
      have z := List.drop_sublist 1 (cs.drop j)
      rwa [List.drop_drop] at z)
    rwa [List.take_append_drop] at this
  exact Cb.mem_all.mpr ⟨by rw [out_len (by rw [h1]; exact hj), h1, Nat.add_sub_cancel], h2.sublist sl, fun x hx => h3 x (sl.subset hx)⟩
theorem init_mem {m s : Nat} {rs : List Nat} (h : rs ∈ Cb.all m (s + 1)) : ∃ ahead r, rs = ahead ++ [r] ∧ ahead ∈ Cb.all m s ∧ r < m := by
  obtain ⟨h1, h2, h3⟩ := Cb.mem_all.mp h
  have hn : rs ≠ [] := fun z => by rw [z] at h1; simp at h1
  refine ⟨rs.dropLast, rs.getLast hn, (List.dropLast_concat_getLast hn).symm, Cb.mem_all.mpr ⟨by rw [List.length_dropLast, h1, Nat.add_sub_cancel], h2.sublist (List.dropLast_sublist _), fun x hx => h3 x ((List.dropLast_sublist _).subset hx)⟩, h3 _ (List.getLast_mem hn)⟩
end Bs
namespace Tu
theorem up_nodup {l : List Nat} (h : l.Pairwise (· < ·)) : l.Nodup := List.Pairwise.imp (fun h => Nat.ne_of_lt h) h
theorem len_lt {m : Nat} {l : List Nat} (u : l.Pairwise (· < ·)) (h : ∀ x ∈ l, x < m) : l.length ≤ m := by
  have := (up_nodup u).length_le_of_subset (l₂ := List.range m) fun x hx => List.mem_range.mpr (h x hx)
  rw [List.length_range] at this
  exact this
end Tu
namespace SbE12
open PySem PySem.Spec PyProof.Rows L2 Evl HT LamX PySem.SbE
/-! ### the text -/
def topS (i : Nat) : Stmt := PySem.Challenge.pw_signbook_k12_squares_forged.main.body.getD i (.Pass ⟨0, 0, 0, 0⟩)
def clsB : Stmt → List Stmt
  | .ClassDef (body := b) .. => b
  | _ => []
abbrev s_init_NoPick : Stmt := (clsB (topS 5)).getD 0 (.Pass ⟨0, 0, 0, 0⟩)
theorem sc_init_NoPick : FnScope ["self", "at"] ["self", "at"] (defScope s_init_NoPick) := ⟨rfl, rfl, rfl, by decide +kernel, rfl, by decide +kernel, by decide +kernel⟩
abbrev s_is_whole : Stmt := topS 7
theorem sc_is_whole : FnScope ["thing"] ["thing"] (defScope s_is_whole) := ⟨rfl, rfl, rfl, by decide +kernel, rfl, by decide +kernel, by decide +kernel⟩
abbrev s_is_table : Stmt := topS 10
theorem sc_is_table : FnScope ["thing", "row"] ["thing"] (defScope s_is_table) := ⟨rfl, rfl, rfl, by decide +kernel, rfl, by decide +kernel, by decide +kernel⟩
abbrev s_is_row : Stmt := topS 11
theorem sc_is_row : FnScope ["thing", "entry"] ["thing"] (defScope s_is_row) := ⟨rfl, rfl, rfl, by decide +kernel, rfl, by decide +kernel, by decide +kernel⟩
abbrev s_check_table : Stmt := topS 12
theorem sc_check_table : FnScope ["thing"] ["thing"] (defScope s_check_table) := ⟨rfl, rfl, rfl, by decide +kernel, rfl, by decide +kernel, by decide +kernel⟩
abbrev s_check_pick : Stmt := topS 13
theorem sc_check_pick : FnScope ["thing", "many"] ["thing", "many"] (defScope s_check_pick) := ⟨rfl, rfl, rfl, by decide +kernel, rfl, by decide +kernel, by decide +kernel⟩
abbrev s_is_pick : Stmt := topS 14
theorem sc_is_pick : FnScope ["thing", "many"] ["thing", "many"] (defScope s_is_pick) := ⟨rfl, rfl, rfl, by decide +kernel, rfl, by decide +kernel, by decide +kernel⟩
abbrev s_check_places : Stmt := topS 15
theorem sc_check_places : FnScope ["thing", "many", "ahead", "at", "place"] ["thing", "many"] (defScope s_check_places) := ⟨rfl, rfl, rfl, by decide +kernel, rfl, by decide +kernel, by decide +kernel⟩
abbrev s_is_place : Stmt := topS 16
theorem sc_is_place : FnScope ["thing", "many"] ["thing", "many"] (defScope s_is_place) := ⟨rfl, rfl, rfl, by decide +kernel, rfl, by decide +kernel, by decide +kernel⟩
abbrev s_shape : Stmt := topS 17
theorem sc_shape : FnScope ["table"] ["table"] (defScope s_shape) := ⟨rfl, rfl, rfl, by decide +kernel, rfl, by decide +kernel, by decide +kernel⟩
abbrev s_piece : Stmt := topS 18
theorem sc_piece : FnScope ["table", "rows", "columns", "many", "wide", "row", "column"] ["table", "rows", "columns"] (defScope s_piece) := ⟨rfl, rfl, rfl, by decide +kernel, rfl, by decide +kernel, by decide +kernel⟩
abbrev s_determinant : Stmt := topS 19
theorem sc_determinant : FnScope ["table", "many", "wide"] ["table"] (defScope s_determinant) := ⟨rfl, rfl, rfl, by decide +kernel, rfl, by decide +kernel, by decide +kernel⟩
abbrev s_square_value : Stmt := topS 20
theorem sc_square_value : FnScope ["square", "steps", "corner"] ["square"] (defScope s_square_value) := ⟨rfl, rfl, rfl, by decide +kernel, rfl, by decide +kernel, by decide +kernel⟩
abbrev s_cleared : Stmt := topS 21
theorem sc_cleared : FnScope ["table", "rows", "sign", "corner", "steps", "column", "found", "lead", "others", "at", "row"] ["table"] (defScope s_cleared) := ⟨rfl, rfl, rfl, by decide +kernel, rfl, by decide +kernel, by decide +kernel⟩
abbrev s_cleared_row : Stmt := topS 22
theorem sc_cleared_row : FnScope ["row", "lead", "column", "corner", "entry", "top"] ["row", "lead", "column", "corner"] (defScope s_cleared_row) := ⟨rfl, rfl, rfl, by decide +kernel, rfl, by decide +kernel, by decide +kernel⟩
abbrev s_bad_square : Stmt := topS 24
theorem sc_bad_square : FnScope ["table", "many", "wide", "known", "size", "grown", "rows", "columns", "value"] ["table"] (defScope s_bad_square) := ⟨rfl, rfl, rfl, by decide +kernel, rfl, by decide +kernel, by decide +kernel⟩
abbrev s_is_bad : Stmt := topS 25
theorem sc_is_bad : FnScope ["value"] ["value"] (defScope s_is_bad) := ⟨rfl, rfl, rfl, by decide +kernel, rfl, by decide +kernel, by decide +kernel⟩
abbrev s_unfolded : Stmt := topS 26
theorem sc_unfolded : FnScope ["table", "rows", "columns", "known", "ahead", "last", "total", "at", "column", "entry", "part"] ["table", "rows", "columns", "known"] (defScope s_unfolded) := ⟨rfl, rfl, rfl, by decide +kernel, rfl, by decide +kernel, by decide +kernel⟩
abbrev s_is_bad_square : Stmt := topS 27
theorem sc_is_bad_square : FnScope ["table", "thing", "many", "wide", "rows", "columns", "value"] ["table", "thing"] (defScope s_is_bad_square) := ⟨rfl, rfl, rfl, by decide +kernel, rfl, by decide +kernel, by decide +kernel⟩
abbrev s__law_source_of : Stmt := topS 29
theorem sc__law_source_of : FnScope ["_law_cell"] ["_law_cell"] (defScope s__law_source_of) := ⟨rfl, rfl, rfl, by decide +kernel, rfl, by decide +kernel, by decide +kernel⟩
abbrev s__law_next : Stmt := topS 30
theorem sc__law_next : FnScope ["_law_source", "_law_many", "_law_found", "_law_prime", "_law_figure"] ["_law_source", "_law_many"] (defScope s__law_next) := ⟨rfl, rfl, rfl, by decide +kernel, rfl, by decide +kernel, by decide +kernel⟩
abbrev s__law_one : Stmt := topS 31
theorem sc__law_one : FnScope ["_law_source", "_law_some"] ["_law_source", "_law_some"] (defScope s__law_one) := ⟨rfl, rfl, rfl, by decide +kernel, rfl, by decide +kernel, by decide +kernel⟩
abbrev s__law_cell_at : Stmt := topS 32
theorem sc__law_cell_at : FnScope ["_law_script", "_law_k"] ["_law_script", "_law_k"] (defScope s__law_cell_at) := ⟨rfl, rfl, rfl, by decide +kernel, rfl, by decide +kernel, by decide +kernel⟩
abbrev s__law_mixed : Stmt := topS 33
theorem sc__law_mixed : FnScope ["_law_source", "_law_some", "_law_left", "_law_found"] ["_law_source", "_law_some"] (defScope s__law_mixed) := ⟨rfl, rfl, rfl, by decide +kernel, rfl, by decide +kernel, by decide +kernel⟩
abbrev s__law_ends : Stmt := topS 34
theorem sc__law_ends : FnScope ["_law_source", "_law_many", "_law_places", "_law_found", "_law_k", "_law_two"] ["_law_source", "_law_many"] (defScope s__law_ends) := ⟨rfl, rfl, rfl, by decide +kernel, rfl, by decide +kernel, by decide +kernel⟩
abbrev s__law_net : Stmt := topS 35
theorem sc__law_net : FnScope ["_law_ends_here", "_law_arcs", "_law_far", "_law_k", "_law_begin", "_law_goal", "_law_step", "_law_other", "_law_a", "_law_b"] ["_law_ends_here", "_law_arcs"] (defScope s__law_net) := ⟨rfl, rfl, rfl, by decide +kernel, rfl, by decide +kernel, by decide +kernel⟩
abbrev s__law_net_drawn : Stmt := topS 36
theorem sc__law_net_drawn : FnScope ["_law_source", "_law_many", "_law_wide", "_law_arcs", "_law_k"] ["_law_source", "_law_many", "_law_wide"] (defScope s__law_net_drawn) := ⟨rfl, rfl, rfl, by decide +kernel, rfl, by decide +kernel, by decide +kernel⟩
abbrev s__law_stretches : Stmt := topS 37
theorem sc__law_stretches : FnScope ["_law_source", "_law_many", "_law_wide", "_law_order", "_law_found", "_law_k", "_law_start", "_law_length", "_law_column"] ["_law_source", "_law_many", "_law_wide"] (defScope s__law_stretches) := ⟨rfl, rfl, rfl, by decide +kernel, rfl, by decide +kernel, by decide +kernel⟩
abbrev s__law_swung : Stmt := topS 38
theorem sc__law_swung : FnScope ["_law_source", "_law_grid", "_law_rows", "_law_signs", "_law_found", "_law_row", "_law_sign", "_law_k", "_law_column", "_law_a", "_law_b"] ["_law_source", "_law_grid"] (defScope s__law_swung) := ⟨rfl, rfl, rfl, by decide +kernel, rfl, by decide +kernel, by decide +kernel⟩
abbrev s__law_table : Stmt := topS 39
theorem sc__law_table : FnScope ["_law_source", "_law_most", "_law_many", "_law_wide", "_law_kind", "_law_grid", "_law_k", "_law_row"] ["_law_source", "_law_most"] (defScope s__law_table) := ⟨rfl, rfl, rfl, by decide +kernel, rfl, by decide +kernel, by decide +kernel⟩
abbrev s__law_expanded : Stmt := topS 40
theorem sc__law_expanded : FnScope ["_law_grid", "_law_worth", "_law_j", "_law_entry", "_law_rest", "_law_row"] ["_law_grid"] (defScope s__law_expanded) := ⟨rfl, rfl, rfl, by decide +kernel, rfl, by decide +kernel, by decide +kernel⟩
abbrev s__law_is_pick : Stmt := topS 41
theorem sc__law_is_pick : FnScope ["_law_pick", "_law_many", "_law_k", "_law_place"] ["_law_pick", "_law_many"] (defScope s__law_is_pick) := ⟨rfl, rfl, rfl, by decide +kernel, rfl, by decide +kernel, by decide +kernel⟩
abbrev s__law_due : Stmt := topS 42
theorem sc__law_due : FnScope ["_law_grid", "_law_some_thing", "_law_rows", "_law_columns", "_law_worth", "_law_due_here", "_law_i", "_law_j"] ["_law_grid", "_law_some_thing"] (defScope s__law_due) := ⟨rfl, rfl, rfl, by decide +kernel, rfl, by decide +kernel, by decide +kernel⟩
abbrev s__law_square : Stmt := topS 43
theorem sc__law_square : FnScope ["_law_source", "_law_grid", "_law_size", "_law_rows", "_law_columns", "_law_i", "_law_j"] ["_law_source", "_law_grid"] (defScope s__law_square) := ⟨rfl, rfl, rfl, by decide +kernel, rfl, by decide +kernel, by decide +kernel⟩
abbrev s__law_forged : Stmt := topS 44
theorem sc__law_forged : FnScope ["_law_source", "_law_some_thing", "_law_rows", "_law_columns", "_law_worth", "_law_at", "_law_other", "_law_some"] ["_law_source", "_law_some_thing"] (defScope s__law_forged) := ⟨rfl, rfl, rfl, by decide +kernel, rfl, by decide +kernel, by decide +kernel⟩
abbrev s_law : Stmt := topS 45
theorem sc_law : FnScope ["_law_script", "_law_cell", "_law_source", "_law_grid", "_law_some", "_law_least", "_law_some_thing", "_law_heard", "_law_one_here"] ["_law_script"] (defScope s_law) := ⟨rfl, rfl, rfl, by decide +kernel, rfl, by decide +kernel, by decide +kernel⟩
/-- what the top has written -/
structure Txt (K : PySem.W.Frag) (mg : Str → Option Value) where
  f_init_NoPick : Addr
  fd_init_NoPick : FuncData
  F_init_NoPick : Fun K "__init__" "NoPick.__init__" s_init_NoPick f_init_NoPick fd_init_NoPick
  b_init_NoPick : Binds K fd_init_NoPick ["self", "at"] []
  f_is_whole : Addr
  fd_is_whole : FuncData
  F_is_whole : Fun K "is_whole" "is_whole" s_is_whole f_is_whole fd_is_whole
  g_is_whole : mg "is_whole" = some (.ref f_is_whole)
  k_is_whole : PySem.W.keepIn K (.ref f_is_whole) = true
  b_is_whole : Binds K fd_is_whole ["thing"] []
  f_is_table : Addr
  fd_is_table : FuncData
  F_is_table : Fun K "is_table" "is_table" s_is_table f_is_table fd_is_table
  g_is_table : mg "is_table" = some (.ref f_is_table)
  k_is_table : PySem.W.keepIn K (.ref f_is_table) = true
  b_is_table : Binds K fd_is_table ["thing"] []
  f_is_row : Addr
  fd_is_row : FuncData
  F_is_row : Fun K "is_row" "is_row" s_is_row f_is_row fd_is_row
  g_is_row : mg "is_row" = some (.ref f_is_row)
  k_is_row : PySem.W.keepIn K (.ref f_is_row) = true
  b_is_row : Binds K fd_is_row ["thing"] []
  f_check_table : Addr
  fd_check_table : FuncData
  F_check_table : Fun K "check_table" "check_table" s_check_table f_check_table fd_check_table
  g_check_table : mg "check_table" = some (.ref f_check_table)
  k_check_table : PySem.W.keepIn K (.ref f_check_table) = true
  b_check_table : Binds K fd_check_table ["thing"] []
  f_check_pick : Addr
  fd_check_pick : FuncData
  F_check_pick : Fun K "check_pick" "check_pick" s_check_pick f_check_pick fd_check_pick
  g_check_pick : mg "check_pick" = some (.ref f_check_pick)
  k_check_pick : PySem.W.keepIn K (.ref f_check_pick) = true
  b_check_pick : Binds K fd_check_pick ["thing", "many"] []
  f_is_pick : Addr
  fd_is_pick : FuncData
  F_is_pick : Fun K "is_pick" "is_pick" s_is_pick f_is_pick fd_is_pick
  g_is_pick : mg "is_pick" = some (.ref f_is_pick)
  k_is_pick : PySem.W.keepIn K (.ref f_is_pick) = true
  b_is_pick : Binds K fd_is_pick ["thing", "many"] []
  f_check_places : Addr
  fd_check_places : FuncData
  F_check_places : Fun K "check_places" "check_places" s_check_places f_check_places fd_check_places
  g_check_places : mg "check_places" = some (.ref f_check_places)
  k_check_places : PySem.W.keepIn K (.ref f_check_places) = true
  b_check_places : Binds K fd_check_places ["thing", "many"] []
  f_is_place : Addr
  fd_is_place : FuncData
  F_is_place : Fun K "is_place" "is_place" s_is_place f_is_place fd_is_place
  g_is_place : mg "is_place" = some (.ref f_is_place)
  k_is_place : PySem.W.keepIn K (.ref f_is_place) = true
  b_is_place : Binds K fd_is_place ["thing", "many"] []
  f_shape : Addr
  fd_shape : FuncData
  F_shape : Fun K "shape" "shape" s_shape f_shape fd_shape
  g_shape : mg "shape" = some (.ref f_shape)
  k_shape : PySem.W.keepIn K (.ref f_shape) = true
  b_shape : Binds K fd_shape ["table"] []
  f_piece : Addr
  fd_piece : FuncData
  F_piece : Fun K "piece" "piece" s_piece f_piece fd_piece
  g_piece : mg "piece" = some (.ref f_piece)
  k_piece : PySem.W.keepIn K (.ref f_piece) = true
  b_piece : Binds K fd_piece ["table", "rows", "columns"] []
  f_determinant : Addr
  fd_determinant : FuncData
  F_determinant : Fun K "determinant" "determinant" s_determinant f_determinant fd_determinant
  g_determinant : mg "determinant" = some (.ref f_determinant)
  k_determinant : PySem.W.keepIn K (.ref f_determinant) = true
  b_determinant : Binds K fd_determinant ["table"] []
  f_square_value : Addr
  fd_square_value : FuncData
  F_square_value : Fun K "square_value" "square_value" s_square_value f_square_value fd_square_value
  g_square_value : mg "square_value" = some (.ref f_square_value)
  k_square_value : PySem.W.keepIn K (.ref f_square_value) = true
  b_square_value : Binds K fd_square_value ["square"] []
  f_cleared : Addr
  fd_cleared : FuncData
  F_cleared : Fun K "cleared" "cleared" s_cleared f_cleared fd_cleared
  g_cleared : mg "cleared" = some (.ref f_cleared)
  k_cleared : PySem.W.keepIn K (.ref f_cleared) = true
  b_cleared : Binds K fd_cleared ["table"] []
  f_cleared_row : Addr
  fd_cleared_row : FuncData
  F_cleared_row : Fun K "cleared_row" "cleared_row" s_cleared_row f_cleared_row fd_cleared_row
  g_cleared_row : mg "cleared_row" = some (.ref f_cleared_row)
  k_cleared_row : PySem.W.keepIn K (.ref f_cleared_row) = true
  b_cleared_row : Binds K fd_cleared_row ["row", "lead", "column", "corner"] []
  f_bad_square : Addr
  fd_bad_square : FuncData
  F_bad_square : Fun K "bad_square" "bad_square" s_bad_square f_bad_square fd_bad_square
  g_bad_square : mg "bad_square" = some (.ref f_bad_square)
  k_bad_square : PySem.W.keepIn K (.ref f_bad_square) = true
  b_bad_square : Binds K fd_bad_square ["table"] []
  f_is_bad : Addr
  fd_is_bad : FuncData
  F_is_bad : Fun K "is_bad" "is_bad" s_is_bad f_is_bad fd_is_bad
  g_is_bad : mg "is_bad" = some (.ref f_is_bad)
  k_is_bad : PySem.W.keepIn K (.ref f_is_bad) = true
  b_is_bad : Binds K fd_is_bad ["value"] []
  f_unfolded : Addr
  fd_unfolded : FuncData
  F_unfolded : Fun K "unfolded" "unfolded" s_unfolded f_unfolded fd_unfolded
  g_unfolded : mg "unfolded" = some (.ref f_unfolded)
  k_unfolded : PySem.W.keepIn K (.ref f_unfolded) = true
  b_unfolded : Binds K fd_unfolded ["table", "rows", "columns", "known"] []
  f_is_bad_square : Addr
  fd_is_bad_square : FuncData
  F_is_bad_square : Fun K "is_bad_square" "is_bad_square" s_is_bad_square f_is_bad_square fd_is_bad_square
  g_is_bad_square : mg "is_bad_square" = some (.ref f_is_bad_square)
  k_is_bad_square : PySem.W.keepIn K (.ref f_is_bad_square) = true
  b_is_bad_square : Binds K fd_is_bad_square ["table", "thing"] []
  f__law_source_of : Addr
  fd__law_source_of : FuncData
  F__law_source_of : Fun K "_law_source_of" "_law_source_of" s__law_source_of f__law_source_of fd__law_source_of
  g__law_source_of : mg "_law_source_of" = some (.ref f__law_source_of)
  k__law_source_of : PySem.W.keepIn K (.ref f__law_source_of) = true
  b__law_source_of : Binds K fd__law_source_of ["_law_cell"] []
  f__law_next : Addr
  fd__law_next : FuncData
  F__law_next : Fun K "_law_next" "_law_next" s__law_next f__law_next fd__law_next
  g__law_next : mg "_law_next" = some (.ref f__law_next)
  k__law_next : PySem.W.keepIn K (.ref f__law_next) = true
  b__law_next : Binds K fd__law_next ["_law_source", "_law_many"] []
  f__law_one : Addr
  fd__law_one : FuncData
  F__law_one : Fun K "_law_one" "_law_one" s__law_one f__law_one fd__law_one
  g__law_one : mg "_law_one" = some (.ref f__law_one)
  k__law_one : PySem.W.keepIn K (.ref f__law_one) = true
  b__law_one : Binds K fd__law_one ["_law_source", "_law_some"] []
  f__law_cell_at : Addr
  fd__law_cell_at : FuncData
  F__law_cell_at : Fun K "_law_cell_at" "_law_cell_at" s__law_cell_at f__law_cell_at fd__law_cell_at
  g__law_cell_at : mg "_law_cell_at" = some (.ref f__law_cell_at)
  k__law_cell_at : PySem.W.keepIn K (.ref f__law_cell_at) = true
  b__law_cell_at : Binds K fd__law_cell_at ["_law_script", "_law_k"] []
  f__law_mixed : Addr
  fd__law_mixed : FuncData
  F__law_mixed : Fun K "_law_mixed" "_law_mixed" s__law_mixed f__law_mixed fd__law_mixed
  g__law_mixed : mg "_law_mixed" = some (.ref f__law_mixed)
  k__law_mixed : PySem.W.keepIn K (.ref f__law_mixed) = true
  b__law_mixed : Binds K fd__law_mixed ["_law_source", "_law_some"] []
  f__law_ends : Addr
  fd__law_ends : FuncData
  F__law_ends : Fun K "_law_ends" "_law_ends" s__law_ends f__law_ends fd__law_ends
  g__law_ends : mg "_law_ends" = some (.ref f__law_ends)
  k__law_ends : PySem.W.keepIn K (.ref f__law_ends) = true
  b__law_ends : Binds K fd__law_ends ["_law_source", "_law_many"] []
  f__law_net : Addr
  fd__law_net : FuncData
  F__law_net : Fun K "_law_net" "_law_net" s__law_net f__law_net fd__law_net
  g__law_net : mg "_law_net" = some (.ref f__law_net)
  k__law_net : PySem.W.keepIn K (.ref f__law_net) = true
  b__law_net : Binds K fd__law_net ["_law_ends_here", "_law_arcs"] []
  f__law_net_drawn : Addr
  fd__law_net_drawn : FuncData
  F__law_net_drawn : Fun K "_law_net_drawn" "_law_net_drawn" s__law_net_drawn f__law_net_drawn fd__law_net_drawn
  g__law_net_drawn : mg "_law_net_drawn" = some (.ref f__law_net_drawn)
  k__law_net_drawn : PySem.W.keepIn K (.ref f__law_net_drawn) = true
  b__law_net_drawn : Binds K fd__law_net_drawn ["_law_source", "_law_many", "_law_wide"] []
  f__law_stretches : Addr
  fd__law_stretches : FuncData
  F__law_stretches : Fun K "_law_stretches" "_law_stretches" s__law_stretches f__law_stretches fd__law_stretches
  g__law_stretches : mg "_law_stretches" = some (.ref f__law_stretches)
  k__law_stretches : PySem.W.keepIn K (.ref f__law_stretches) = true
  b__law_stretches : Binds K fd__law_stretches ["_law_source", "_law_many", "_law_wide"] []
  f__law_swung : Addr
  fd__law_swung : FuncData
  F__law_swung : Fun K "_law_swung" "_law_swung" s__law_swung f__law_swung fd__law_swung
  g__law_swung : mg "_law_swung" = some (.ref f__law_swung)
  k__law_swung : PySem.W.keepIn K (.ref f__law_swung) = true
  b__law_swung : Binds K fd__law_swung ["_law_source", "_law_grid"] []
  f__law_table : Addr
  fd__law_table : FuncData
  F__law_table : Fun K "_law_table" "_law_table" s__law_table f__law_table fd__law_table
  g__law_table : mg "_law_table" = some (.ref f__law_table)
  k__law_table : PySem.W.keepIn K (.ref f__law_table) = true
  b__law_table : Binds K fd__law_table ["_law_source", "_law_most"] []
  f__law_expanded : Addr
  fd__law_expanded : FuncData
  F__law_expanded : Fun K "_law_expanded" "_law_expanded" s__law_expanded f__law_expanded fd__law_expanded
  g__law_expanded : mg "_law_expanded" = some (.ref f__law_expanded)
  k__law_expanded : PySem.W.keepIn K (.ref f__law_expanded) = true
  b__law_expanded : Binds K fd__law_expanded ["_law_grid"] []
  f__law_is_pick : Addr
  fd__law_is_pick : FuncData
  F__law_is_pick : Fun K "_law_is_pick" "_law_is_pick" s__law_is_pick f__law_is_pick fd__law_is_pick
  g__law_is_pick : mg "_law_is_pick" = some (.ref f__law_is_pick)
  k__law_is_pick : PySem.W.keepIn K (.ref f__law_is_pick) = true
  b__law_is_pick : Binds K fd__law_is_pick ["_law_pick", "_law_many"] []
  f__law_due : Addr
  fd__law_due : FuncData
  F__law_due : Fun K "_law_due" "_law_due" s__law_due f__law_due fd__law_due
  g__law_due : mg "_law_due" = some (.ref f__law_due)
  k__law_due : PySem.W.keepIn K (.ref f__law_due) = true
  b__law_due : Binds K fd__law_due ["_law_grid", "_law_some_thing"] []
  f__law_square : Addr
  fd__law_square : FuncData
  F__law_square : Fun K "_law_square" "_law_square" s__law_square f__law_square fd__law_square
  g__law_square : mg "_law_square" = some (.ref f__law_square)
  k__law_square : PySem.W.keepIn K (.ref f__law_square) = true
  b__law_square : Binds K fd__law_square ["_law_source", "_law_grid"] []
  f__law_forged : Addr
  fd__law_forged : FuncData
  F__law_forged : Fun K "_law_forged" "_law_forged" s__law_forged f__law_forged fd__law_forged
  g__law_forged : mg "_law_forged" = some (.ref f__law_forged)
  k__law_forged : PySem.W.keepIn K (.ref f__law_forged) = true
  b__law_forged : Binds K fd__law_forged ["_law_source", "_law_some_thing"] []
  f_law : Addr
  fd_law : FuncData
  F_law : Fun K "law" "law" s_law f_law fd_law
  g_law : mg "law" = some (.ref f_law)
  k_law : PySem.W.keepIn K (.ref f_law) = true
  b_law : Binds K fd_law ["_law_script"] []
  t_MOST : Tok
  g_MOST : mg "MOST" = some (.int 8 t_MOST)
  g_combinations : mg "combinations" = some (.type "itertools.combinations")
  n_all : mg "all" = none
  n_bool : mg "bool" = none
  n_enumerate : mg "enumerate" = none
  n_int : mg "int" = none
  n_isinstance : mg "isinstance" = none
  n_len : mg "len" = none
  n_list : mg "list" = none
  n_min : mg "min" = none
  n_range : mg "range" = none
  n_sorted : mg "sorted" = none
  n_str : mg "str" = none
  n_tuple : mg "tuple" = none
  n_zip : mg "zip" = none
  f_SignError : Addr
  g_SignError : mg "SignError" = some (.ref f_SignError)
  f_BadTable : Addr
  g_BadTable : mg "BadTable" = some (.ref f_BadTable)
  f_NoFit : Addr
  g_NoFit : mg "NoFit" = some (.ref f_NoFit)
  f_NoPick : Addr
  g_NoPick : mg "NoPick" = some (.ref f_NoPick)
  k_SignError : PySem.W.keepIn K (.ref f_SignError) = true
  ex_SignError : PySem.W.subIn K (.ref f_SignError) (.type "BaseException") = some true
  tx_SignError : PySem.W.typeIn K (.ref f_SignError) = some (.type "type")
  k_BadTable : PySem.W.keepIn K (.ref f_BadTable) = true
  ex_BadTable : PySem.W.subIn K (.ref f_BadTable) (.type "BaseException") = some true
  tx_BadTable : PySem.W.typeIn K (.ref f_BadTable) = some (.type "type")
  x_BadTable : PySem.W.excIn K f_BadTable aeT "ArithmeticError.__new__" = true
  k_NoFit : PySem.W.keepIn K (.ref f_NoFit) = true
  ex_NoFit : PySem.W.subIn K (.ref f_NoFit) (.type "BaseException") = some true
  tx_NoFit : PySem.W.typeIn K (.ref f_NoFit) = some (.type "type")
  x_NoFit : PySem.W.excIn K f_NoFit aeT "ArithmeticError.__new__" = true
  k_NoPick : PySem.W.keepIn K (.ref f_NoPick) = true
  ex_NoPick : PySem.W.subIn K (.ref f_NoPick) (.type "BaseException") = some true
  tx_NoPick : PySem.W.typeIn K (.ref f_NoPick) = some (.type "type")
  rd_SignError : PySem.W.readsIn K f_SignError (.type "type") = true
  ga_SignError : PySem.W.specialIn K (.ref f_SignError) "__getattribute__" = some (some (.builtin "type.__getattribute__"))
  fi_SignError : PySem.W.findCls K (.ref f_SignError) (.type "type") "__init__" = some (.val (.builtin "ArithmeticError.__init__"))
  own_NoPick : OwnA K f_NoPick f_SignError
  i_NoPick : PySem.W.findIn K (.ref f_NoPick) "__init__" = some (some (.ref f_init_NoPick))
  ty_NoPick : PySem.W.typeIn K (.ref f_init_NoPick) = some (.type "function")
  no_NoPick : PySem.W.findIn K (.ref f_NoPick) "at" = some none
  xf_NoPick : XfC K f_NoPick
  ec_NoPick : ExcC K f_NoPick
  exm_NoPick : PySem.W.exmOne K (.ref f_NoPick) (.ref f_SignError) = some true
  exo_NoPick : PySem.W.exmOne K (.ref f_NoPick) (.ref f_NoPick) = some true
  kit_NoPick_NoPick : PySem.W.kitOne K (.ref f_NoPick) (.ref f_NoPick) = some true
  c_law : Addr
  P_law : Addr
  lkL : ∃ (oc : Value) (od : Option Addr) (kV doc pm : Value) (an : Option Addr) (ct : Value) (osl : Array (Option Value)), fd_law = PySem.W.fnOf "law" "law" (defArgs s_law) (defBody s_law) (defScope s_law) .none kV doc pm an (.ref c_law) ct ∧ K.lookup f_law = some ⟨oc, od, .func fd_law, osl⟩ ∧ PySem.W.codeIn K (.ref c_law) "law" = true
/-! ### numbers -/
def Bd (n : Nat) (i : Int) : Prop := i.natAbs < 2 ^ n
theorem Bd.mono {a b : Nat} {i : Int} (h : Bd a i) (hab : a ≤ b) : Bd b i := Nat.lt_of_lt_of_le h (Nat.pow_le_pow_right (by decide) hab)
theorem Bd.mul {a b : Nat} {i j : Int} (h : Bd a i) (g : Bd b j) : Bd (a + b) (i * j) := wide_lt h g
theorem Bd.add {a : Nat} {i j : Int} (h : Bd a i) (g : Bd a j) : Bd (a + 1) (i + j) := by
  have h1 : i.natAbs < 2 ^ a := h
  have h2 : j.natAbs < 2 ^ a := g
  show (i + j).natAbs < 2 ^ (a + 1)
  rw [Nat.pow_succ]
  omega
theorem Bd.sub {a : Nat} {i j : Int} (h : Bd a i) (g : Bd a j) : Bd (a + 1) (i - j) := by
  have h1 : i.natAbs < 2 ^ a := h
  have h2 : j.natAbs < 2 ^ a := g
  show (i - j).natAbs < 2 ^ (a + 1)
  rw [Nat.pow_succ]
  omega
theorem Bd.neg {a : Nat} {i : Int} (h : Bd a i) : Bd a (-i) := by
  show (-i).natAbs < 2 ^ a
  rw [Int.natAbs_neg]
  exact h
theorem Bd.abs {a : Nat} {i j : Int} (h : Bd a i) (e : j.natAbs ≤ i.natAbs) : Bd a j := Nat.lt_of_le_of_lt e h
theorem Bd.mulOk {a b : Nat} {i j : Int} (h : Bd a i) (g : Bd b j) (h0 : 0 < a := by decide) (h1 : 0 < b := by decide) (hs : a + b ≤ 1000000 := by decide) : CMulW i j := wide_mul h g h0 h1 hs
theorem Bd.divOk {b : Nat} {i j : Int} (h : 0 < j) (g : Bd b j) (h0 : 0 < b := by decide) (h9 : b ≤ 9000 := by decide) : CDivW i j := wide_div h g h0 h9
/-- // by a divisor other than 0 below 2 ^ 9000 -/
def CDivNW (_ j : Int) : Prop := j ≠ 0 ∧ j.natAbs.log2 < 9000
theorem Bd.divNOk {b : Nat} {i j : Int} (h : j ≠ 0) (g : Bd b j) (h0 : 0 < b := by decide) (h9 : b ≤ 9000 := by decide) : CDivNW i j := ⟨h, Nat.lt_of_lt_of_le (PySem.Flt.log2_lt_of h0 g) h9⟩
theorem op_fdivNW {X : Cx} : OpR X (binaryOp .FloorDiv) (rI CDivNW fun i j => .int (i.fdiv j)) := opI fun _ _ _ _ _ _ _ hc q => floordiv_int hc.1 q (.inl (PyProof.noPylong_of_log2 hc.2))
/-! ### heaps -/
/-- all but what stands at s is as it was -/
def ExB (s : Addr) (H H' : Hp) : Prop := ∀ b o, b ≠ s → H b = some o → H' b = some o
theorem ExB.trans {s : Addr} {H H1 H2 : Hp} (a : ExB s H H1) (b : ExB s H1 H2) : ExB s H H2 := fun c o n h => b c o n (a c o n h)
theorem ExB.refl (s : Addr) (H : Hp) : ExB s H H := fun _ _ _ h => h
theorem ExB.of {s : Addr} {H H1 : Hp} (a : Ex H H1) : ExB s H H1 := fun c o _ h => a c o h
theorem ExB.ex {s : Addr} {H H1 H2 : Hp} (a : ExB s H1 H2) (n : H s = none) (e : Ex H H1) : Ex H H2 := fun b o h => a b o (ne_of_none h n) (e b o h)
theorem ExB.upd (s : Addr) (H : Hp) (o : HO) : ExB s H (upd H s o) := fun b u n h => by
  rw [upd_ne n]
  exact h
theorem Ex.updB {s : Addr} {H H' : Hp} {o : HO} (e : Ex H H') : ExB s H (upd H' s o) := fun b u n h => by
  rw [upd_ne n]
  exact e b u h
/-- the source of a law's numbers: n at least the numbers made so far -/
def SrcAt (H : Hp) (s : Addr) (n : Int) : Prop := ∃ p q r : Int, H s = some (.lst [.int p, .int q, .int r]) ∧ 0 ≤ q ∧ q < 2147483647 ∧ 0 ≤ r ∧ r ≤ n
theorem SrcAt.ex {H H' : Hp} {s : Addr} {n : Int} (h : SrcAt H s n) (e : Ex H H') : SrcAt H' s n := by
  obtain ⟨p, q, r, h1, h2⟩ := h
  exact ⟨p, q, r, e _ _ h1, h2⟩
theorem SrcAt.exB {H H' : Hp} {s t : Addr} {n : Int} (h : SrcAt H s n) (e : ExB t H H') (ne : s ≠ t) : SrcAt H' s n := by
  obtain ⟨p, q, r, h1, h2⟩ := h
  exact ⟨p, q, r, e _ _ ne h1, h2⟩
theorem SrcAt.le {H : Hp} {s : Addr} {n m : Int} (h : SrcAt H s n) (e : n ≤ m) : SrcAt H s m := by
  obtain ⟨p, q, r, h1, h2, h3, h4, h5⟩ := h
  exact ⟨p, q, r, h1, h2, h3, h4, by omega⟩
theorem SrcAt.obj {H : Hp} {s : Addr} {n : Int} (h : SrcAt H s n) : ∃ o, H s = some o := by
  obtain ⟨p, q, r, h1, _⟩ := h
  exact ⟨_, h1⟩
/-- classes that is_whole is asked about -/
def tyOk (t : String) : Prop := t = "int" ∨ t = "bool" ∨ t = "NoneType" ∨ t = "str" ∨ t = "tuple" ∨ t = "list" ∨ t = "dict"
theorem ty_int {t : String} (h : tyOk t) : kitB t "int" = some (t == "int" || t == "bool") := by
  rcases h with rfl | rfl | rfl | rfl | rfl | rfl | rfl <;> decide +kernel
theorem ty_bool {t : String} (h : tyOk t) : kitB t "bool" = some (t == "bool") := by
  rcases h with rfl | rfl | rfl | rfl | rfl | rfl | rfl <;> decide +kernel
theorem ty_tuple {t : String} (h : tyOk t) : kitB t "tuple" = some (t == "tuple") := by
  rcases h with rfl | rfl | rfl | rfl | rfl | rfl | rfl <;> decide +kernel
theorem ty_list {t : String} (h : tyOk t) : kitB t "list" = some (t == "list") := by
  rcases h with rfl | rfl | rfl | rfl | rfl | rfl | rfl <;> decide +kernel
theorem prime_at (r : Int) (h : 0 ≤ r) : ∃ p : Int, atI [V.int 2147483647, V.int 2147483629, V.int 2147483587, V.int 2147483579, V.int 2147483563, V.int 2147483549, V.int 2147483543] (r % 7) = some (.int p) ∧ 0 < p ∧ p ≤ 2147483647 := by
  have h1 : 0 ≤ r % 7 := Int.emod_nonneg _ (by decide)
  have h2 : r % 7 < 7 := Int.emod_lt_of_pos _ (by decide)
  generalize r % 7 = k at h1 h2
  have hk : k = 0 ∨ k = 1 ∨ k = 2 ∨ k = 3 ∨ k = 4 ∨ k = 5 ∨ k = 6 := by omega
  rcases hk with rfl | rfl | rfl | rfl | rfl | rfl | rfl <;> exact ⟨_, rfl, by decide, by decide⟩
/-! ### data, lists, tables -/
mutual
theorem dp_mono {K : PySem.W.Frag} {H H' : Hp} (h : ∀ a xs, SqL K H a xs → SqL K H' a xs) (h2 : ∀ a xs, SqT K H a xs → SqT K H' a xs) : ∀ {v : V} {d : PyData}, Dp K H v d → Dp K H' v d
  | _, _, .non => .non
  | _, _, .bl b => .bl b
  | _, _, .int i => .int i
  | _, _, .str x => .str x
  | _, _, .lst a b => .lst (h _ _ a) (dpAll_mono h h2 b)
  | _, _, .tup a b => .tup (h2 _ _ a) (dpAll_mono h h2 b)
theorem dpAll_mono {K : PySem.W.Frag} {H H' : Hp} (h : ∀ a xs, SqL K H a xs → SqL K H' a xs) (h2 : ∀ a xs, SqT K H a xs → SqT K H' a xs) : ∀ {vs : List V} {ds : List PyData}, DpAll K H vs ds → DpAll K H' vs ds
  | _, _, .nil => .nil
  | _, _, .cons a b => .cons (dp_mono h h2 a) (dpAll_mono h h2 b)
end
theorem dp_ex {K : PySem.W.Frag} {H H' : Hp} (e : Ex H H') {v : V} {d : PyData} (h : Dp K H v d) : Dp K H' v d := dp_mono (fun _ _ => ex_l e) (fun _ _ => ex_t e) h
theorem dpAll_ex {K : PySem.W.Frag} {H H' : Hp} (e : Ex H H') {v : List V} {d : List PyData} (h : DpAll K H v d) : DpAll K H' v d := dpAll_mono (fun _ _ => ex_l e) (fun _ _ => ex_t e) h
def NiceD (d : PyData) : Prop := d.canLay0 = true ∧ d.depth ≤ 8
/-- v is data, whatever becomes of the object at s -/
def DatV (K : PySem.W.Frag) (H : Hp) (s : Addr) (v : V) : Prop := ∀ H', ExB s H H' → ∃ d, Dp K H' v d ∧ NiceD d
theorem DatV.exB {K : PySem.W.Frag} {H H' : Hp} {s : Addr} {v : V} (h : DatV K H s v) (e : ExB s H H') : DatV K H' s v := fun H2 e2 => h H2 (e.trans e2)
theorem datv_int {K : PySem.W.Frag} {H : Hp} {s : Addr} (i : Int) : DatV K H s (.int i) := fun _ _ => ⟨_, .int i, rfl, Nat.zero_le _⟩
theorem datv_pair {K : PySem.W.Frag} {H : Hp} {s a : Addr} {x y : Int} (h : H a = some (.tup [.int x, .int y])) (n : a ≠ s) : DatV K H s (.ref a) := fun H' e =>
  ⟨_, .tup (SqT.of (e _ _ n h)) (.cons (.int x) (.cons (.int y) .nil)), rfl, Nat.le_of_ble_eq_true rfl⟩
theorem dpAll_ints {K : PySem.W.Frag} {H : Hp} : ∀ ns : List Int, DpAll K H (ns.map V.int) (ns.map PyData.int)
  | [] => .nil
  | n :: r => .cons (.int n) (dpAll_ints r)
theorem canLay_ints : ∀ ns : List Int, PyData.canLayAll0 (ns.map PyData.int) = true
  | [] => rfl
  | n :: r => by
    show (true && PyData.canLayAll0 (r.map PyData.int)) = true
    rw [canLay_ints r]
    rfl
theorem depth_ints : ∀ ns : List Int, PyData.depthAll (ns.map PyData.int) = 0
  | [] => rfl
  | n :: r => by
    show max 0 (PyData.depthAll (r.map PyData.int)) = 0
    rw [depth_ints r]
    rfl
theorem datv_row {K : PySem.W.Frag} {H : Hp} {s a : Addr} {ns : List Int} (h : H a = some (.lst (ns.map V.int))) (n : a ≠ s) : DatV K H s (.ref a) := fun H' e =>
  ⟨_, .lst (SqL.of (e _ _ n h)) (dpAll_ints ns), canLay_ints ns, by
    show PyData.depthAll (ns.map PyData.int) + 1 ≤ 8
    rw [depth_ints]
    decide⟩
theorem dat_all {K : PySem.W.Frag} {H : Hp} {s : Addr} : ∀ {xs : List V}, (∀ v ∈ xs, DatV K H s v) → ∃ ds, DpAll K H xs ds ∧ PyData.canLayAll0 ds = true ∧ PyData.depthAll ds ≤ 8
  | [], _ => ⟨[], .nil, rfl, by decide⟩
  | x :: xs, h => by
    obtain ⟨d, h1, h2, h3⟩ := h x (List.mem_cons_self ..) H (ExB.refl _ _)
    obtain ⟨ds, g1, g2, g3⟩ := dat_all (xs := xs) fun v hv => h v (List.mem_cons_of_mem _ hv)
    refine ⟨d :: ds, .cons h1 g1, ?_, ?_⟩
    · show (d.canLay0 && PyData.canLayAll0 ds) = true
      rw [h2, g2]
      rfl
    · show max d.depth (PyData.depthAll ds) ≤ 8
      omega
theorem shaped_list {ds : List PyData} (h : PyData.canLayAll0 ds = true) (h2 : PyData.depthAll ds ≤ 60) : SeqAt.shaped (.list ds) = true := by
  unfold SeqAt.shaped
  have e1 : (PyData.list ds).canLay0 = true := h
  have e2 : (PyData.list ds).depth ≤ 64 := by
    show PyData.depthAll ds + 1 ≤ 64
    omega
  rw [e1, decide_eq_true e2]
  rfl
theorem eqv_nil (ds : List PyData) : PyData.eqv (.list ds) (.list []) = ds.isEmpty := by
  cases ds <;> rfl
theorem Paired.perm {α β : Type} {R : α → β → Prop} {xs xs' : List α} (hp : xs'.Perm xs) : ∀ {ys : List β}, Paired R xs ys → ∃ ys', ys'.Perm ys ∧ Paired R xs' ys' := by
  induction hp with
  | nil => intro ys h; exact ⟨ys, .refl _, h⟩
  | cons x _ ih =>
    intro ys h
    cases h with
    | cons r t =>
      obtain ⟨ys', p, q⟩ := ih t
      exact ⟨_ :: ys', p.cons _, .cons r q⟩
  | swap x y l =>
    intro ys h
    cases h with
    | cons r t =>
      cases t with
      | cons r2 t2 => exact ⟨_, List.Perm.swap .., .cons r2 (.cons r t2)⟩
  | trans _ _ ih1 ih2 =>
    intro ys h
    obtain ⟨y1, p1, q1⟩ := ih2 h
    obtain ⟨y2, p2, q2⟩ := ih1 q1
    exact ⟨y2, p2.trans p1, q2⟩
theorem fresh_B {s p : Addr} {H H' : Hp} (e : ExB s H H') (hp : H' p = none) (hs : ∃ o, H' s = some o) : H p = none := by
  cases q : H p with
  | none => rfl
  | some o =>
    by_cases h : p = s
    · subst h
      obtain ⟨o', ho'⟩ := hs
      rw [ho'] at hp
      cases hp
    · rw [e p o h q] at hp
      cases hp
theorem SrcAt.ne {H : Hp} {s p : Addr} {n : Int} (h : SrcAt H s n) (hp : H p = none) : p ≠ s := by
  intro e
  subst e
  obtain ⟨o, ho⟩ := h.obj
  rw [ho] at hp
  cases hp
theorem SrcAt.neT {H : Hp} {s p : Addr} {n : Int} {xs : List V} (h : SrcAt H s n) (hp : H p = some (.tup xs)) : p ≠ s := by
  intro e
  subst e
  obtain ⟨_, _, _, ho, _⟩ := h
  rw [ho] at hp
  cases hp
theorem ExB.l {K : PySem.W.Frag} {s a : Addr} {H H' : Hp} {xs : List V} (e : ExB s H H') (n : a ≠ s) (h : SqL K H a xs) : SqL K H' a xs := by
  rcases h with (h | ⟨o, h⟩) | h
  · exact .inl (.inl (e _ _ n h))
  · exact .inl (.inr ⟨o, e _ _ n h⟩)
  · exact .inr h
theorem seqIx {i n : Int} {k : Nat} (h0 : 0 ≤ i) (h1 : i < (k : Int)) : seqIndex? i k = some i.toNat := by
  unfold seqIndex?
  split <;> simp_all <;> omega
theorem erase_perm {α : Type} : ∀ {ls : List α} {k : Nat} {y : α}, ls[k]? = some y → (y :: ls.eraseIdx k).Perm ls
  | [], _, _, h => by simp at h
  | a :: l, 0, y, h => by
    have e := Option.some.inj h
    subst e
    exact .refl _
  | a :: l, k + 1, y, h => (List.Perm.swap a y _).trans ((erase_perm (ls := l) (k := k) h).cons a)
theorem perm_pop {α : Type} {fs ls : List α} {k : Nat} {y : α} (h : ls[k]? = some y) : ((fs ++ [y]) ++ ls.eraseIdx k).Perm (fs ++ ls) := by
  have h1 := erase_perm h
  rw [List.append_assoc]
  exact List.Perm.append_left fs h1
/-- the table at p: its rows at the places as -/
def RowsAt (H : Hp) : List Addr → List (List Int) → Prop := Paired fun a r => H a = some (.lst (r.map V.int))
def Tab (H : Hp) (p : Addr) (as : List Addr) (rows : List (List Int)) : Prop := H p = some (.lst (as.map V.ref)) ∧ RowsAt H as rows
theorem RowsAt.ex {H H' : Hp} (e : Ex H H') : ∀ {as : List Addr} {rows : List (List Int)}, RowsAt H as rows → RowsAt H' as rows
  | _, _, .nil => .nil
  | _, _, .cons h t => .cons (e _ _ h) (RowsAt.ex e t)
theorem Tab.ex {H H' : Hp} {p : Addr} {as : List Addr} {rows : List (List Int)} (h : Tab H p as rows) (e : Ex H H') : Tab H' p as rows := ⟨e _ _ h.1, h.2.ex e⟩
/-! ### edges -/
def EdgesAt (H : Hp) : List Addr → List (Int × Int) → Prop := Paired fun a e => H a = some (.tup [.int e.1, .int e.2])
theorem paired_imp {α β : Type} {R R' : α → β → Prop} (h : ∀ a b, R a b → R' a b) : ∀ {xs : List α} {ys : List β}, Paired R xs ys → Paired R' xs ys
  | _, _, .nil => .nil
  | _, _, .cons r t => .cons (h _ _ r) (paired_imp h t)
theorem EdgesAt.mono {H H' : Hp} {as : List Addr} {es : List (Int × Int)} (h : ∀ a xs, H a = some (.tup xs) → H' a = some (.tup xs)) (x : EdgesAt H as es) : EdgesAt H' as es := paired_imp (fun _ _ r => h _ _ r) x
theorem tups_B {H H' : Hp} {s : Addr} {n : Int} (hs : SrcAt H s n) (e : ExB s H H') : ∀ a xs, H a = some (.tup xs) → H' a = some (.tup xs) := fun a _ h => e a _ (hs.neT h) h
theorem tups_E {H H' : Hp} (e : Ex H H') : ∀ a xs, H a = some (.tup xs) → H' a = some (.tup xs) := fun a _ h => e a _ h
theorem tups_U {H : Hp} {l : Addr} {xs : List V} {o : HO} (h : H l = some (.lst xs)) : ∀ a ys, H a = some (.tup ys) → upd H l o a = some (.tup ys) := fun a ys g => by
  rw [upd_ne (ne_of g h (by intro z; cases z))]
  exact g
def Conn (es : List (Int × Int)) (m : Int) : Prop := ∀ S : Int → Bool, (∀ e ∈ es, S e.1 = S e.2) → ∀ a b, 0 ≤ a → a ≤ m → 0 ≤ b → b ≤ m → S a = S b
theorem Conn.perm {es es' : List (Int × Int)} {m : Int} (h : Conn es m) (p : es'.Perm es) : Conn es' m := fun S hS => h S fun e he => hS e (p.mem_iff.mpr he)
def EdgeTree (pl : List Int) (es : List (Int × Int)) : Prop := ∀ j, j < es.length → ∃ i a b, i ≤ j ∧ pl[i]? = some a ∧ pl[j + 1]? = some b ∧ (es[j]? = some (a, b) ∨ es[j]? = some (b, a))
theorem EdgeTree.more {pl : List Int} {es : List (Int × Int)} {e : Int × Int} {i : Nat} {a b : Int} (h : EdgeTree pl es) (hi : i ≤ es.length) (ha : pl[i]? = some a) (hb : pl[es.length + 1]? = some b) (he : e = (a, b) ∨ e = (b, a)) : EdgeTree pl (es ++ [e]) := by
  intro j hj
  rw [List.length_append] at hj
  have hj' : j < es.length + 1 := hj
  by_cases h1 : j < es.length
  · obtain ⟨i', a', b', x1, x2, x3, x4⟩ := h j h1
    refine ⟨i', a', b', x1, x2, x3, ?_⟩
    rw [List.getElem?_append_left h1]
    exact x4
  · have h2 : j = es.length := by omega
    subst h2
    refine ⟨i, a, b, hi, ha, hb, ?_⟩
    rw [List.getElem?_append_right (Nat.le_refl _), Nat.sub_self]
    rcases he with rfl | rfl
    · exact .inl rfl
    · exact .inr rfl
theorem EdgeTree.conn {pl : List Int} {es : List (Int × Int)} {m : Nat} (h : EdgeTree pl es) (hl : es.length = m) (hp : pl.length = m + 1) (hall : ∀ a : Int, 0 ≤ a → a ≤ m → a ∈ pl) : Conn es m := by
  intro S hS
  have key : ∀ j : Nat, ∀ j' : Nat, j' ≤ j → ∀ a, pl[j']? = some a → ∀ z, pl[0]? = some z → S a = S z := by
    intro j
    induction j with
    | zero =>
      intro j' hj' a ha z hz
      have : j' = 0 := by omega
      subst this
      rw [hz] at ha
      rw [Option.some.inj ha]
    | succ j ih =>
      intro j' hj' a ha z hz
      by_cases h1 : j' ≤ j
      · exact ih j' h1 a ha z hz
      · have h2 : j' = j + 1 := by omega
        subst h2
        have hlt : j + 1 < pl.length := (List.getElem?_eq_some_iff.mp ha).1
        obtain ⟨i, x, y, hi, hx, hy, he⟩ := h j (by omega)
        rw [ha] at hy
        have ey := Option.some.inj hy
        subst ey
        have hSe : S x = S a := by
          rcases he with he | he
          · exact hS (x, a) (List.mem_of_getElem? he)
          · exact (hS (a, x) (List.mem_of_getElem? he)).symm
        rw [← hSe]
        exact ih i hi x hx z hz
  intro a b ha ha' hb hb'
  obtain ⟨i, hi⟩ := List.getElem?_of_mem (hall a ha ha')
  obtain ⟨j, hj⟩ := List.getElem?_of_mem (hall b hb hb')
  have hz : ∃ z, pl[0]? = some z := ⟨_, List.getElem?_eq_getElem (by omega)⟩
  obtain ⟨z, hz⟩ := hz
  rw [key i i (Nat.le_refl _) a hi z hz, key j j (Nat.le_refl _) b hj z hz]
theorem paired_map {α β : Type} {R : α → β → Prop} (f : β → α) (h : ∀ b, R (f b) b) : ∀ ys : List β, Paired R (ys.map f) ys
  | [] => .nil
  | b :: r => .cons (h b) (paired_map f h r)
theorem paired_eq_map {α β : Type} {f : β → α} : ∀ {xs : List α} {ys : List β}, Paired (fun x y => x = f y) xs ys → xs = ys.map f
  | _, _, .nil => rfl
  | _, _, .cons r t => by rw [r, paired_eq_map t]; rfl
theorem perm_ints {ys : List V} {ns : List Int} (h : ys.Perm (ns.map V.int)) : ∃ pl : List Int, ys = pl.map V.int ∧ pl.Perm ns := by
  obtain ⟨pl, p, q⟩ := Paired.perm (R := fun (x : V) y => x = V.int y) h (paired_map V.int (fun _ => rfl) ns)
  exact ⟨pl, paired_eq_map q, p⟩
theorem perm_refs {β : Type} {R : Addr → β → Prop} {ys : List V} {as : List Addr} {es : List β} (h : ys.Perm (as.map V.ref)) (hx : Paired R as es) : ∃ (as' : List Addr) (es' : List β), ys = as'.map V.ref ∧ es'.Perm es ∧ Paired R as' es' ∧ as'.Perm as := by
  obtain ⟨as', p, q⟩ := Paired.perm (R := fun (x : V) y => x = V.ref y) h (paired_map V.ref (fun _ => rfl) as)
  obtain ⟨es', p2, q2⟩ := Paired.perm p hx
  exact ⟨as', es', paired_eq_map q, p2, q2, p⟩
def numsTo (m : Nat) : List Int := (List.range m).map fun i : Nat => (i : Int)
theorem rgV_nums (m : Int) : rgV 0 m = (numsTo m.toNat).map V.int := by
  unfold rgV numsTo
  rw [List.map_map, Int.sub_zero]
  refine List.map_congr_left fun i _ => ?_
  show V.int (0 + (i : Int)) = V.int (i : Int)
  rw [Int.zero_add]
theorem mem_numsTo {m : Nat} {a : Int} : a ∈ numsTo m ↔ 0 ≤ a ∧ a < m := by
  unfold numsTo
  rw [List.mem_map]
  constructor
  · rintro ⟨i, hi, rfl⟩
    have := List.mem_range.mp hi
    omega
  · rintro ⟨h0, h1⟩
    exact ⟨a.toNat, List.mem_range.mpr (by omega), by omega⟩
theorem numsTo_length (m : Nat) : (numsTo m).length = m := by
  unfold numsTo
  rw [List.length_map, List.length_range]
theorem paired_snoc {α β : Type} {R : α → β → Prop} {a : α} {b : β} {xs : List α} {ys : List β} (h : Paired R xs ys) (r : R a b) : Paired R (xs ++ [a]) (ys ++ [b]) := Paired.snoc h r
theorem paired_mem {α β : Type} {R : α → β → Prop} : ∀ {xs : List α} {ys : List β} {x : α}, Paired R xs ys → x ∈ xs → ∃ y, y ∈ ys ∧ R x y
  | _, _, _, .nil, h => by simp at h
  | _, _, x, .cons (a := a) r t, h => by
    rcases List.mem_cons.mp h with e | h
    · subst e
      exact ⟨_, List.mem_cons_self .., r⟩
    · obtain ⟨y, hy, hr⟩ := paired_mem t h
      exact ⟨y, List.mem_cons_of_mem _ hy, hr⟩
/-! ### loops and comprehensions over more -/
theorem for_enum {K : PySem.W.Frag} {a : Addr} {xs : List V} {g : TG} {tb : TS} {D : Ends} {σ : L2.St} {H : Hp} (Pv : Nat → L2.St → Hp → Prop) (h0 : Pv 0 σ H) (hq : ∀ i σ H, Pv i σ H → SqL K H a xs)
    (hs : ∀ (i : Nat) (x : V) (T : Addr) (σ : L2.St) (H : Hp), xs[i]? = some x → Pv i σ H → H T = none → g (.ref T) σ (upd H T (.tup [.int (i : Nat), x])) fun σ2 H2 => tb { D with nx := Pv (i + 1), ct := Pv (i + 1), bk := D.nx } σ2 H2) (hd : ∀ σ H, Pv xs.length σ H → D.nx σ H) :
    ∃ W : Nat → Nat → L2.St → Hp → Prop, (∃ m, W 0 m σ H) ∧ ∀ i m σ H, W i m σ H →
      ((Ite K a).stop i H ∧ D.nx σ H) ∨ ((Ite K a).go i H ∧ ∃ N : L2.St → Hp → Prop, (∀ σ' H', N σ' H' → ∃ m', m' < m ∧ W (i + 1) m' σ' H') ∧ ∀ v H', (Ite K a).yld i H v H' → g v σ H' fun σ2 H2 => tb { D with nx := N, ct := N, bk := D.nx } σ2 H2) := by
  refine ⟨fun i m σ H => m = xs.length - i ∧ i ≤ xs.length ∧ Pv i σ H, ⟨xs.length, rfl, Nat.zero_le _, h0⟩, ?_⟩
  rintro i m σ H ⟨rfl, hi, p⟩
  have qx := hq i σ H p
  by_cases hlt : i < xs.length
  · have hx : xs[i]? = some xs[i] := List.getElem?_eq_getElem hlt
    refine .inr ⟨⟨xs, _, qx, hx⟩, Pv (i + 1), fun σ' H' p' => ⟨xs.length - (i + 1), by omega, rfl, hlt, p'⟩, fun v H' y => ?_⟩
    obtain ⟨T, x', rfl, hT, rfl, f1⟩ := y
    exact hs i x' T σ H (f1 xs qx) p hT
  · have e : i = xs.length := by omega
    subst e
    exact .inl ⟨⟨xs, qx, Nat.le_refl _⟩, hd σ H p⟩
theorem lc_zip {K : PySem.W.Frag} {a b : Addr} {xs ys : List V} {g : TG} {tt : TT} {te : TE} {vs : List Nat} {σ : L2.St} {H1 : Hp} {D : Addr} {Qd : Hp → Prop} (hl : xs.length = ys.length) (Pv : Nat → Hp → Prop) (h0 : Pv 0 (upd H1 D (.lst []))) (hq : ∀ i H, Pv i H → SqL K H a xs ∧ SqL K H b ys)
    (hs : ∀ (i : Nat) (x y : V) (T : Addr) (H : Hp), xs[i]? = some x → ys[i]? = some y → Pv i H → H T = none → g (.ref T) (wipe σ vs) (upd H T (.tup [x, y])) fun σ2 H2 => wipe σ2 vs = wipe σ vs ∧ tt σ2 H2 fun b H3 =>
      if b = true then te σ2 H3 fun y H4 => ∃ acc, H4 D = some (.lst acc) ∧ acc.length < sizeLine ∧ Pv (i + 1) (upd H4 D (.lst (acc ++ [y]))) else Pv (i + 1) H3) (hd : ∀ H, Pv xs.length H → Qd H) :
    ∃ W : Nat → Nat → Hp → Prop, (∃ m, W 0 m (upd H1 D (.lst []))) ∧ ∀ i m H, W i m H →
      ((Itz K a b).stop i H ∧ Qd H) ∨ ((Itz K a b).go i H ∧ ∃ Nx : Hp → Prop, (∀ H', Nx H' → ∃ m', m' < m ∧ W (i + 1) m' H') ∧ ∀ x H', (Itz K a b).yld i H x H' → g x (wipe σ vs) H' fun σ2 H2 => wipe σ2 vs = wipe σ vs ∧ tt σ2 H2 fun b H3 =>
        if b = true then te σ2 H3 fun y H4 => ∃ acc, H4 D = some (.lst acc) ∧ acc.length < sizeLine ∧ Nx (upd H4 D (.lst (acc ++ [y]))) else Nx H3) := by
  refine ⟨fun i m H => m = xs.length - i ∧ i ≤ xs.length ∧ Pv i H, ⟨xs.length, rfl, Nat.zero_le _, h0⟩, ?_⟩
  rintro i m H ⟨rfl, hi, p⟩
  obtain ⟨qx, qy⟩ := hq i H p
  by_cases hlt : i < xs.length
  · have hx : xs[i]? = some xs[i] := List.getElem?_eq_getElem hlt
    have hlt2 : i < ys.length := by omega
    have hy : ys[i]? = some ys[i] := List.getElem?_eq_getElem hlt2
    refine .inr ⟨⟨xs, ys, _, _, qx, qy, hx, hy⟩, Pv (i + 1), fun H' p' => ⟨xs.length - (i + 1), by omega, rfl, hlt, p'⟩, fun v H' y => ?_⟩
    obtain ⟨T, x', y', rfl, hT, rfl, f1, f2⟩ := y
    exact hs i x' y' T H (f1 xs qx) (f2 ys qy) p hT
  · have e : i = xs.length := by omega
    subst e
    exact .inl ⟨⟨xs, ys, qx, qy, Or.inl (Nat.le_refl _)⟩, hd H p⟩
abbrev g2 (K : PySem.W.Frag) (j1 j2 : Nat) : TG := gTup K 2 (gCons (gName j1) (gCons (gName j2) gNil))
theorem take_snoc {α : Type} {l : List α} {i : Nat} {x : α} (h : l[i]? = some x) : l.take (i + 1) = l.take i ++ [x] := by
  rw [List.take_add_one, h]
  rfl
/-- [f(x, y) for x, y in zip(xs, ys)] -/
theorem el_zip {K : PySem.W.Frag} {ta : TA} {te : TE} {vs : List Nat} {j1 j2 : Nat} {σ : L2.St} {H : Hp} {a b : Addr} {xs ys : List Int} (f : Int → Int → Int) (h : EvA ta σ H [.ref a, .ref b]) (hx : SqL K H a (xs.map V.int)) (hy : SqL K H b (ys.map V.int)) (hl : xs.length = ys.length) (hz : xs.length ≤ 1000)
    (hw : ∀ u v, wipe (((wipe σ vs).set j1 (some u)).set j2 (some v)) vs = wipe σ vs)
    (he : ∀ x y H1, x ∈ xs → y ∈ ys → Ex H H1 → Ev te (((wipe σ vs).set j1 (some (.int x))).set j2 (some (.int y))) H1 (.int (f x y))) : EvL (tLc (iZip K ta) (g2 K j1 j2) tYes te vs) σ H ((List.zipWith f xs ys).map V.int) := fun H0 e Q q => h H0 e _ fun H1 e1 => by
  have hx1 := ex_l (e.trans e1) hx
  have hy1 := ex_l (e.trans e1) hy
  refine ⟨a, b, _, _, rfl, hx1, hy1, fun D hD => ?_⟩
  refine lc_zip (xs := xs.map V.int) (ys := ys.map V.int) (by rw [List.length_map, List.length_map]; exact hl) (fun i H' => Ex H1 H' ∧ H' D = some (.lst (((List.zipWith f xs ys).take i).map V.int))) ⟨Ex.new hD, upd_same⟩ (fun i H' p => ⟨ex_l p.1 hx1, ex_l p.1 hy1⟩) (fun i x y T H' gx gy p nT => ?_) (fun H' p => ?_)
  · obtain ⟨p1, p2⟩ := p
    rw [List.getElem?_map] at gx gy
    obtain ⟨x', hx', rfl⟩ := Option.map_eq_some_iff.mp gx
    obtain ⟨y', hy', rfl⟩ := Option.map_eq_some_iff.mp gy
    refine ⟨T, _, rfl, SqT.of upd_same, rfl, _, _, rfl, _, _, rfl, rfl, hw _ _, ?_⟩
    show te _ _ _
    have xT : Ex H' (upd H' T (.tup [.int x', .int y'])) := Ex.new nT
    refine he x' y' H (List.mem_of_getElem? hx') (List.mem_of_getElem? hy') (Ex.refl H) _ ((e.trans e1).trans (p1.trans xT)) _ fun H4 e4 => ?_
    refine ⟨_, e4 _ _ (xT _ _ p2), ?_, Ex.mut ((p1.trans xT).trans e4) hD, ?_⟩
    · rw [List.length_map, List.length_take]
      have := (List.getElem?_eq_some_iff.mp hx').1
      exact small1000 (by omega)
    · have hzz : (List.zipWith f xs ys)[i]? = some (f x' y') := by
        rw [List.getElem?_zipWith, hx', hy']
      rw [upd_same, take_snoc hzz, List.map_append]
      rfl
  · obtain ⟨p1, p2⟩ := p
    rw [List.take_of_length_le (by rw [List.length_zipWith, List.length_map]; omega)] at p2
    exact q D H' (fresh_back e1 hD) (e1.trans p1) p2
/-- [g(x, y) for x, y in qs], qs a list of pairs -/
theorem el_pairs {K : PySem.W.Frag} {n : Nat} {te : TE} {vs : List Nat} {j1 j2 : Nat} {σ : L2.St} {H : Hp} {a : Addr} {bs : List Addr} {qs : List (Int × Int)} (f : Int × Int → Int) (hσ : σ[n]? = some (some (.ref a))) (hx : H a = some (.lst (bs.map V.ref))) (hE : EdgesAt H bs qs) (hz : qs.length ≤ 1000)
    (hw : ∀ u v, wipe (((wipe σ vs).set j1 (some u)).set j2 (some v)) vs = wipe σ vs)
    (he : ∀ e H1, e ∈ qs → Ex H H1 → Ev te (((wipe σ vs).set j1 (some (.int e.1))).set j2 (some (.int e.2))) H1 (.int (f e))) : EvL (tLc (iList K (tVar n)) (g2 K j1 j2) tYes te vs) σ H ((qs.map f).map V.int) := fun H1 e1 Q q => by
  have hx1 := e1 _ _ hx
  have el : bs.length = qs.length := Paired.length hE
  refine ⟨_, hσ, a, rfl, ⟨_, SqL.of hx1⟩, fun D hD => ?_⟩
  refine lc_list (K := K) (a := a) (xs := bs.map V.ref) (fun i H' => Ex H1 H' ∧ H' D = some (.lst (((qs.map f).take i).map V.int))) ⟨Ex.new hD, upd_same⟩ (fun i H' _ p => SqL.of (p.1 _ _ hx1)) (fun i x H' gx p => ?_) (fun H' p => ?_)
  · obtain ⟨p1, p2⟩ := p
    rw [List.getElem?_map] at gx
    obtain ⟨b, hb, rfl⟩ := Option.map_eq_some_iff.mp gx
    obtain ⟨ed, hed, hr⟩ := paired_get hE hb
    refine ⟨b, _, rfl, SqT.of ((e1.trans p1) _ _ hr), rfl, _, _, rfl, _, _, rfl, rfl, hw _ _, ?_⟩
    show te _ _ _
    refine he ed H (List.mem_of_getElem? hed) (Ex.refl H) _ (e1.trans p1) _ fun H4 e4 => ?_
    refine ⟨_, e4 _ _ p2, ?_, Ex.mut (p1.trans e4) hD, ?_⟩
    · rw [List.length_map, List.length_take, List.length_map]
      exact small1000 (by omega)
    · have hzz : (qs.map f)[i]? = some (f ed) := by rw [List.getElem?_map, hed]; rfl
      rw [upd_same, take_snoc hzz, List.map_append]
      rfl
  · obtain ⟨p1, p2⟩ := p
    rw [List.take_of_length_le (by rw [List.length_map, List.length_map]; omega)] at p2
    exact q D H' hD p1 p2
/-- [[..] for i in range(m)]: new rows -/
theorem lc_rows {ta : TA} {te : TE} {vs : List Nat} {j : Nat} {σ : L2.St} {H : Hp} {Q : VK} {m : Nat} (F : Nat → List Int) (h : EvA ta σ H [.int (m : Int)]) (hm : m ≤ 1000) (hw : ∀ u, wipe ((wipe σ vs).set j (some u)) vs = wipe σ vs)
    (he : ∀ i H1, Ex H H1 → i < m → EvL te ((wipe σ vs).set j (some (.int (i : Int)))) H1 ((F i).map V.int))
    (k : ∀ p as H2, H p = none → (∀ a ∈ as, H a = none) → as.Nodup → p ∉ as → Ex H H2 → Tab H2 p as ((List.range m).map F) → Q (.ref p) H2) : tLc (iRng1 ta) (gName j) tYes te vs σ H Q := by
  refine h H (Ex.refl H) _ fun H1 e1 => ⟨(m : Int), rfl, by omega, by omega, fun D hD => ?_⟩
  have hDH : H D = none := fresh_back e1 hD
  refine lc_range (lo := 0) (n := (m : Int).toNat) (fun i H' => ∃ as, Ex H1 H' ∧ H' D = some (.lst (as.map V.ref)) ∧ RowsAt H' as ((List.range i).map F) ∧ (∀ a ∈ as, H a = none) ∧ as.Nodup ∧ D ∉ as) ⟨[], Ex.new hD, upd_same, .nil, fun a ha => by simp at ha, List.nodup_nil, by simp⟩ (fun i H' hi p => ?_) (fun H' p => ?_)
  · obtain ⟨as, p1, p2, p3, p4, p5, p6⟩ := p
    have el : as.length = i := by rw [Paired.length p3, List.length_map, List.length_range]
    have e0 : (0 : Int) + (i : Int) = (i : Int) := Int.zero_add _
    refine ⟨hw _, ?_⟩
    show te ((wipe σ vs).set j (some (.int ((0 : Int) + (i : Int))))) H' _
    rw [e0]
    refine he i H' (e1.trans p1) (by omega) H' (Ex.refl _) _ fun r H4 nr e4 hr => ?_
    have nrD : r ≠ D := fun z => by
      rw [z, p2] at nr
      cases nr
    refine ⟨_, e4 _ _ p2, ?_, as ++ [r], Ex.mut (p1.trans e4) hD, ?_, ?_, ?_, ?_, ?_⟩
    · rw [List.length_map, el]
      exact small1000 (by omega)
    · rw [upd_same, List.map_append]
      rfl
    · rw [List.range_succ, List.map_append]
      have st : ∀ a (l : List Int), a ≠ D → H4 a = some (.lst (l.map V.int)) → upd H4 D (.lst (as.map V.ref ++ [.ref r])) a = some (.lst (l.map V.int)) := fun a l n g => by
        rw [upd_ne n]
        exact g
      refine paired_snoc ?_ (st r _ nrD hr)
      have aux : ∀ {as' : List Addr} {rs : List (List Int)}, D ∉ as' → RowsAt H' as' rs → RowsAt (upd H4 D (.lst (as.map V.ref ++ [.ref r]))) as' rs := by
        intro as' rs hn hp
        induction hp with
        | nil => exact .nil
        | cons g t ih => exact .cons (st _ _ (fun z => hn (by rw [z]; exact List.mem_cons_self ..)) (e4 _ _ g)) (ih fun z => hn (List.mem_cons_of_mem _ z))
      exact aux p6 p3
    · intro a ha
      rcases List.mem_append.mp ha with h | h
      · exact p4 a h
      · have : a = r := by simpa using h
        rw [this]
        exact fresh_back (e1.trans p1) nr
    · refine List.nodup_append.mpr ⟨p5, by simp, fun a ha b hb => ?_⟩
      have : b = r := by simpa using hb
      rw [this]
      intro z
      rw [z] at ha
      obtain ⟨x, _, hx⟩ := paired_mem p3 ha
      rw [nr] at hx
      cases hx
    · intro ha
      rcases List.mem_append.mp ha with h | h
      · exact p6 h
      · exact nrD (by simpa using h : D = r).symm
  · obtain ⟨as, p1, p2, p3, p4, p5, p6⟩ := p
    have em : (m : Int).toNat = m := by omega
    rw [em] at p3
    exact k D as H' hDH p4 p5 p6 (e1.trans p1) ⟨p2, p3⟩
/-! ### a dict of rows by places -/
theorem nodup_sub {α : Type} [DecidableEq α] : ∀ {l1 l2 : List α}, l1.Nodup → (∀ x ∈ l1, x ∈ l2) → l1.length ≤ l2.length
  | [], _, _, _ => Nat.zero_le _
  | a :: t, l2, hn, hs => by
    have h1 := List.nodup_cons.mp hn
    have ha := hs a (List.mem_cons_self ..)
    have ih := nodup_sub (l1 := t) (l2 := l2.erase a) h1.2 fun x hx => (List.mem_erase_of_ne (fun z => h1.1 (by rw [← z]; exact hx))).mpr (hs x (List.mem_cons_of_mem _ hx))
    rw [List.length_erase_of_mem ha] at ih
    have := List.length_pos_of_mem ha
    simp only [List.length_cons]
    omega
theorem rep_flat : ∀ m : Nat, (List.replicate m [V.int 0]).flatten = (List.replicate m 0).map V.int
  | 0 => rfl
  | m + 1 => by
    rw [List.replicate_succ, List.flatten_cons, rep_flat m]
    rfl
theorem nodup_nums (m : Nat) : (numsTo m).Nodup := by
  unfold numsTo
  exact List.Pairwise.map _ (fun a b h z => h (by omega)) List.nodup_range
theorem val_mem : ∀ {kvs : List (Key × V)} {L : List Int} {x : Int}, kvs.map (·.1) = L.map Sum.inl → ((valV kvs (Sum.inl x : Key)).isSome = true ↔ x ∈ L)
  | [], L, x, h => by
    cases L with
    | nil => simp [valV]
    | cons a l => simp at h
  | kv :: r, L, x, h => by
    cases L with
    | nil => simp at h
    | cons a l =>
      have h1 : kv.1 = Sum.inl a ∧ r.map (·.1) = l.map Sum.inl := by
        have := List.cons.inj h
        exact ⟨this.1, this.2⟩
      have ih := val_mem (kvs := r) (L := l) (x := x) h1.2
      by_cases e : x = a
      · subst e
        rw [valV_pos h1.1]
        simp
      · have ne : ¬ kv.1 = Sum.inl x := by
          rw [h1.1]
          intro z
          exact e (Sum.inl.inj z).symm
        have e2 : valV (kv :: r) (Sum.inl x : Key) = valV r (Sum.inl x : Key) := by
          simp [valV, List.find?_cons, ne]
        rw [e2, ih, List.mem_cons]
        exact ⟨Or.inr, fun z => z.resolve_left e⟩
/-- the dict at d: rows of m whole numbers by the places L -/
structure FarOk (H : Hp) (d : Addr) (m : Nat) (kvs : List (Key × V)) (L : List Int) : Prop where
  at_ : H d = some (.dK kvs)
  keys : kvs.map (·.1) = L.map Sum.inl
  nd : L.Nodup
  inn : ∀ x ∈ L, 0 ≤ x ∧ x ≤ m
  row : ∀ x v, valV kvs (Sum.inl x : Key) = some v → ∃ (a : Addr) (ns : List Int), v = .ref a ∧ H a = some (.lst (ns.map V.int)) ∧ ns.length = m ∧ ∀ y ∈ ns, y.natAbs ≤ L.length
theorem FarOk.len {H : Hp} {d : Addr} {m : Nat} {kvs : List (Key × V)} {L : List Int} (h : FarOk H d m kvs L) : kvs.length = L.length := by
  rw [← List.length_map (f := (·.1)), h.keys, List.length_map]
theorem FarOk.le {H : Hp} {d : Addr} {m : Nat} {kvs : List (Key × V)} {L : List Int} (h : FarOk H d m kvs L) : L.length ≤ m + 1 := by
  have := nodup_sub (l2 := numsTo (m + 1)) h.nd fun x hx => mem_numsTo.mpr (by have := h.inn x hx; omega)
  rw [numsTo_length] at this
  exact this
theorem FarOk.all {H : Hp} {d : Addr} {m : Nat} {kvs : List (Key × V)} {L : List Int} (h : FarOk H d m kvs L) (hl : m < L.length) : ∀ x : Int, 0 ≤ x → x ≤ m → x ∈ L := by
  intro x h0 h1
  by_cases hx : x ∈ L
  · exact hx
  · have h2 := nodup_sub (l1 := x :: L) (l2 := numsTo (m + 1)) (List.nodup_cons.mpr ⟨hx, h.nd⟩) fun y hy => mem_numsTo.mpr (by
      rcases List.mem_cons.mp hy with rfl | hy
      · omega
      · have := h.inn y hy
        omega)
    rw [numsTo_length, List.length_cons] at h2
    omega
theorem FarOk.ex {H H' : Hp} {d : Addr} {m : Nat} {kvs : List (Key × V)} {L : List Int} (h : FarOk H d m kvs L) (e : Ex H H') : FarOk H' d m kvs L :=
  ⟨e _ _ h.at_, h.keys, h.nd, h.inn, fun x v hv => by
    obtain ⟨a, ns, h1, h2, h3, h4⟩ := h.row x v hv
    exact ⟨a, ns, h1, e _ _ h2, h3, h4⟩⟩
theorem FarOk.get {H : Hp} {d : Addr} {m : Nat} {kvs : List (Key × V)} {L : List Int} (h : FarOk H d m kvs L) {x : Int} (hx : x ∈ L) : ∃ (a : Addr) (ns : List Int), valV kvs (Sum.inl x : Key) = some (.ref a) ∧ H a = some (.lst (ns.map V.int)) ∧ ns.length = m ∧ ∀ y ∈ ns, y.natAbs ≤ L.length := by
  have hs := (val_mem h.keys).mpr hx
  obtain ⟨v, hv⟩ := Option.isSome_iff_exists.mp hs
  obtain ⟨a, ns, h1, h2, h3, h4⟩ := h.row x v hv
  subst h1
  exact ⟨a, ns, hv, h2, h3, h4⟩
theorem FarOk.no {H : Hp} {d : Addr} {m : Nat} {kvs : List (Key × V)} {L : List Int} (h : FarOk H d m kvs L) {x : Int} (hx : x ∉ L) : valV kvs (Sum.inl x : Key) = none := by
  cases q : valV kvs (Sum.inl x : Key) with
  | none => rfl
  | some v => exact absurd ((val_mem h.keys).mp (by rw [q]; rfl)) hx
theorem FarOk.some_ {H : Hp} {d : Addr} {m : Nat} {kvs : List (Key × V)} {L : List Int} (h : FarOk H d m kvs L) (x : Int) : (valV kvs (Sum.inl x : Key)).isSome = decide (x ∈ L) := by
  rw [Bool.eq_iff_iff, val_mem h.keys, decide_eq_true_iff]
theorem FarOk.put {H : Hp} {d : Addr} {m : Nat} {kvs : List (Key × V)} {L : List Int} {x : Int} {a : Addr} {ns : List Int} (h : FarOk H d m kvs L) (hx : x ∉ L) (h0 : 0 ≤ x ∧ x ≤ m) (ha : H a = some (.lst (ns.map V.int))) (hl : ns.length = m) (hb : ∀ y ∈ ns, y.natAbs ≤ L.length + 1) :
    FarOk (upd H d (.dK (putK kvs (Sum.inl x) (.ref a)))) d m (putK kvs (Sum.inl x) (.ref a)) (L ++ [x]) := by
  have hn := h.no hx
  have ne : ∀ b (l : List V), H b = some (.lst l) → b ≠ d := fun b l g => ne_of g h.at_ (by intro z; cases z)
  refine ⟨upd_same, ?_, ?_, ?_, ?_⟩
  · rw [putK_new _ hn, List.map_append, List.map_append, h.keys]
    rfl
  · refine List.nodup_append.mpr ⟨h.nd, by simp, fun y hy z hz => ?_⟩
    have : z = x := by simpa using hz
    rw [this]
    intro e
    exact hx (e ▸ hy)
  · intro y hy
    rcases List.mem_append.mp hy with q | q
    · exact h.inn y q
    · have : y = x := by simpa using q
      rw [this]
      exact h0
  · intro y v hv
    rw [valV_put] at hv
    rw [List.length_append]
    by_cases e : (Sum.inl y : Key) = Sum.inl x
    · rw [if_pos e] at hv
      have ev := Option.some.inj hv
      subst ev
      refine ⟨a, ns, rfl, ?_, hl, hb⟩
      rw [upd_ne (ne a _ ha)]
      exact ha
    · rw [if_neg e] at hv
      obtain ⟨b, l, h1, h2, h3, h4⟩ := h.row y v hv
      refine ⟨b, l, h1, ?_, h3, fun z hz => Nat.le_succ_of_le (h4 z hz)⟩
      rw [upd_ne (ne b _ h2)]
      exact h2
theorem ev_dget {σ : L2.St} {H : Hp} {i j : Nat} {d : Addr} {x : Int} {kvs : List (Key × V)} {v : V} (h1 : σ[i]? = some (some (.ref d))) (h2 : σ[j]? = some (some (.int x))) (hd : H d = some (.dK kvs)) (hv : valV kvs (Sum.inl x : Key) = some v) : Ev (tDGet (tVar i) (tVar j)) σ H v := fun H1 e Q q =>
  ⟨_, h1, _, h2, d, v, rfl, by rw [← hv]; exact DGet.k (k := Sum.inl x) (e _ _ hd), q H1 (Ex.refl _)⟩
/-- the kk-th number of the row that stands by x -/
def rowOf : Option HO → List Int
  | some (.lst xs) => xs.map fun v => match v with | .int i => i | _ => 0
  | _ => []
theorem rowOf_ints (ns : List Int) : rowOf (some (.lst (ns.map V.int))) = ns := by
  show (ns.map V.int).map (fun v => match v with | V.int i => i | _ => 0) = ns
  rw [List.map_map]
  exact List.map_id' ns
def valN (H : Hp) (kvs : List (Key × V)) (x : Int) (kk : Nat) : Int :=
  match valV kvs (Sum.inl x : Key) with
  | some (.ref a) => (rowOf (H a))[kk]?.getD 0
  | _ => 0
theorem valN_eq {H : Hp} {kvs : List (Key × V)} {x : Int} {kk : Nat} {a : Addr} {ns : List Int} (h : valV kvs (Sum.inl x : Key) = some (.ref a)) (g : H a = some (.lst (ns.map V.int))) : valN H kvs x kk = ns[kk]?.getD 0 := by
  unfold valN
  rw [h]
  show (rowOf (H a))[kk]?.getD 0 = _
  rw [g, rowOf_ints]
theorem atI_row {ns : List Int} {kk : Nat} (h : kk < ns.length) : atI (ns.map V.int) (kk : Int) = some (.int (ns[kk]?.getD 0)) := by
  refine atI_nat ?_
  rw [List.getElem?_map, List.getElem?_eq_getElem h]
  rfl
/-- a new table (new since H): m rows of w numbers, none greater than B -/
structure NewTab (H H' : Hp) (p : Addr) (as : List Addr) (rows : List (List Int)) (w B : Nat) : Prop where
  p0 : H p = none
  a0 : ∀ a ∈ as, H a = none
  nd : as.Nodup
  np : p ∉ as
  tab : Tab H' p as rows
  ok : ∀ r ∈ rows, r.length = w ∧ ∀ y ∈ r, y.natAbs ≤ B
theorem NewTab.ex {H H' H2 : Hp} {p : Addr} {as : List Addr} {rows : List (List Int)} {w B : Nat} (h : NewTab H H' p as rows w B) (e : Ex H' H2) : NewTab H H2 p as rows w B := ⟨h.p0, h.a0, h.nd, h.np, h.tab.ex e, h.ok⟩
theorem rows_but {H H' : Hp} : ∀ {as : List Addr} {rows : List (List Int)}, RowsAt H as rows → (∀ a ∈ as, ∀ o, H a = some o → H' a = some o) → RowsAt H' as rows
  | _, _, .nil, _ => .nil
  | _, _, .cons g t, h => .cons (h _ (List.mem_cons_self ..) _ g) (rows_but t fun a ha => h a (List.mem_cons_of_mem _ ha))
theorem NewTab.exB {H H' H2 : Hp} {s p : Addr} {as : List Addr} {rows : List (List Int)} {w B : Nat} (h : NewTab H H' p as rows w B) (e : ExB s H' H2) (hs : ∃ o, H s = some o) : NewTab H H2 p as rows w B := by
  obtain ⟨o, ho⟩ := hs
  have n1 : p ≠ s := fun z => by
    have := h.p0
    rw [z, ho] at this
    cases this
  have n2 : ∀ a ∈ as, a ≠ s := fun a ha z => by
    have := h.a0 a ha
    rw [z, ho] at this
    cases this
  exact ⟨h.p0, h.a0, h.nd, h.np, ⟨e _ _ n1 h.tab.1, rows_but h.tab.2 fun a ha o' g => e a o' (n2 a ha) g⟩, h.ok⟩
theorem NewTab.back {H0 H H' : Hp} {s p : Addr} {as : List Addr} {rows : List (List Int)} {w B : Nat} (h : NewTab H H' p as rows w B) (e : ExB s H0 H) (hs : ∃ o, H s = some o) : NewTab H0 H' p as rows w B :=
  ⟨fresh_B e h.p0 hs, fun a ha => fresh_B e (h.a0 a ha) hs, h.nd, h.np, h.tab, h.ok⟩
theorem NewTab.mono {H H' : Hp} {p : Addr} {as : List Addr} {rows : List (List Int)} {w B B' : Nat} (h : NewTab H H' p as rows w B) (hb : B ≤ B') : NewTab H H' p as rows w B' :=
  ⟨h.p0, h.a0, h.nd, h.np, h.tab, fun r hr => ⟨(h.ok r hr).1, fun y hy => Nat.le_trans ((h.ok r hr).2 y hy) hb⟩⟩
/-- found.append(a new row) -/
theorem NewTab.app {H H' H2 : Hp} {p r : Addr} {as : List Addr} {rows : List (List Int)} {row : List Int} {w B : Nat} (h : NewTab H H' p as rows w B) (e0 : ∀ a, H' a = none → H a = none) (e : Ex H' H2) (nr : H' r = none) (hr : H2 r = some (.lst (row.map V.int))) (hl : row.length = w) (hb : ∀ y ∈ row, y.natAbs ≤ B) :
    NewTab H (upd H2 p (.lst (as.map V.ref ++ [.ref r]))) p (as ++ [r]) (rows ++ [row]) w B := by
  have nrp : r ≠ p := fun z => by
    rw [z, h.tab.1] at nr
    cases nr
  have nra : r ∉ as := fun ha => by
    obtain ⟨x, _, hx⟩ := paired_mem h.tab.2 ha
    rw [nr] at hx
    cases hx
  refine ⟨h.p0, fun a ha => ?_, ?_, ?_, ⟨?_, ?_⟩, fun x hx => ?_⟩
  · rcases List.mem_append.mp ha with q | q
    · exact h.a0 a q
    · have : a = r := by simpa using q
      rw [this]
      exact e0 r nr
  · refine List.nodup_append.mpr ⟨h.nd, by simp, fun a ha b hb z => ?_⟩
    have : b = r := by simpa using hb
    exact nra (by rw [← this, ← z]; exact ha)
  · intro ha
    rcases List.mem_append.mp ha with q | q
    · exact h.np q
    · exact nrp (by simpa using q : p = r).symm
  · rw [upd_same, List.map_append]
    rfl
  · refine paired_snoc (rows_but h.tab.2 fun a ha o g => ?_) ?_
    · rw [upd_ne (fun z => h.np (by rw [← z]; exact ha))]
      exact e a o g
    · rw [upd_ne nrp]
      exact hr
  · rcases List.mem_append.mp hx with q | q
    · exact h.ok x q
    · have : x = row := by simpa using q
      rw [this]
      exact ⟨hl, hb⟩
theorem NewTab.new {H : Hp} {H1 : Hp} {p : Addr} {w B : Nat} (h : H p = none) (h1 : H1 p = some (.lst [])) : NewTab H H1 p [] [] w B := ⟨h, fun a ha => by simp at ha, List.nodup_nil, by simp, ⟨h1, .nil⟩, fun r hr => by simp at hr⟩
theorem noneB {s : Addr} {H H' : Hp} (e : ExB s H H') (hs : ∃ o, H' s = some o) : ∀ a, H' a = none → H a = none := fun a h => fresh_B e h hs
theorem ev_chain {r r' : R2} {ta tb tc : TE} {σ : L2.St} {H : Hp} {x y z : V} {b c : Bool} (ha : Ev ta σ H x) (hb : Ev tb σ H y) (hc : Ev tc σ H z) (h1 : RV r x y H (.bl b)) (h2 : RV r' y z H (.bl c)) : Ev (tChain r r' ta tb tc) σ H (.bl (b && c)) := fun H1 e Q q =>
  ha H1 e _ fun H2 e2 => hb H2 (e.trans e2) _ fun H3 e3 => h1 H3 ((e.trans e2).trans e3) _ fun H4 e4 => ⟨b, rfl, by
    cases b with
    | true =>
      show tc σ H4 _
      exact hc H4 (((e.trans e2).trans e3).trans e4) _ fun H5 e5 => h2 H5 ((((e.trans e2).trans e3).trans e4).trans e5) Q fun H6 e6 => q H6 ((((e2.trans e3).trans e4).trans e5).trans e6)
    | false =>
      show Q (.bl false) H4
      exact q H4 ((e2.trans e3).trans e4)⟩
theorem ev_int1 {ta : TE} {σ : L2.St} {H : Hp} {b : Bool} (h : Ev ta σ H (.bl b)) : Ev (tCB (fun xs H Q => (∃ i, xs = [V.int i] ∧ Q (V.int i) H) ∨ ∃ k, xs = [V.bl k] ∧ Q (V.int (if k = true then 1 else 0)) H) (tCons ta tNil)) σ H (.int (if b = true then 1 else 0)) := fun H1 e Q q =>
  h H1 e _ fun H2 e2 => .inr ⟨b, rfl, q H2 e2⟩
/-- [e for i in range(m)], e whole numbers -/
theorem el_rng {ta : TA} {te : TE} {vs : List Nat} {j m : Nat} {σ : L2.St} {H : Hp} (f : Nat → Int) (h : EvA ta σ H [.int (m : Int)]) (hm : m ≤ 1000) (hw : ∀ x, wipe ((wipe σ vs).set j (some x)) vs = wipe σ vs)
    (he : ∀ (i : Nat) H1, Ex H H1 → i < m → Ev te ((wipe σ vs).set j (some (.int (i : Int)))) H1 (.int (f i))) : EvL (tLc (iRng1 ta) (gName j) tYes te vs) σ H (((List.range m).map f).map V.int) := by
  have g := el_lcR1 (t := tYes) (te := te) (j := j) (vs := vs) (σ := σ) (H := H) (n := (m : Int)) (ta := ta) (fun _ => true) (fun o => .int (f o)) h (by omega) hw (fun o H1 e ho Hx ex Qx qx => qx Hx (Ex.refl _)) (fun o H1 e ho hf => he o H1 e (by omega))
  have eg : given (m : Int).toNat (fun _ => true) (fun o => V.int (f o)) = ((List.range m).map f).map V.int := by
    unfold given
    rw [Int.toNat_natCast, List.filter_eq_self.mpr (fun _ _ => rfl), List.map_map]
    rfl
  rw [eg] at g
  exact g
/-- [f(row) for row in rows] -/
theorem el_col {K : PySem.W.Frag} {n : Nat} {te : TE} {vs : List Nat} {j : Nat} {σ : L2.St} {H : Hp} {a : Addr} {bs : List Addr} {qs : List (List Int)} (f : List Int → Int) (hσ : σ[n]? = some (some (.ref a))) (hx : H a = some (.lst (bs.map V.ref))) (hE : RowsAt H bs qs) (hz : qs.length ≤ 1000)
    (hw : ∀ u, wipe ((wipe σ vs).set j (some u)) vs = wipe σ vs)
    (he : ∀ b r H1, r ∈ qs → H b = some (.lst (r.map V.int)) → Ex H H1 → Ev te ((wipe σ vs).set j (some (.ref b))) H1 (.int (f r))) : EvL (tLc (iList K (tVar n)) (gName j) tYes te vs) σ H ((qs.map f).map V.int) := fun H1 e1 Q q => by
  have hx1 := e1 _ _ hx
  have el : bs.length = qs.length := Paired.length hE
  refine ⟨_, hσ, a, rfl, ⟨_, SqL.of hx1⟩, fun D hD => ?_⟩
  refine lc_list (K := K) (a := a) (xs := bs.map V.ref) (fun i H' => Ex H1 H' ∧ H' D = some (.lst (((qs.map f).take i).map V.int))) ⟨Ex.new hD, upd_same⟩ (fun i H' _ p => SqL.of (p.1 _ _ hx1)) (fun i x H' gx p => ?_) (fun H' p => ?_)
  · obtain ⟨p1, p2⟩ := p
    rw [List.getElem?_map] at gx
    obtain ⟨b, hb, rfl⟩ := Option.map_eq_some_iff.mp gx
    obtain ⟨ed, hed, hr⟩ := paired_get hE hb
    refine ⟨hw _, ?_⟩
    show te _ _ _
    refine he b ed H (List.mem_of_getElem? hed) hr (Ex.refl H) _ (e1.trans p1) _ fun H4 e4 => ?_
    refine ⟨_, e4 _ _ p2, ?_, Ex.mut (p1.trans e4) hD, ?_⟩
    · rw [List.length_map, List.length_take, List.length_map]
      exact small1000 (by omega)
    · have hzz : (qs.map f)[i]? = some (f ed) := by rw [List.getElem?_map, hed]; rfl
      rw [upd_same, take_snoc hzz, List.map_append]
      rfl
  · obtain ⟨p1, p2⟩ := p
    rw [List.take_of_length_le (by rw [List.length_map, List.length_map]; omega)] at p2
    exact q D H' hD p1 p2
/-- [a number drawn for i in range(m)] -/
theorem lc_draw {ta : TA} {te : TE} {vs : List Nat} {j m : Nat} {σ : L2.St} {H : Hp} {Q : VK} {s : Addr} {n : Int} (P : Int → Prop) (h : EvA ta σ H [.int (m : Int)]) (hm : m ≤ 1000) (hs : SrcAt H s n) (hw : ∀ u, wipe ((wipe σ vs).set j (some u)) vs = wipe σ vs)
    (he : ∀ (i : Nat) H1, ExB s H H1 → i < m → SrcAt H1 s (n + i) → ∀ Q1 : VK, (∀ x H2, P x → ExB s H1 H2 → SrcAt H2 s (n + i + 1) → Q1 (.int x) H2) → te ((wipe σ vs).set j (some (.int (i : Int)))) H1 Q1)
    (k : ∀ (D : Addr) (ns : List Int) (H2 : Hp), H D = none → ExB s H H2 → SrcAt H2 s (n + m) → H2 D = some (.lst (ns.map V.int)) → ns.length = m → (∀ x ∈ ns, P x) → Q (.ref D) H2) : tLc (iRng1 ta) (gName j) tYes te vs σ H Q := by
  refine h H (Ex.refl H) _ fun H1 e1 => ⟨(m : Int), rfl, by omega, by omega, fun D hD => ?_⟩
  have hDH : H D = none := fresh_back e1 hD
  have hDs : D ≠ s := (hs.ex e1).ne hD
  refine lc_range (lo := 0) (n := (m : Int).toNat) (fun i H' => ∃ ns, ExB s H H' ∧ SrcAt H' s (n + i) ∧ H' D = some (.lst (ns.map V.int)) ∧ ns.length = i ∧ ∀ x ∈ ns, P x) ⟨[], ExB.of (e1.trans (Ex.new hD)), (hs.ex (e1.trans (Ex.new hD))).le (by omega), upd_same, rfl, fun x hx => by simp at hx⟩ (fun i H' hi p => ?_) (fun H' p => ?_)
  · obtain ⟨ns, p1, p2, p3, p4, p5⟩ := p
    have e0 : (0 : Int) + (i : Int) = (i : Int) := Int.zero_add _
    refine ⟨hw _, ?_⟩
    show te ((wipe σ vs).set j (some (.int ((0 : Int) + (i : Int))))) H' _
    rw [e0]
    refine he i H' p1 (by omega) p2 _ fun x H2 hx e2 s2 => ?_
    refine ⟨_, e2 _ _ hDs p3, small1000 (by rw [List.length_map]; omega), ns ++ [x], ?_, ?_, ?_, ?_, ?_⟩
    · refine fun b o nb hb => ?_
      rw [upd_ne (ne_of_none hb hDH)]
      exact e2 _ _ nb (p1 _ _ nb hb)
    · obtain ⟨a1, a2, a3, a4, a5, a6, a7, a8⟩ := s2
      exact ⟨a1, a2, a3, by rw [upd_ne hDs.symm]; exact a4, a5, a6, a7, by omega⟩
    · rw [upd_same, List.map_append]
      rfl
    · rw [List.length_append, p4]
      rfl
    · intro y hy
      rcases List.mem_append.mp hy with q | q
      · exact p5 y q
      · have : y = x := by simpa using q
        rw [this]
        exact hx
  · obtain ⟨ns, p1, p2, p3, p4, p5⟩ := p
    have em : (m : Int).toNat = m := by omega
    rw [em] at p4 p2
    exact k D ns H' hDH p1 p2 p3 p4 p5
/-- the same over a list of whole numbers -/
theorem lc_drawL {K : PySem.W.Frag} {tl te : TE} {vs : List Nat} {j : Nat} {σ : L2.St} {H : Hp} {Q : VK} {s a : Addr} {n : Int} {xs : List Int} (P : Int → Prop) (h : Ev tl σ H (.ref a)) (hx : H a = some (.lst (xs.map V.int))) (has : a ≠ s) (hm : xs.length ≤ 1000) (hs : SrcAt H s n) (hw : ∀ u, wipe ((wipe σ vs).set j (some u)) vs = wipe σ vs)
    (he : ∀ (i : Nat) (y : Int) H1, ExB s H H1 → i < xs.length → SrcAt H1 s (n + i) → ∀ Q1 : VK, (∀ x H2, P x → ExB s H1 H2 → SrcAt H2 s (n + i + 1) → Q1 (.int x) H2) → te ((wipe σ vs).set j (some (.int y))) H1 Q1)
    (k : ∀ (D : Addr) (ns : List Int) (H2 : Hp), H D = none → ExB s H H2 → SrcAt H2 s (n + xs.length) → H2 D = some (.lst (ns.map V.int)) → ns.length = xs.length → (∀ x ∈ ns, P x) → Q (.ref D) H2) : tLc (iList K tl) (gName j) tYes te vs σ H Q := by
  refine h H (Ex.refl H) _ fun H1 e1 => ⟨a, rfl, ⟨_, SqL.of (e1 _ _ hx)⟩, fun D hD => ?_⟩
  have hDH : H D = none := fresh_back e1 hD
  have hDs : D ≠ s := (hs.ex e1).ne hD
  refine lc_list (K := K) (a := a) (xs := xs.map V.int) (fun i H' => ∃ ns, ExB s H H' ∧ SrcAt H' s (n + i) ∧ H' D = some (.lst (ns.map V.int)) ∧ ns.length = i ∧ ∀ x ∈ ns, P x) ⟨[], ExB.of (e1.trans (Ex.new hD)), (hs.ex (e1.trans (Ex.new hD))).le (by omega), upd_same, rfl, fun x hx => by simp at hx⟩ (fun i H' _ ⟨_, p1, _⟩ => SqL.of (p1 _ _ has hx)) (fun i y H' gy p => ?_) (fun H' p => ?_)
  · obtain ⟨ns, p1, p2, p3, p4, p5⟩ := p
    rw [List.getElem?_map] at gy
    obtain ⟨y', hy', rfl⟩ := Option.map_eq_some_iff.mp gy
    have hi := (List.getElem?_eq_some_iff.mp hy').1
    refine ⟨hw _, ?_⟩
    show te _ H' _
    refine he i y' H' p1 hi p2 _ fun x H2 hx' e2 s2 => ?_
    refine ⟨_, e2 _ _ hDs p3, small1000 (by rw [List.length_map]; omega), ns ++ [x], ?_, ?_, ?_, ?_, ?_⟩
    · refine fun b o nb hb => ?_
      rw [upd_ne (ne_of_none hb hDH)]
      exact e2 _ _ nb (p1 _ _ nb hb)
    · obtain ⟨a1, a2, a3, a4, a5, a6, a7, a8⟩ := s2
      exact ⟨a1, a2, a3, by rw [upd_ne hDs.symm]; exact a4, a5, a6, a7, by omega⟩
    · rw [upd_same, List.map_append]
      rfl
    · rw [List.length_append, p4]
      rfl
    · intro z hz
      rcases List.mem_append.mp hz with q | q
      · exact p5 z q
      · have : z = x := by simpa using q
        rw [this]
        exact hx'
  · obtain ⟨ns, p1, p2, p3, p4, p5⟩ := p
    rw [List.length_map] at p4 p2
    exact k D ns H' hDH p1 p2 p3 p4 p5
theorem rows_set {H : Hp} {v : List V} {x : Addr} : ∀ {as : List Addr} {rows : List (List Int)} {k : Nat} {row : List Int}, RowsAt H as rows → as.Nodup → as[k]? = some x → v = row.map V.int → RowsAt (upd H x (.lst v)) as (rows.set k row)
  | _, _, _, _, .nil, _, h, _ => by simp at h
  | a :: as, r :: rows, 0, row, .cons g t, nd, h, hv => by
    have e : a = x := Option.some.inj h
    subst e
    have h1 := List.nodup_cons.mp nd
    refine .cons (by rw [upd_same, hv]) (rows_but t fun b hb o q => ?_)
    rw [upd_ne (fun z => h1.1 (by rw [← z]; exact hb))]
    exact q
  | a :: as, r :: rows, k + 1, row, .cons g t, nd, h, hv => by
    have h1 := List.nodup_cons.mp nd
    have hx : as[k]? = some x := h
    refine .cons ?_ (rows_set t h1.2 hx hv)
    rw [upd_ne (fun z => h1.1 (by rw [z]; exact List.mem_of_getElem? hx))]
    exact g
theorem NewTab.set {H H' : Hp} {p x : Addr} {as : List Addr} {rows : List (List Int)} {w B k j : Nat} {row : List Int} {y : Int} (h : NewTab H H' p as rows w B) (hx : as[k]? = some x) (hr : rows[k]? = some row) (hy : y.natAbs ≤ B) : NewTab H (upd H' x (.lst ((row.map V.int).set j (.int y)))) p as (rows.set k (row.set j y)) w B := by
  have npx : p ≠ x := fun z => h.np (by rw [z]; exact List.mem_of_getElem? hx)
  have o := h.ok row (List.mem_of_getElem? hr)
  refine ⟨h.p0, h.a0, h.nd, h.np, ⟨?_, rows_set h.tab.2 h.nd hx (by rw [List.map_set])⟩, fun r hr' => ?_⟩
  · rw [upd_ne npx]
    exact h.tab.1
  · rcases List.mem_or_eq_of_mem_set hr' with q | q
    · exact h.ok r q
    · rw [q]
      refine ⟨by rw [List.length_set]; exact o.1, fun z hz => ?_⟩
      rcases List.mem_or_eq_of_mem_set hz with q2 | q2
      · exact o.2 z q2
      · rw [q2]
        exact hy
section
variable {prog : Program} {w : World} {A : Around} {E : Value → Shared → Prop} {s : Shared}
theorem slice_rev2 {sl : Addr} {vl vu vs : Value} {Q : Int × Int × Nat → Shared → Prop} (hs : s.heap.IsSliceOf sl vl vu vs) (pl : IsPart vl none) (pu : IsPart vu none) (ps : IsPart vs (some (-1)))
    (h : Q (1, -1, 2) s) : wpAny (model prog w) A (Builtin.Slice.sliceApplied (.ref sl) (pure ((2 : Nat) : Int))) Q E s := by
  obtain ⟨os, hos, hcs, hds⟩ := id hs
  unfold Builtin.Slice.sliceApplied Builtin.Slice.sliceFields
  refine wpAny_bind (wpAny_bind (wpAny_field hos hds (x := vl) rfl (wpAny_bind (wpAny_field hos hds (x := vu) rfl (wpAny_bind (wpAny_field hos hds (x := vs) rfl (wpAny_pure ?_)))))))
  refine wpAny_bind (slicePart_ ps ?_)
  show wpAny _ _ (if ((-1 : Int) == 0) = true then _ else _) _ _ s
  rw [if_neg (by decide)]
  refine wpAny_bind (slicePart_ pl (wpAny_bind (slicePart_ pu (wpAny_bind (wpAny_pure ?_)))))
  exact wpAny_pure h
theorem item_rev2 {t sl : Addr} {x y vl vu vs : Value} {Q : Value → Shared → Prop} (ht : IsTup s.heap t #[x, y]) (hs : s.heap.IsSliceOf sl vl vu vs) (pl : IsPart vl none) (pu : IsPart vu none) (ps : IsPart vs (some (-1)))
    (h : Q (.ref s.heap.objs.size) { s with heap := s.heap.push { cls := .type "tuple", data := .seq #[y, x] } }) : wpAny (model prog w) A (getItem (.ref t) (.ref sl)) Q E s := by
  have htake : sizeOk (.seq (#[y, x] : Array Value)) := by
    show 2 ≤ sizeLine
    decide
  obtain ⟨os, hos, hcs, hds⟩ := id hs
  have hTs : s.TypeIs (.ref sl) "slice" := ⟨os, hos, hcs⟩
  unfold getItem
  try with_reducible refine wpAny_holding ?_
  first | refine wpAny_bind (wpAny_pure ?_) | skip
  refine wpAny_bind (wpAny_sequenceKey ht.typeIs (by decide) ?_)
  refine wpAny_bind (wpAny_callSpecial?_slot (name := Str.ofString "__getitem__") ht.typeIs PyProof.Rows.slot_tuple_getitem
    (wpAny_call_entry PyProof.Rows.slot_tuple_getitem ht.typeIs entry_tuple_getitem ?_ (args_tuple_getitem _ _)))
  show wpAny _ _ (Builtin.Tuple.tupleItemsOf (.ref t) >>= _) _ _ s
  refine wpAny_bind (tupleItemsOf_ ht ?_)
  refine wpAny_bind (wpAny_typeOf hTs ?_)
  rw [if_pos (by decide)]
  refine wpAny_bind (slice_rev2 hs pl pu ps ?_)
  show wpAny _ _ (if (((1 : Int) == 0 && (-1 : Int) == 1 && (2 : Nat) == 2) = true) then _ else _) _ _ s
  rw [if_neg (by decide)]
  first
    | exact wpAny_bind (m := Builtin.Tuple.tupleExact _) (wpAny_newObj_type (wpAny_pure ⟨_, rfl, wpAny_pure h⟩) htake)
    | exact wpAny_bind (m := Builtin.Tuple.tupleExact _) (wpAny_newObj_type (wpAny_bind (wpAny_pure (wpAny_pure ⟨_, rfl, wpAny_pure h⟩))) htake)
    | exact wpAny_bind (wpAny_bind (m := Builtin.Tuple.tupleExact _) (wpAny_newObj_type (wpAny_pure (wpAny_pure ⟨_, rfl, wpAny_pure h⟩)) htake))
    | exact wpAny_bind (wpAny_bind (m := Builtin.Tuple.tupleExact _) (wpAny_newObj_type (wpAny_pure ⟨_, rfl, wpAny_pure h⟩) htake))
end
section
variable {X : Cx}
/-- t[::-1], t a pair -/
def tRevT (K : PySem.W.Frag) (te : TE) : TE := fun σ H Q => te σ H fun v H1 => ∃ a x y, v = .ref a ∧ SqT K H1 a [x, y] ∧ ∀ p, H1 p = none → Q (.ref p) (upd H1 p (.tup [y, x]))
theorem pe_revT {e : Expr} {te : TE} {k : Nat} {p1 p2 p3 pos : Pos} (he : PE X e te) : PE X (.Subscript e (.Slice none none (some (.UnaryOp .USub (.Constant (.int 1) k p1) p2)) p3) pos) (tRevT X.K te) := by
  refine ⟨fun pins s σ H Q I h => ?_⟩
  refine Subscript_ (thn (he.run pins s σ H _ I h) fun v s1 ⟨z, H1, I1, r1, q1⟩ => ?_)
  obtain ⟨a, x, y, ex, hx, q⟩ := q1
  subst ex
  cases r1
  have hst : PO X (some (.UnaryOp .USub (.Constant (.int 1) k p1) p2)) (tPart (tUn (rU fun i => .int (-i)) (tC (.int 1)))) := po_some (pe_un un_neg pe_int)
  refine wpAny_Slice (thn (po_none.run pins s1 σ H1 (fun o H2 => o = none ∧ H2 = H1) I1 ⟨rfl, rfl⟩) fun vl s2 ⟨l, H2, I2, pl, el, e2⟩ => ?_)
  subst el e2
  refine thn (po_none.run pins s2 σ H2 (fun o H3 => o = none ∧ H3 = H2) I2 ⟨rfl, rfl⟩) fun vu s3 ⟨u, H3, I3, pu, eu, e3⟩ => ?_
  subst eu e3
  refine thn (hst.run pins s3 σ H3 (fun o H4 => o = some (-1) ∧ H4 = H3) I3 ⟨1, rfl, -1, rfl, rfl, rfl⟩) fun vs s4 ⟨o, H4, I4, ps, eo, e4⟩ => ?_
  subst eo e4
  have I5 : Inv X pins σ H4 { s4 with heap := s4.heap.push { cls := .type "slice", data := .fields #[vl, vu, vs] } } := I4.kept (t' := s4.toks) fun b ob q => Heap.get?_push_of_some _ q
  obtain ⟨its, r, ht, hz⟩ := I5.tuple hx
  obtain ⟨ua, ub, rfl, ra, rb⟩ := vals2 r
  show wpAny (model X.prog X.w) X.A (subscriptTail e (.Slice none none (some (.UnaryOp .USub (.Constant (.int 1) k p1) p2)) p3) (.ref a) (.ref s4.heap.objs.size)) (EP X pins σ Q) X.xe { s4 with heap := s4.heap.push { cls := .type "slice", data := .fields #[vl, vu, vs] } }
  refine tail_any (ops := [.ref a, .ref s4.heap.objs.size]) ht.typeIs (PyProof.Rows.slot_tuple_getitem.lookup) ?_ (by with_unfolding_all rfl)
  refine item_rev2 ht (Heap.IsSliceOf.new _ vl vu vs) pl pu ps ?_
  refine ⟨.ref _, _, I5.laid (t' := s4.toks) (o := .tup [y, x]) (fun b ob q => Heap.get?_push_of_some _ q) (Nat.le_refl _) ?_, rfl, q _ (I5.hok.fresh (Nat.le_refl _))⟩
  exact ⟨by show 2 ≤ sizeLine; decide, [ub, ua], .cons rb (.cons ra .nil), IsTup.new _ _⟩
end

theorem mem_dims {rows : List (List Int)} {w B : Nat} (h : ∀ r ∈ rows, r.length = w ∧ ∀ y ∈ r, y.natAbs ≤ B) {r : List Int} (hr : r ∈ rows) : r.length = w := (h r hr).1
/-- a table as the program takes it: 1 to 8 rows of 1 to 8 -/
structure TabOk (H : Hp) (p : Addr) (as : List Addr) (rows : List (List Int)) (m w : Nat) : Prop where
  tab : Tab H p as rows
  m_ : rows.length = m
  w_ : ∀ r ∈ rows, r.length = w
  b : 1 ≤ m ∧ m ≤ 8 ∧ 1 ≤ w ∧ w ≤ 8
theorem TabOk.ex {H H' : Hp} {p : Addr} {as : List Addr} {rows : List (List Int)} {m w : Nat} (h : TabOk H p as rows m w) (e : Ex H H') : TabOk H' p as rows m w := ⟨h.tab.ex e, h.m_, h.w_, h.b⟩
theorem TabOk.al {H : Hp} {p : Addr} {as : List Addr} {rows : List (List Int)} {m w : Nat} (h : TabOk H p as rows m w) : as.length = m := by rw [Paired.length h.tab.2, h.m_]
theorem TabOk.row0 {H : Hp} {p : Addr} {as : List Addr} {rows : List (List Int)} {m w : Nat} (h : TabOk H p as rows m w) : ∃ a0 r0, as[0]? = some a0 ∧ rows[0]? = some r0 ∧ H a0 = some (.lst (r0.map V.int)) ∧ r0.length = w ∧ atI (as.map V.ref) 0 = some (.ref a0) := by
  have hb := h.b
  have hl := h.al
  obtain ⟨a0, ha0⟩ : ∃ a0, as[0]? = some a0 := ⟨_, List.getElem?_eq_getElem (by omega)⟩
  obtain ⟨r0, hr0, hh⟩ := paired_get h.tab.2 ha0
  exact ⟨a0, r0, ha0, hr0, hh, h.w_ r0 (List.mem_of_getElem? hr0), atI_nat (j := 0) (by rw [List.getElem?_map, ha0]; rfl)⟩
theorem all_true (n : Nat) : (List.replicate n true).all id = true := by
  induction n with
  | zero => rfl
  | succ n ih => rw [List.replicate_succ, List.all_cons, ih]; rfl
/-- [f(x) for x in xs], each True -/
theorem el_yes {K : PySem.W.Frag} {n j : Nat} {a : Addr} {xs : List V} {te : TE} {vs : List Nat} {σ : L2.St} {H : Hp} (hσ : σ[n]? = some (some (.ref a))) (hx : H a = some (.lst xs)) (hl : xs.length ≤ 1000)
    (hs : ∀ x H', x ∈ xs → Ex H H' → Ev te ((wipe σ vs).set j (some x)) H' (.bl true)) (hw : ∀ x, wipe ((wipe σ vs).set j (some x)) vs = wipe σ vs) : EvL (tLc (iList K (tVar n)) (gName j) tYes te vs) σ H ((List.replicate xs.length true).map V.bl) := by
  intro H0 e0 Q0 q0
  have hx0 := e0 _ _ hx
  refine ⟨_, hσ, a, rfl, ⟨_, SqL.of hx0⟩, fun D hD => ?_⟩
  refine lc_list (K := K) (a := a) (xs := xs) (fun i H' => Ex H0 H' ∧ H' D = some (.lst ((List.replicate i true).map V.bl))) ⟨Ex.new hD, upd_same⟩ (fun i H' _ p => SqL.of (p.1 _ _ hx0)) (fun i x H' gx p => ?_) (fun H' p => ?_)
  · obtain ⟨p1, p2⟩ := p
    have hi := (List.getElem?_eq_some_iff.mp gx).1
    refine ⟨hw _, ?_⟩
    show te _ _ _
    refine hs x H (List.mem_of_getElem? gx) (Ex.refl H) _ (e0.trans p1) _ fun H4 e4 => ?_
    refine ⟨_, e4 _ _ p2, ?_, Ex.mut (p1.trans e4) hD, ?_⟩
    · rw [List.length_map, List.length_replicate]
      exact small1000 (by omega)
    · rw [upd_same, List.replicate_succ', List.map_append]
      rfl
  · obtain ⟨p1, p2⟩ := p
    exact q0 D H' hD p1 p2
theorem ev_all {K : PySem.W.Frag} {ta : TE} {n : Nat} {σ : L2.St} {H : Hp} (h : EvL ta σ H ((List.replicate n true).map V.bl)) : Ev (tCB (rAll K) (tCons ta tNil)) σ H (.bl true) := fun H1 e Q q =>
  h H1 e _ fun p H2 _ e2 hp => ⟨p, _, rfl, SqL.of hp, by rw [all_true]; exact q H2 e2⟩
theorem ev_fn {sp : Sp} {E : XK} {ta : TA} {σ : L2.St} {H : Hp} {vs : List V} {z : V} (h : EvA ta σ H vs) (hs : ∀ H1, Ex H H1 → ∀ Q : VK, (∀ H2, Ex H1 H2 → Q z H2) → sp vs H1 Q E) : Ev (tCall sp [] E ta) σ H z := fun H1 e Q q =>
  h H1 e _ fun H2 e2 => by
    rw [List.append_nil]
    exact hs H2 (e.trans e2) Q fun H3 e3 => q H3 (e2.trans e3)
theorem ev_isi {K : PySem.W.Frag} {ta tb : TE} {σ : L2.St} {H : Hp} {x : V} {n : String} {t : String} {b : Bool} (ha : Ev ta σ H x) (hb : Ev tb σ H (.ty n)) (ht : ∀ H1, Ex H H1 → TyX K H1 x (.type t)) (hk : kitB t n = some b) : Ev (tCB (rIsi K) (tCons ta (tCons tb tNil))) σ H (.bl b) := fun H1 e Q q =>
  ha H1 e _ fun H2 e2 => hb H2 (e.trans e2) _ fun H3 e3 => ⟨x, .ty n, _, _, b, rfl, .ty n, ht H3 ((e.trans e2).trans e3), kit_ty hk, q H3 (e2.trans e3)⟩
theorem rv_le {i j : Int} {H : Hp} : RV (rI0 fun i j => .bl (decide (i ≤ j))) (.int i) (.int j) H (.bl (decide (i ≤ j))) := rv_I0
/-- a rising list of places below n -/
def Rising (n : Int) (ns : List Int) : Prop := (∀ x ∈ ns, 0 ≤ x ∧ x < n) ∧ ns.Pairwise (· < ·)

/-- [[..] for y in ys], ys whole numbers: new rows -/
theorem lc_rowsL {K : PySem.W.Frag} {nn : Nat} {te : TE} {vs : List Nat} {j : Nat} {σ : L2.St} {H : Hp} {Q : VK} {a : Addr} {ys : List Int} (F : Int → List Int) (hσ : σ[nn]? = some (some (.ref a))) (hx : H a = some (.lst (ys.map V.int))) (hm : ys.length ≤ 1000) (hw : ∀ u, wipe ((wipe σ vs).set j (some u)) vs = wipe σ vs)
    (he : ∀ y H1, y ∈ ys → Ex H H1 → EvL te ((wipe σ vs).set j (some (.int y))) H1 ((F y).map V.int))
    (k : ∀ p as H2, H p = none → (∀ a ∈ as, H a = none) → as.Nodup → p ∉ as → Ex H H2 → Tab H2 p as (ys.map F) → Q (.ref p) H2) : tLc (iList K (tVar nn)) (gName j) tYes te vs σ H Q := by
  refine ⟨_, hσ, a, rfl, ⟨_, SqL.of hx⟩, fun D hD => ?_⟩
  refine lc_list (K := K) (a := a) (xs := ys.map V.int) (fun i H' => ∃ as, Ex H H' ∧ H' D = some (.lst (as.map V.ref)) ∧ RowsAt H' as ((ys.take i).map F) ∧ (∀ a ∈ as, H a = none) ∧ as.Nodup ∧ D ∉ as) ⟨[], Ex.new hD, upd_same, .nil, fun a ha => by simp at ha, List.nodup_nil, by simp⟩ (fun i H' _ ⟨_, p1, _⟩ => SqL.of (p1 _ _ hx)) (fun i x H' gx p => ?_) (fun H' p => ?_)
  · obtain ⟨as, p1, p2, p3, p4, p5, p6⟩ := p
    rw [List.getElem?_map] at gx
    obtain ⟨y, hy, rfl⟩ := Option.map_eq_some_iff.mp gx
    have hi := (List.getElem?_eq_some_iff.mp hy).1
    have el : as.length = i := by rw [Paired.length p3, List.length_map, List.length_take]; omega
    refine ⟨hw _, ?_⟩
    show te _ H' _
    refine he y H' (List.mem_of_getElem? hy) p1 H' (Ex.refl _) _ fun r H4 nr e4 hr => ?_
    have nrD : r ≠ D := fun z => by
      rw [z, p2] at nr
      cases nr
    refine ⟨_, e4 _ _ p2, ?_, as ++ [r], Ex.mut (p1.trans e4) hD, ?_, ?_, ?_, ?_, ?_⟩
    · rw [List.length_map, el]
      exact small1000 (by omega)
    · rw [upd_same, List.map_append]
      rfl
    · rw [take_snoc hy, List.map_append]
      refine paired_snoc (rows_but p3 fun b hb o g => ?_) ?_
      · rw [upd_ne (fun z => p6 (by rw [← z]; exact hb))]
        exact e4 _ _ g
      · rw [upd_ne nrD]
        exact hr
    · intro b hb
      rcases List.mem_append.mp hb with h | h
      · exact p4 b h
      · rw [show b = r by simpa using h]
        exact fresh_back p1 nr
    · refine List.nodup_append.mpr ⟨p5, by simp, fun b hb c hc z => ?_⟩
      have : c = r := by simpa using hc
      have hb' : r ∈ as := by rw [← this, ← z]; exact hb
      obtain ⟨x, _, hx'⟩ := paired_mem p3 hb'
      rw [nr] at hx'
      cases hx'
    · intro hb
      rcases List.mem_append.mp hb with h | h
      · exact p6 h
      · exact nrD (by simpa using h : D = r).symm
  · obtain ⟨as, p1, p2, p3, p4, p5, p6⟩ := p
    rw [List.length_map, List.take_length] at p3
    exact k D as H' hD p4 p5 p6 p1 ⟨p2, p3⟩
/-- [f(y) for y in ys], ys whole numbers -/
theorem el_mapI {K : PySem.W.Frag} {n : Nat} {te : TE} {vs : List Nat} {j : Nat} {σ : L2.St} {H : Hp} {a : Addr} {qs : List Int} (f : Int → Int) (hσ : σ[n]? = some (some (.ref a))) (hx : H a = some (.lst (qs.map V.int))) (hz : qs.length ≤ 1000)
    (hw : ∀ u, wipe ((wipe σ vs).set j (some u)) vs = wipe σ vs)
    (he : ∀ y H1, y ∈ qs → Ex H H1 → Ev te ((wipe σ vs).set j (some (.int y))) H1 (.int (f y))) : EvL (tLc (iList K (tVar n)) (gName j) tYes te vs) σ H ((qs.map f).map V.int) := fun H1 e1 Q q => by
  have hx1 := e1 _ _ hx
  refine ⟨_, hσ, a, rfl, ⟨_, SqL.of hx1⟩, fun D hD => ?_⟩
  refine lc_list (K := K) (a := a) (xs := qs.map V.int) (fun i H' => Ex H1 H' ∧ H' D = some (.lst (((qs.map f).take i).map V.int))) ⟨Ex.new hD, upd_same⟩ (fun i H' _ p => SqL.of (p.1 _ _ hx1)) (fun i x H' gx p => ?_) (fun H' p => ?_)
  · obtain ⟨p1, p2⟩ := p
    rw [List.getElem?_map] at gx
    obtain ⟨b, hb, rfl⟩ := Option.map_eq_some_iff.mp gx
    refine ⟨hw _, ?_⟩
    show te _ _ _
    refine he b H (List.mem_of_getElem? hb) (Ex.refl H) _ (e1.trans p1) _ fun H4 e4 => ?_
    refine ⟨_, e4 _ _ p2, ?_, Ex.mut (p1.trans e4) hD, ?_⟩
    · rw [List.length_map, List.length_take, List.length_map]
      exact small1000 (by omega)
    · have hzz : (qs.map f)[i]? = some (f b) := by rw [List.getElem?_map, hb]; rfl
      rw [upd_same, take_snoc hzz, List.map_append]
      rfl
  · obtain ⟨p1, p2⟩ := p
    rw [List.take_of_length_le (by rw [List.length_map, List.length_map]; omega)] at p2
    exact q D H' hD p1 p2
theorem TabOk.row {H : Hp} {p : Addr} {as : List Addr} {rows : List (List Int)} {m w : Nat} (h : TabOk H p as rows m w) {i : Int} (h0 : 0 ≤ i) (h1 : i < m) : ∃ a r, atI (as.map V.ref) i = some (.ref a) ∧ rows[i.toNat]? = some r ∧ H a = some (.lst (r.map V.int)) ∧ r.length = w := by
  have hl := h.al
  obtain ⟨a, ha⟩ : ∃ a, as[i.toNat]? = some a := ⟨_, List.getElem?_eq_getElem (by omega)⟩
  obtain ⟨r, hr, hh⟩ := paired_get h.tab.2 ha
  exact ⟨a, r, at_of (j := i.toNat) (by omega) (by rw [List.getElem?_map, ha]; rfl), hr, hh, h.w_ r (List.mem_of_getElem? hr)⟩
theorem atI_rowI {ns : List Int} {i : Int} (h0 : 0 ≤ i) (h : i < ns.length) : atI (ns.map V.int) i = some (.int (ns[i.toNat]?.getD 0)) := by
  have e : i = ((i.toNat : Nat) : Int) := by omega
  have h2 := atI_row (ns := ns) (kk := i.toNat) (by omega)
  rw [← e] at h2
  exact h2

/-- [[..] for x, row in zip(xs, rows)]: new rows -/
theorem lc_rowsZ {K : PySem.W.Frag} {ta : TA} {te : TE} {vs : List Nat} {j1 j2 : Nat} {σ : L2.St} {H : Hp} {Q : VK} {a b : Addr} {xs : List Int} {as : List Addr} {rows : List (List Int)} (F : Int → List Int → List Int) (h : EvA ta σ H [.ref a, .ref b]) (hx : H a = some (.lst (xs.map V.int))) (ht : Tab H b as rows) (hl : xs.length = rows.length) (hz : xs.length ≤ 1000)
    (hw : ∀ u v, wipe (((wipe σ vs).set j1 (some u)).set j2 (some v)) vs = wipe σ vs)
    (he : ∀ x c r H1, x ∈ xs → r ∈ rows → H c = some (.lst (r.map V.int)) → Ex H H1 → EvL te (((wipe σ vs).set j1 (some (.int x))).set j2 (some (.ref c))) H1 ((F x r).map V.int))
    (k : ∀ p bs H2, H p = none → (∀ a ∈ bs, H a = none) → bs.Nodup → p ∉ bs → Ex H H2 → Tab H2 p bs (List.zipWith F xs rows) → Q (.ref p) H2) : tLc (iZip K ta) (g2 K j1 j2) tYes te vs σ H Q := by
  refine h H (Ex.refl H) _ fun H1 e1 => ⟨a, b, _, _, rfl, SqL.of (e1 _ _ hx), SqL.of (e1 _ _ ht.1), fun D hD => ?_⟩
  have hDH : H D = none := fresh_back e1 hD
  have el0 : as.length = rows.length := Paired.length ht.2
  refine lc_zip (xs := xs.map V.int) (ys := as.map V.ref) (by rw [List.length_map, List.length_map, el0]; exact hl) (fun i H' => ∃ bs, Ex H1 H' ∧ H' D = some (.lst (bs.map V.ref)) ∧ RowsAt H' bs ((List.zipWith F xs rows).take i) ∧ (∀ a ∈ bs, H a = none) ∧ bs.Nodup ∧ D ∉ bs) ⟨[], Ex.new hD, upd_same, .nil, fun a ha => by simp at ha, List.nodup_nil, by simp⟩ (fun i H' ⟨_, p1, _⟩ => ⟨SqL.of ((e1.trans p1) _ _ hx), SqL.of ((e1.trans p1) _ _ ht.1)⟩) (fun i x y T H' gx gy p nT => ?_) (fun H' p => ?_)
  · obtain ⟨bs, p1, p2, p3, p4, p5, p6⟩ := p
    rw [List.getElem?_map] at gx gy
    obtain ⟨x', hx', rfl⟩ := Option.map_eq_some_iff.mp gx
    obtain ⟨c, hc, rfl⟩ := Option.map_eq_some_iff.mp gy
    obtain ⟨r, hr, hh⟩ := paired_get ht.2 hc
    have hi := (List.getElem?_eq_some_iff.mp hx').1
    have el : bs.length = i := by rw [Paired.length p3, List.length_take, List.length_zipWith]; omega
    have xT : Ex H' (upd H' T (.tup [.int x', .ref c])) := Ex.new nT
    refine ⟨T, _, rfl, SqT.of upd_same, rfl, _, _, rfl, _, _, rfl, rfl, hw _ _, ?_⟩
    show te _ _ _
    refine he x' c r H (List.mem_of_getElem? hx') (List.mem_of_getElem? hr) hh (Ex.refl H) _ ((e1.trans p1).trans xT) _ fun q H4 nq e4 hq => ?_
    have nqD : q ≠ D := fun z => by
      rw [z, xT _ _ p2] at nq
      cases nq
    have nqH' : H' q = none := fresh_back xT nq
    refine ⟨_, e4 _ _ (xT _ _ p2), ?_, bs ++ [q], Ex.mut ((p1.trans xT).trans e4) hD, ?_, ?_, ?_, ?_, ?_⟩
    · rw [List.length_map, el]
      exact small1000 (by omega)
    · rw [upd_same, List.map_append]
      rfl
    · have hzz : (List.zipWith F xs rows)[i]? = some (F x' r) := by rw [List.getElem?_zipWith, hx', hr]
      rw [take_snoc hzz]
      refine paired_snoc (rows_but p3 fun b hb o g => ?_) ?_
      · rw [upd_ne (fun z => p6 (by rw [← z]; exact hb))]
        exact e4 _ _ (xT _ _ g)
      · rw [upd_ne nqD]
        exact hq
    · intro b hb
      rcases List.mem_append.mp hb with h | h
      · exact p4 b h
      · rw [show b = q by simpa using h]
        exact fresh_back (e1.trans p1) nqH'
    · refine List.nodup_append.mpr ⟨p5, by simp, fun b hb c' hc' z => ?_⟩
      have : c' = q := by simpa using hc'
      have hb' : q ∈ bs := by rw [← this, ← z]; exact hb
      obtain ⟨y, _, hy⟩ := paired_mem p3 hb'
      rw [nqH'] at hy
      cases hy
    · intro hb
      rcases List.mem_append.mp hb with h | h
      · exact p6 h
      · exact nqD (by simpa using h : D = q).symm
  · obtain ⟨bs, p1, p2, p3, p4, p5, p6⟩ := p
    rw [List.take_of_length_le (by rw [List.length_zipWith, List.length_map]; omega)] at p3
    exact k D bs H' hDH p4 p5 p6 (e1.trans p1) ⟨p2, p3⟩
theorem flat_ints (ns : List Int) : (ns.map V.int).all flatV = true := by
  rw [List.all_eq_true]
  intro x hx
  obtain ⟨i, _, rfl⟩ := List.mem_map.mp hx
  rfl
/-- -1 at the picked places, else 1 -/
def sgnAt (ns : List Int) (kk : Nat) : Int := if inV (.int (kk : Int)) (ns.map V.int) = true then -1 else 1
theorem sgnAt_two (ns : List Int) (kk : Nat) : sgnAt ns kk = 1 ∨ sgnAt ns kk = -1 := by
  unfold sgnAt
  split
  · exact .inr rfl
  · exact .inl rfl
def sgns (ns : List Int) (m : Nat) : List Int := (List.range m).map (sgnAt ns)
theorem sgns_mem {ns : List Int} {m : Nat} {x : Int} (h : x ∈ sgns ns m) : x = 1 ∨ x = -1 := by
  obtain ⟨kk, _, rfl⟩ := List.mem_map.mp h
  exact sgnAt_two ns kk
def signedOf (rows : List (List Int)) (ris cis : List Int) (m w : Nat) : List (List Int) := List.zipWith (fun s r => List.zipWith (fun c y => s * c * y) (sgns cis w) r) (sgns ris m) rows
theorem bd_sgn {x : Int} (h : x = 1 ∨ x = -1) : Bd 2 x := by
  rcases h with rfl | rfl <;> (unfold Bd; decide)
/-! ### fractions -/
def gcdI (t b : Int) : Int := ((Nat.gcd t.natAbs b.natAbs : Nat) : Int)
/-- the divisor that fraction takes -/
def comI (t b : Int) : Int := if b < 0 then -(gcdI t b) else gcdI t b
theorem gcdI_pos {t b : Int} (h : b ≠ 0) : 0 < gcdI t b := by
  unfold gcdI
  have : 0 < Nat.gcd t.natAbs b.natAbs := Nat.gcd_pos_of_pos_right _ (by omega)
  omega
theorem comI_ne {t b : Int} (h : b ≠ 0) : comI t b ≠ 0 := by
  have := gcdI_pos (t := t) h
  unfold comI
  split <;> omega
theorem gcdI_le {t b : Int} (h : b ≠ 0) : (gcdI t b).natAbs ≤ b.natAbs := by
  unfold gcdI
  rw [Int.natAbs_natCast]
  exact Nat.gcd_le_right _ (by omega)
theorem comI_bd {t b : Int} {n : Nat} (h : b ≠ 0) (g : Bd n b) : Bd n (comI t b) := by
  have e : (comI t b).natAbs = (gcdI t b).natAbs := by
    unfold comI
    split
    · exact Int.natAbs_neg _
    · rfl
  exact Bd.abs g (by rw [e]; exact gcdI_le h)
/-- a value that is_fraction is asked of, and its answer -/
inductive FracV (K : PySem.W.Frag) (H : Hp) : V → Bool → Prop where
  | two {p : Addr} {t b : Int} (e : H p = some (.tup [.int t, .int b])) : FracV K H (.ref p) (decide (1 ≤ b) && decide (gcdI t b = 1))
  | odd1 {p : Addr} {x y : V} {t : String} (e : H p = some (.tup [x, y])) (h : TyX K H x (.type t)) (k : tyOk t) (n : t ≠ "int") : FracV K H (.ref p) false
  | odd2 {p : Addr} {t : Int} {y : V} {u : String} (e : H p = some (.tup [.int t, y])) (h : TyX K H y (.type u)) (k : tyOk u) (n : u ≠ "int") : FracV K H (.ref p) false
  | len {p : Addr} {xs : List V} (e : H p = some (.tup xs)) (n : xs.length ≠ 2) : FracV K H (.ref p) false
  | no {x : V} {t : String} (h : TyX K H x (.type t)) (k : tyOk t) (n : t ≠ "tuple") : FracV K H x false

theorem great_at (k : Int) (h0 : 0 ≤ k) (h1 : k < 4) : ∃ g : Int, atI [V.int 7, V.int 1000, V.int (10 ^ (12 : Int).toNat), V.int (10 ^ (39 : Int).toNat)] k = some (.int g) ∧ 0 < g ∧ Bd 130 g := by
  have hk : k = 0 ∨ k = 1 ∨ k = 2 ∨ k = 3 := by omega
  rcases hk with rfl | rfl | rfl | rfl <;> exact ⟨_, rfl, by decide +kernel, by unfold Bd; decide +kernel⟩
theorem gcdI_dvd_l (t b : Int) : gcdI t b ∣ t := Int.gcd_dvd_left ..
theorem gcdI_dvd_r (t b : Int) : gcdI t b ∣ b := Int.gcd_dvd_right ..
theorem gcdI_mul (m a b : Int) : gcdI (m * a) (m * b) = (m.natAbs : Int) * gcdI a b := by
  unfold gcdI
  rw [Int.natAbs_mul, Int.natAbs_mul, Nat.gcd_mul_left, Int.natCast_mul]
/-- what low tells is in lowest terms -/
theorem low_terms {t b : Int} (h : 0 < b) : 0 < b / gcdI t b ∧ gcdI (t / gcdI t b) (b / gcdI t b) = 1 ∧ (t / gcdI t b).natAbs ≤ t.natAbs ∧ (b / gcdI t b).natAbs ≤ b.natAbs := by
  have gp := gcdI_pos (t := t) (show b ≠ 0 by omega)
  obtain ⟨x, hx⟩ := gcdI_dvd_l t b
  obtain ⟨y, hy⟩ := gcdI_dvd_r t b
  generalize hg : gcdI t b = g at gp hx hy ⊢
  have e1 : t / g = x := by rw [hx]; exact Int.mul_ediv_cancel_left _ (by omega)
  have e2 : b / g = y := by rw [hy]; exact Int.mul_ediv_cancel_left _ (by omega)
  rw [e1, e2]
  have hy0 : 0 < y := by
    rw [hy] at h
    exact Int.pos_of_mul_pos_right h gp |> fun z => z
  refine ⟨hy0, ?_, ?_, ?_⟩
  · have e3 := gcdI_mul g x y
    rw [← hx, ← hy, hg] at e3
    have e4 : (g.natAbs : Int) = g := by omega
    rw [e4] at e3
    have e5 : g * 1 = g * gcdI x y := by rw [Int.mul_one]; exact e3
    exact (Int.eq_of_mul_eq_mul_left (by omega) e5).symm
  · rw [hx, Int.natAbs_mul]
    exact Nat.le_mul_of_pos_left _ (by omega)
  · rw [hy, Int.natAbs_mul]
    exact Nat.le_mul_of_pos_left _ (by omega)
/-- fraction and low agree -/
theorem frac_low {t b : Int} (h : 0 < b) : t.fdiv (comI t b) = t / gcdI t b ∧ b.fdiv (comI t b) = b / gcdI t b := by
  have e : comI t b = gcdI t b := by
    unfold comI
    rw [if_neg (by omega)]
  have gp := gcdI_pos (t := t) (show b ≠ 0 by omega)
  rw [e]
  exact ⟨Int.fdiv_eq_ediv_of_nonneg _ (by omega), Int.fdiv_eq_ediv_of_nonneg _ (by omega)⟩
theorem gcdI_neg_neg (t b : Int) : gcdI (-t) (-b) = gcdI t b := by
  unfold gcdI
  rw [Int.natAbs_neg, Int.natAbs_neg]
theorem frac_low_neg {t b : Int} (h : b < 0) : t.fdiv (comI t b) = (-t) / gcdI (-t) (-b) ∧ b.fdiv (comI t b) = (-b) / gcdI (-t) (-b) := by
  have e : comI t b = -(gcdI t b) := by
    unfold comI
    rw [if_pos h]
  have gp := gcdI_pos (t := t) (show b ≠ 0 by omega)
  rw [e, gcdI_neg_neg]
  obtain ⟨x, hx⟩ := gcdI_dvd_l t b
  obtain ⟨y, hy⟩ := gcdI_dvd_r t b
  generalize gcdI t b = g at gp hx hy ⊢
  have aux : ∀ z w : Int, z = g * w → z.fdiv (-g) = (-z) / g := by
    intro z w hz
    have e1 : z = (-g) * (-w) := by rw [hz, Int.neg_mul_neg]
    have e2 : -z = g * (-w) := by rw [hz, Int.mul_neg]
    have e3 : z.fdiv (-g) = -w := by rw [e1]; exact Int.mul_fdiv_cancel_left _ (by omega)
    rw [e3, e2, Int.mul_ediv_cancel_left _ (by omega)]
  exact ⟨aux t x hx, aux b y hy⟩
theorem frac_share {m a b : Int} (hm : m ≠ 0) (hb : 0 < b) (hg : gcdI a b = 1) : (m * a).fdiv (comI (m * a) (m * b)) = a ∧ (m * b).fdiv (comI (m * a) (m * b)) = b := by
  have e : comI (m * a) (m * b) = m := by
    unfold comI
    rw [gcdI_mul, hg, Int.mul_one]
    by_cases h : m < 0
    · rw [if_pos (Int.mul_neg_of_neg_of_pos h hb)]
      omega
    · rw [if_neg (by have := Int.mul_pos (show 0 < m by omega) hb; omega)]
      omega
  rw [e]
  exact ⟨Int.mul_fdiv_cancel_left _ hm, Int.mul_fdiv_cancel_left _ hm⟩
theorem frac_one (a : Int) : a.fdiv (comI a 1) = a ∧ (1 : Int).fdiv (comI a 1) = 1 := by
  have e : comI a 1 = 1 := by
    unfold comI gcdI
    rw [if_neg (by decide)]
    show ((Nat.gcd a.natAbs 1 : Nat) : Int) = 1
    rw [Nat.gcd_one_right]
    rfl
  rw [e]
  exact ⟨Int.fdiv_one a, rfl⟩

theorem paired_get {α β : Type} {R : α → β → Prop} : ∀ {xs : List α} {ys : List β} {i : Nat} {x : α}, Paired R xs ys → xs[i]? = some x → ∃ y, ys[i]? = some y ∧ R x y
  | _, _, _, _, .nil, h => by simp at h
  | _, _, 0, _, .cons r _, h => ⟨_, rfl, by
      have e := Option.some.inj h
      subst e
      exact r⟩
  | _, _, i + 1, _, .cons _ t, h => paired_get (i := i) t h
theorem tyx_ex {K : PySem.W.Frag} {H H' : Hp} (e : Ex H H') {x : V} {t : String} (k : tyOk t) (h : TyX K H x (.type t)) : TyX K H' x (.type t) := by
    cases h with
    | base b =>
      cases b with
      | non => exact .base .non
      | bl y => exact .base (.bl y)
      | int i => exact .base (.int i)
      | str y => exact .base (.str y)
      | flt y => exact .base (.flt y)
      | lst h => exact .base (.lst (e _ _ h))
      | frz h => exact .base (.frz (e _ _ h))
      | tup h => exact .base (.tup (e _ _ h))
      | dK h => exact .base (.dK (e _ _ h))
      | dT h => exact .base (.dT (e _ _ h))
    | byt y => exact .byt y
    | set h => exact .set (e _ _ h)
    | kList h c => exact .kList h c
    | kTuple h c => exact .kTuple h c
    | kDict h c => exact .kDict h c
    | fTuple h => exact .fTuple (e _ _ h)
    | fDict h => exact .fDict (e _ _ h)
theorem FracV.ex {K : PySem.W.Frag} {H H' : Hp} {x : V} {r : Bool} (e : Ex H H') (f : FracV K H x r) : FracV K H' x r := by
  cases f with
  | two h => exact .two (e _ _ h)
  | odd1 h a k n => exact .odd1 (e _ _ h) (tyx_ex e k a) k n
  | odd2 h a k n => exact .odd2 (e _ _ h) (tyx_ex e k a) k n
  | len h n => exact .len (e _ _ h) n
  | no a k n => exact .no (tyx_ex e k a) k n
/-- what is_whole is asked of, and its answer -/
def WhoV (K : PySem.W.Frag) (H : Hp) (x : V) (r : Bool) : Prop := ∃ t, TyX K H x (.type t) ∧ tyOk t ∧ r = (t == "int")
theorem dp_bools {K : PySem.W.Frag} {H : Hp} : ∀ bs : List Bool, DpAll K H (bs.map V.bl) (bs.map PyData.bool)
  | [] => .nil
  | b :: r => .cons (.bl b) (dp_bools r)
theorem sgn_at (c : Int) : atI [V.int 1, V.int (-1)] (if decide (c < 0) = true then 1 else 0) = some (.int (if c < 0 then -1 else 1)) := by
  by_cases h : c < 0
  · rw [decide_eq_true h, if_pos rfl, if_pos h]
    rfl
  · rw [decide_eq_false h, if_neg Bool.false_ne_true, if_neg h]
    rfl
theorem turn_at (f : Int) (h0 : 0 ≤ f) (h1 : f < 2) : ∃ t : Int, atI [V.int 1, V.int (-1)] f = some (.int t) ∧ t ≠ 0 ∧ Bd 2 t := by
  have : f = 0 ∨ f = 1 := by omega
  rcases this with rfl | rfl <;> exact ⟨_, rfl, by decide, by unfold Bd; decide⟩
theorem c_tup {ta : TA} {σ : L2.St} {H : Hp} {Q : VK} {vs : List V} (h : EvA ta σ H vs) (hl : vs.length ≤ 100000) (k : ∀ p H2, H p = none → Ex H H2 → H2 p = some (.tup vs) → Q (.ref p) H2) : tTup ta σ H Q := eu_tup h hl H (Ex.refl H) Q k
theorem c_lst {ta : TA} {σ : L2.St} {H : Hp} {Q : VK} {vs : List V} (h : EvA ta σ H vs) (hl : vs.length ≤ 100000) (k : ∀ p H2, H p = none → Ex H H2 → H2 p = some (.lst vs) → Q (.ref p) H2) : tLst ta σ H Q := el_lst h hl H (Ex.refl H) Q k
/-- [f(x) for x in xs], the answers rs -/
theorem t_ask {K : PySem.W.Frag} {n j : Nat} {a : Addr} {xs : List V} {rs : List Bool} {R : V → Bool → Prop} {te : TE} {vs : List Nat} {σ : L2.St} {H : Hp} {Q : VK} (hσ : σ[n]? = some (some (.ref a))) (hx : H a = some (.lst xs)) (hl : xs.length ≤ 1000) (hR : Paired R xs rs)
    (hs : ∀ x r H', Ex H H' → R x r → ∀ Q : VK, Q (.bl r) H' → te ((wipe σ vs).set j (some x)) H' Q) (hw : ∀ x, wipe ((wipe σ vs).set j (some x)) vs = wipe σ vs)
    (hd : ∀ D H', H D = none → Ex H H' → H' D = some (.lst (rs.map V.bl)) → Q (.ref D) H') : tLc (iList K (tVar n)) (gName j) tYes te vs σ H Q := by
  refine ⟨_, hσ, a, rfl, ⟨_, SqL.of hx⟩, fun D hD => ?_⟩
  refine lc_list (K := K) (a := a) (xs := xs) (fun i H' => Ex H H' ∧ H' D = some (.lst ((rs.take i).map V.bl))) ⟨Ex.new hD, upd_same⟩ (fun i H' _ h => SqL.of (h.1 _ _ hx)) (fun i x H' hi h => ?_) (fun H' h => ?_)
  · obtain ⟨e, hD'⟩ := h
    obtain ⟨r, hr, f⟩ := paired_get hR hi
    refine ⟨hw x, ?_⟩
    show te ((wipe σ vs).set j (some x)) H' _
    refine hs x r H' e f _ ⟨_, hD', ?_, Ex.mut e hD, ?_⟩
    · rw [List.length_map, List.length_take]
      have h1 := (List.getElem?_eq_some_iff.mp hi).1
      exact small1000 (by omega)
    · rw [upd_same, List.take_add_one, hr, List.map_append]
      rfl
  · obtain ⟨e, hD'⟩ := h
    have el : xs.length = rs.length := Paired.length hR
    rw [el, List.take_length] at hD'
    exact hd D H' hD e hD'
theorem el_ask {K : PySem.W.Frag} {n j : Nat} {a : Addr} {xs : List V} {rs : List Bool} {R : V → Bool → Prop} {te : TE} {vs : List Nat} {σ : L2.St} {H : Hp} (hσ : σ[n]? = some (some (.ref a))) (hx : H a = some (.lst xs)) (hl : xs.length ≤ 1000) (hR : Paired R xs rs)
    (hs : ∀ x r H', Ex H H' → R x r → ∀ Q : VK, Q (.bl r) H' → te ((wipe σ vs).set j (some x)) H' Q) (hw : ∀ x, wipe ((wipe σ vs).set j (some x)) vs = wipe σ vs) : EvL (tLc (iList K (tVar n)) (gName j) tYes te vs) σ H (rs.map V.bl) :=
  fun H1 e Q q => t_ask hσ (e _ _ hx) hl hR (fun x r H' e' f => hs x r H' (e.trans e') f) hw q
theorem rv_neB {K : PySem.W.Frag} {p q : Addr} {bs : List Bool} {H : Hp} (hp : SqL K H p (bs.map V.bl)) (hq : SqL K H q (bs.map V.bl)) (hs : SeqAt.shaped (.list (bs.map PyData.bool)) = true) : RV (rNeD K) (.ref p) (.ref q) H (.bl false) := fun H1 e Q k =>
  ⟨_, _, .lst (ex_l e hp) (dp_bools bs), .lst (ex_l e hq) (dp_bools bs), hs, hs, by
    rw [SeqAt.eqv_refl _ (SeqAt.canLay_of_shaped hs)]
    exact k H1 (Ex.refl _)⟩
theorem el_cat {σ : L2.St} {H : Hp} {ta tb : TE} {xs ys : List V} (ha : EvL ta σ H xs) (hb : EvL tb σ H ys) (hz : xs.length + ys.length ≤ 100000) : EvL (tOp rCat ta tb) σ H (xs ++ ys) := fun H1 e Q q =>
  ha H1 e _ fun p H2 _ e2 hp => hb H2 (e.trans e2) _ fun r H3 _ e3 hr => ⟨p, r, xs, ys, rfl, rfl, e3 _ _ hp, hr, sz_of hz, fun u hu => q u _ (fresh_back (e2.trans e3) hu) ((e2.trans e3).trans (Ex.new hu)) upd_same⟩
theorem el_rep {σ : L2.St} {H : Hp} {ta tb : TE} {xs : List V} {k : Int} (ha : EvL ta σ H xs) (hb : Ev tb σ H (.int k)) (h0 : 0 ≤ k ∧ k ≤ 100000) (hz : xs.length * k.toNat ≤ 100000) : EvL (tOp rRep ta tb) σ H (List.replicate k.toNat xs).flatten := fun H1 e Q q =>
  ha H1 e _ fun p H2 _ e2 hp => hb H2 (e.trans e2) _ fun H3 e3 => ⟨p, k, xs, rfl, rfl, e3 _ _ hp, by omega, by omega, sz_of hz, fun u hu => q u _ (fresh_back (e2.trans e3) hu) ((e2.trans e3).trans (Ex.new hu)) upd_same⟩
theorem tcons_c {v : V} {r : TA} {σ : L2.St} {H : Hp} {Q : List V → Hp → Prop} (h : r σ H fun xs H2 => Q (v :: xs) H2) : tCons (tC v) r σ H Q := h
theorem due_eq {b c : Int} (X : Int) (hb : 0 < b) (hc : c ≠ 0) :
    (X * (if c < 0 then -1 else 1)) / gcdI (X * (if c < 0 then -1 else 1)) (b * (if (if c < 0 then -c else c) > 1 then (if c < 0 then -c else c) else 1)) = X.fdiv (comI X (b * c)) ∧
    (b * (if (if c < 0 then -c else c) > 1 then (if c < 0 then -c else c) else 1)) / gcdI (X * (if c < 0 then -1 else 1)) (b * (if (if c < 0 then -c else c) > 1 then (if c < 0 then -c else c) else 1)) = (b * c).fdiv (comI X (b * c)) := by
  have e : (if (if c < 0 then -c else c) > 1 then (if c < 0 then -c else c) else 1) = (if c < 0 then -c else c) := by
    split <;> split <;> omega
  rw [e]
  by_cases h : c < 0
  · rw [if_pos h, if_pos h, Int.mul_neg, Int.mul_neg, Int.mul_one]
    have hn : b * c < 0 := Int.mul_neg_of_pos_of_neg hb h
    exact ⟨(frac_low_neg hn).1.symm, (frac_low_neg hn).2.symm⟩
  · rw [if_neg h, if_neg h, Int.mul_one]
    have hp : 0 < b * c := Int.mul_pos hb (by omega)
    exact ⟨(frac_low hp).1.symm, (frac_low hp).2.symm⟩
theorem max_abs (c : Int) (h : c ≠ 0) : (if (if c < 0 then -c else c) > 1 then (if c < 0 then -c else c) else 1) = (if c < 0 then -c else c) := by
  split <;> split <;> omega
/-! ### fractions as the rational numbers -/
def frV (q : Rat) : List V := [.int q.num, .int (q.den : Int)]
theorem fr_low {t b : Int} (h : 0 < b) : [V.int (t / gcdI t b), V.int (b / gcdI t b)] = frV (mkRat t b.toNat) := by
  have e : b.toNat ≠ 0 := by omega
  have g : gcdI t b = ((b.toNat.gcd t.natAbs : Nat) : Int) := by
    unfold gcdI
    rw [Nat.gcd_comm, show b.natAbs = b.toNat by omega]
  have hb : b = (b.toNat : Int) := by omega
  unfold frV
  rw [Rat.num_mkRat, Rat.den_mkRat, if_neg e, if_neg e, g, Int.natCast_ediv, ← hb]
theorem fr_com {t b : Int} (h : 0 < b) : [V.int (t.fdiv (comI t b)), V.int (b.fdiv (comI t b))] = frV (mkRat t b.toNat) := by
  have e : comI t b = gcdI t b := if_neg (by omega)
  have g := gcdI_pos (t := t) (b := b) (by omega)
  rw [e, Int.fdiv_eq_ediv_of_nonneg _ (by omega), Int.fdiv_eq_ediv_of_nonneg _ (by omega)]
  exact fr_low h
theorem den_pos (x y : Rat) : 0 < (x.den : Int) * (y.den : Int) := Int.mul_pos (Int.natCast_pos.mpr x.den_pos) (Int.natCast_pos.mpr y.den_pos)
theorem den_ne (x y : Rat) : (x.den : Int) * (y.den : Int) ≠ 0 := Int.ne_of_gt (den_pos x y)
theorem den_nat (x y : Rat) : ((x.den : Int) * (y.den : Int)).toNat = x.den * y.den := by
  rw [← Int.natCast_mul]
  exact Int.toNat_natCast _
theorem fr_plus {x y : Rat} : mkRat (x.num * (y.den : Int) + y.num * (x.den : Int)) ((x.den : Int) * (y.den : Int)).toNat = x + y := by
  rw [den_nat, ← Rat.add_def']
theorem fr_mul {x y : Rat} : mkRat (x.num * y.num) ((x.den : Int) * (y.den : Int)).toNat = x * y := by
  rw [den_nat, ← Rat.mul_def']
theorem num_one (a : Int) : (mkRat a 1).num = a := by
  rw [Rat.num_mkRat]
  simp
theorem den_one (a : Int) : (mkRat a 1).den = 1 := by
  rw [Rat.den_mkRat]
  simp
theorem fr_int {a : Int} {x : Rat} : mkRat (a * x.num) x.den = mkRat a 1 * x := by
  have h := Rat.mkRat_mul_mkRat a x.num 1 x.den
  rw [Rat.mkRat_self, Nat.one_mul] at h
  exact h.symm
def BdQ (n d : Nat) (q : Rat) : Prop := Bd n q.num ∧ Bd d (q.den : Int)
theorem BdQ.mono {n d n' d' : Nat} {q : Rat} (h : BdQ n d q) (a : n ≤ n') (b : d ≤ d') : BdQ n' d' q := ⟨h.1.mono a, h.2.mono b⟩
theorem mk_bd {n d : Nat} {t : Int} {b : Nat} (hb : b ≠ 0) (h1 : Bd n t) (h2 : Bd d (b : Int)) : BdQ n d (mkRat t b) := by
  unfold BdQ
  rw [Rat.num_mkRat, Rat.den_mkRat, if_neg hb, if_neg hb]
  constructor
  · refine h1.abs ?_
    exact Int.natAbs_ediv_le_natAbs _ _
  · refine h2.abs ?_
    rw [Int.natAbs_natCast, Int.natAbs_natCast]
    exact Nat.div_le_self _ _
theorem add_bd {n d n' d' k : Nat} {x y : Rat} (hx : BdQ n d x) (hy : BdQ n' d' y) (h1 : n + d' ≤ k) (h2 : n' + d ≤ k) : BdQ (k + 1) (d + d') (x + y) := by
  rw [Rat.add_def']
  refine mk_bd (Nat.mul_ne_zero x.den_nz y.den_nz) (((hx.1.mul hy.2).mono h1).add ((hy.1.mul hx.2).mono h2)) ?_
  rw [Int.natCast_mul]
  exact hx.2.mul hy.2
theorem times_bd {n m d : Nat} {a : Int} {x : Rat} (ha : Bd n a) (hx : BdQ m d x) : BdQ (n + m) d (mkRat a 1 * x) := by
  rw [← fr_int]
  exact mk_bd x.den_nz (ha.mul hx.1) hx.2
def terms (ns : List Int) (qs : List Rat) : List Rat := List.zipWith (fun a x => mkRat a 1 * x) ns qs
def psum (ts : List Rat) (i : Nat) : Rat := (ts.take i).foldl (· + ·) 0
def fsum (ns : List Int) (qs : List Rat) : Rat := (terms ns qs).foldl (· + ·) 0
theorem psum_succ {ts : List Rat} {i : Nat} {x : Rat} (h : ts[i]? = some x) : psum ts (i + 1) = psum ts i + x := by
  unfold psum
  rw [take_snoc h, List.foldl_append]
  rfl
theorem psum_all {ts : List Rat} {i : Nat} (h : ts.length ≤ i) : psum ts i = ts.foldl (· + ·) 0 := by
  unfold psum
  rw [List.take_of_length_le h]
theorem terms_at {ns : List Int} {qs : List Rat} {i : Nat} {n : Int} {q : Rat} (h1 : ns[i]? = some n) (h2 : qs[i]? = some q) : (terms ns qs)[i]? = some (mkRat n 1 * q) := by
  unfold terms
  rw [List.getElem?_zipWith, h1, h2]
theorem terms_bd {n m d : Nat} {ns : List Int} {qs : List Rat} (hn : ∀ y ∈ ns, Bd n y) (hq : ∀ q ∈ qs, BdQ m d q) : ∀ t ∈ terms ns qs, BdQ (n + m) d t := by
  intro t ht
  obtain ⟨i, hi⟩ := List.mem_iff_getElem?.mp ht
  unfold terms at hi
  rw [List.getElem?_zipWith] at hi
  cases h1 : ns[i]? with
  | none => rw [h1] at hi; cases hi
  | some a =>
    cases h2 : qs[i]? with
    | none => rw [h1, h2] at hi; cases hi
    | some q =>
      rw [h1, h2] at hi
      cases hi
      exact times_bd (hn a (List.mem_of_getElem? h1)) (hq q (List.mem_of_getElem? h2))
theorem psum_bd {n d : Nat} {ts : List Rat} (h : ∀ t ∈ ts, BdQ n d t) : ∀ i : Nat, BdQ (1 + i * (n + d + 1)) (1 + i * d) (psum ts i)
  | 0 => by
    unfold psum
    rw [List.take_zero, Nat.zero_mul, Nat.zero_mul]
    exact ⟨by show (0 : Nat) < _; exact Nat.two_pow_pos _, by show (1 : Nat) < 2 ^ (1 + 0); decide⟩
  | i + 1 => by
    have ih := psum_bd h i
    cases e : ts[i]? with
    | none =>
      have : psum ts (i + 1) = psum ts i := by
        have hl := List.getElem?_eq_none_iff.mp e
        rw [psum_all hl, psum_all (by omega)]
      rw [this]
      exact ih.mono (by rw [Nat.succ_mul]; omega) (by rw [Nat.succ_mul]; omega)
    | some x =>
      rw [psum_succ e]
      have e1 : i * (n + d + 1) = i * n + i * d + i := by rw [Nat.mul_add, Nat.mul_add, Nat.mul_one]
      exact (add_bd (k := i * (n + d + 1) + n + d + 1) ih (h x (List.mem_of_getElem? e)) (by omega) (by omega)).mono (by rw [Nat.succ_mul]; omega) (by rw [Nat.succ_mul]; omega)
/-- fractions in a list -/
def FrsAt (H : Hp) : List Addr → List Rat → Prop := Paired fun a q => H a = some (.tup (frV q))
def FrL (H : Hp) (p : Addr) (bs : List Addr) (qs : List Rat) : Prop := H p = some (.lst (bs.map V.ref)) ∧ FrsAt H bs qs
theorem FrsAt.ex {H H' : Hp} {bs : List Addr} {qs : List Rat} (h : FrsAt H bs qs) (e : Ex H H') : FrsAt H' bs qs := paired_imp (fun _ _ r => e _ _ r) h
theorem FrL.ex {H H' : Hp} {p : Addr} {bs : List Addr} {qs : List Rat} (h : FrL H p bs qs) (e : Ex H H') : FrL H' p bs qs := ⟨e _ _ h.1, h.2.ex e⟩
/-- [f(x) for x in xs], truths -/
theorem el_bools {K : PySem.W.Frag} {n j : Nat} {a : Addr} {xs : List V} {bs : List Bool} {te : TE} {vs : List Nat} {σ : L2.St} {H : Hp} (hσ : σ[n]? = some (some (.ref a))) (hx : H a = some (.lst xs)) (hl : xs.length ≤ 1000) (hb : xs.length = bs.length)
    (hs : ∀ (i : Nat) (x : V) (r : Bool) (H' : Hp), xs[i]? = some x → bs[i]? = some r → Ex H H' → Ev te ((wipe σ vs).set j (some x)) H' (.bl r)) (hw : ∀ x, wipe ((wipe σ vs).set j (some x)) vs = wipe σ vs) : EvL (tLc (iList K (tVar n)) (gName j) tYes te vs) σ H (bs.map V.bl) := by
  intro H0 e0 Q0 q0
  have hx0 := e0 _ _ hx
  refine ⟨_, hσ, a, rfl, ⟨_, SqL.of hx0⟩, fun D hD => ?_⟩
  refine lc_list (K := K) (a := a) (xs := xs) (fun i H' => Ex H0 H' ∧ H' D = some (.lst ((bs.take i).map V.bl))) ⟨Ex.new hD, upd_same⟩ (fun i H' _ p => SqL.of (p.1 _ _ hx0)) (fun i x H' gx p => ?_) (fun H' p => ?_)
  · obtain ⟨p1, p2⟩ := p
    have hi := (List.getElem?_eq_some_iff.mp gx).1
    have gb : bs[i]? = some bs[i] := List.getElem?_eq_getElem (by omega)
    refine ⟨hw _, ?_⟩
    show te _ _ _
    refine hs i x _ H gx gb (Ex.refl H) _ (e0.trans p1) _ fun H4 e4 => ?_
    refine ⟨_, e4 _ _ p2, ?_, Ex.mut (p1.trans e4) hD, ?_⟩
    · rw [List.length_map, List.length_take]
      exact small1000 (by omega)
    · rw [upd_same, take_snoc gb, List.map_append]
      rfl
  · obtain ⟨p1, p2⟩ := p
    rw [hb, List.take_length] at p2
    exact q0 D H' hD p1 p2
theorem all_map {bs : List Bool} : bs.all id = true ↔ ∀ b ∈ bs, b = true := by
  rw [List.all_eq_true]
  rfl
theorem ev_allB {K : PySem.W.Frag} {ta : TE} {σ : L2.St} {H : Hp} {bs : List Bool} (h : EvL ta σ H (bs.map V.bl)) : Ev (tCB (rAll K) (tCons ta tNil)) σ H (.bl (bs.all id)) := fun H1 e Q q =>
  h H1 e _ fun p H2 _ e2 hp => ⟨p, _, rfl, SqL.of hp, q H2 e2⟩
def EvQ (te : TE) (σ : L2.St) (H : Hp) (q : Rat) : Prop := ∀ H1, Ex H H1 → ∀ Q : VK, (∀ t H2, Ex H1 H2 → H2 t = some (.tup (frV q)) → Q (.ref t) H2) → te σ H1 Q
theorem fr_true {q : Rat} : (decide (1 ≤ (q.den : Int)) && decide (gcdI q.num (q.den : Int) = 1)) = true := by
  have h1 : (1 : Int) ≤ (q.den : Int) := by
    have := q.den_pos
    omega
  have h2 : gcdI q.num (q.den : Int) = 1 := by
    unfold gcdI
    rw [Int.natAbs_natCast, q.reduced.gcd_eq_one]
    rfl
  rw [decide_eq_true h1, decide_eq_true h2]
  rfl
theorem lf_rows {K : PySem.W.Frag} {nn : Nat} {te : TE} {vs : List Nat} {j : Nat} {σ : L2.St} {H : Hp} {Q : VK} {a : Addr} {as0 : List Addr} {rows : List (List Int)} (F : List Int → Rat) (hσ : σ[nn]? = some (some (.ref a))) (ht : Tab H a as0 rows) (hm : rows.length ≤ 1000) (hw : ∀ u, wipe ((wipe σ vs).set j (some u)) vs = wipe σ vs)
    (he : ∀ c r H1, r ∈ rows → H c = some (.lst (r.map V.int)) → Ex H H1 → EvQ te ((wipe σ vs).set j (some (.ref c))) H1 (F r))
    (k : ∀ p bs H2, H p = none → Ex H H2 → FrL H2 p bs (rows.map F) → Q (.ref p) H2) : tLc (iList K (tVar nn)) (gName j) tYes te vs σ H Q := by
  refine ⟨_, hσ, a, rfl, ⟨_, SqL.of ht.1⟩, fun D hD => ?_⟩
  refine lc_list (K := K) (a := a) (xs := as0.map V.ref) (fun i H' => ∃ bs, Ex H H' ∧ H' D = some (.lst (bs.map V.ref)) ∧ FrsAt H' bs ((rows.take i).map F)) ⟨[], Ex.new hD, upd_same, .nil⟩ (fun i H' _ ⟨_, p1, _⟩ => SqL.of (p1 _ _ ht.1)) (fun i x H' gx p => ?_) (fun H' p => ?_)
  · obtain ⟨bs, p1, p2, p3⟩ := p
    rw [List.getElem?_map] at gx
    obtain ⟨c0, hc0, rfl⟩ := Option.map_eq_some_iff.mp gx
    obtain ⟨y, hy, hh⟩ := paired_get ht.2 hc0
    have hi := (List.getElem?_eq_some_iff.mp hy).1
    have el : bs.length = i := by rw [Paired.length p3, List.length_map, List.length_take]; omega
    refine ⟨hw _, ?_⟩
    show te _ H' _
    refine he c0 y H' (List.mem_of_getElem? hy) hh p1 H' (Ex.refl _) _ fun r H4 e4 hr => ?_
    refine ⟨_, e4 _ _ p2, ?_, bs ++ [r], Ex.mut (p1.trans e4) hD, ?_, ?_⟩
    · rw [List.length_map, el]
      exact small1000 (by omega)
    · rw [upd_same, List.map_append]
      rfl
    · rw [take_snoc hy, List.map_append]
      have p24 := e4 _ _ p2
      refine paired_snoc (paired_imp (fun b q h => tups_U p24 _ _ (e4 _ _ h)) p3) ?_
      exact tups_U p24 _ _ hr
  · obtain ⟨bs, p1, p2, p3⟩ := p
    rw [List.length_map, Paired.length ht.2, List.take_length] at p3
    exact k D bs H' hD p1 ⟨p2, p3⟩
namespace Fq
end Fq

/-! ### values of any kind -/
/-- all that is no table of code and doesn't stand at s stays -/
def Kp (s : Addr) (H H' : Hp) : Prop := ∀ b o, b ≠ s → H b = some o → (∀ ps, o ≠ .tbl ps) → H' b = some o
theorem Kp.of {s : Addr} {H H' : Hp} (e : Ex H H') : Kp s H H' := fun b o _ h _ => e b o h
theorem Kp.ofB {s : Addr} {H H' : Hp} (e : ExB s H H') : Kp s H H' := fun b o n h _ => e b o n h
theorem Kp.ofN {s : Addr} {H H' : Hp} (e : LamX.ExtN H H') : Kp s H H' := fun b o _ h n => e b o h n
theorem Kp.trans {s : Addr} {H H1 H2 : Hp} (a : Kp s H H1) (b : Kp s H1 H2) : Kp s H H2 := fun c o n h z => b c o n (a c o n h z) z
inductive Kd (s : Addr) (H : Hp) : V → String → Prop
  | non : Kd s H .non "NoneType"
  | bl (b : Bool) : Kd s H (.bl b) "bool"
  | int (i : Int) : Kd s H (.int i) "int"
  | str (x : Str) : Kd s H (.str x) "str"
  | lst {a : Addr} {xs : List V} (h : H a = some (.lst xs)) (n : a ≠ s) : Kd s H (.ref a) "list"
  | tup {a : Addr} {xs : List V} (h : H a = some (.tup xs)) (n : a ≠ s) : Kd s H (.ref a) "tuple"
  | dct {a : Addr} {kvs : List (Key × V)} (h : H a = some (.dK kvs)) (n : a ≠ s) : Kd s H (.ref a) "dict"
theorem Kd.kp {s : Addr} {H H' : Hp} {v : V} {t : String} (h : Kd s H v t) (e : Kp s H H') : Kd s H' v t := by
  cases h with
  | non => exact .non
  | bl b => exact .bl b
  | int i => exact .int i
  | str x => exact .str x
  | lst h n => exact .lst (e _ _ n h (fun _ z => by cases z)) n
  | tup h n => exact .tup (e _ _ n h (fun _ z => by cases z)) n
  | dct h n => exact .dct (e _ _ n h (fun _ z => by cases z)) n
theorem Kd.ty {s : Addr} {H : Hp} {v : V} {t : String} (h : Kd s H v t) : tyOk t := by
  cases h <;> simp [tyOk]
theorem Kd.tyX {K : PySem.W.Frag} {s : Addr} {H : Hp} {v : V} {t : String} (h : Kd s H v t) : TyX K H v (.type t) := by
  cases h with
  | non => exact .base .non
  | bl b => exact .base (.bl b)
  | int i => exact .base (.int i)
  | str x => exact .base (.str x)
  | lst h n => exact .base (.lst h)
  | tup h n => exact .base (.tup h)
  | dct h n => exact .base (.dK h)
theorem ev_isK {K : PySem.W.Frag} {ta tb : TE} {σ : L2.St} {H : Hp} {x : V} {s : Addr} {n t : String} {b : Bool} (ha : Ev ta σ H x) (hb : Ev tb σ H (.ty n)) (ht : Kd s H x t) (hk : kitB t n = some b) : Ev (tCB (rIsi K) (tCons ta (tCons tb tNil))) σ H (.bl b) :=
  ev_isi ha hb (fun H1 e => (ht.kp (.of e)).tyX) hk
/-- an item that may be anything -/
def ItemV (s : Addr) (H : Hp) (x : V) : Prop := (∃ i, x = .int i) ∨ ∃ t, t ≠ "int" ∧ Kd s H x t
theorem ItemV.kp {s : Addr} {H H' : Hp} {x : V} (h : ItemV s H x) (e : Kp s H H') : ItemV s H' x := by
  rcases h with h | ⟨t, n, k⟩
  · exact .inl h
  · exact .inr ⟨t, n, k.kp e⟩
def scan (n : Int) : Int → List V → Nat → Option Nat
  | _, [], _ => none
  | last, .int i :: r, k => if 0 ≤ i ∧ i < n ∧ last < i then scan n i r (k + 1) else some k
  | _, _ :: _, k => some k
theorem scan_non {s : Addr} {H : Hp} {n last : Int} {x : V} {r : List V} {k : Nat} {t : String} (h : Kd s H x t) (n1 : t ≠ "int") : scan n last (x :: r) k = some k := by
  cases h <;> first | rfl | exact absurd rfl n1
theorem scan_lt {n : Int} : ∀ {xs : List V} {last : Int} {k i : Nat}, scan n last xs k = some i → i < k + xs.length
  | [], _, _, _, h => by cases h
  | .int v :: r, last, k, i, h => by
    unfold scan at h
    split at h
    · have := scan_lt h
      simp only [List.length_cons]
      omega
    · cases h
      simp only [List.length_cons]
      omega
  | .non :: r, _, k, i, h => by cases h; simp only [List.length_cons]; omega
  | .bl _ :: r, _, k, i, h => by cases h; simp only [List.length_cons]; omega
  | .str _ :: r, _, k, i, h => by cases h; simp only [List.length_cons]; omega
  | .byt _ :: r, _, k, i, h => by cases h; simp only [List.length_cons]; omega
  | .flt _ :: r, _, k, i, h => by cases h; simp only [List.length_cons]; omega
  | .ref _ :: r, _, k, i, h => by cases h; simp only [List.length_cons]; omega
  | .ty _ :: r, _, k, i, h => by cases h; simp only [List.length_cons]; omega
theorem scan_ok {n : Int} : ∀ {xs : List V} {last : Int} {k : Nat}, scan n last xs k = none → ∃ ns : List Int, xs = ns.map V.int ∧ (∀ x ∈ ns, 0 ≤ x ∧ x < n ∧ last < x) ∧ ns.Pairwise (· < ·)
  | [], _, _, _ => ⟨[], rfl, fun x hx => by simp at hx, .nil⟩
  | .int v :: r, last, k, h => by
    unfold scan at h
    split at h
    · rename_i c
      obtain ⟨ns, e, h1, h2⟩ := scan_ok h
      refine ⟨v :: ns, by rw [e]; rfl, fun x hx => ?_, .cons (fun y hy => (h1 y hy).2.2) h2⟩
      rcases List.mem_cons.mp hx with rfl | hx
      · exact c
      · have := h1 x hx
        omega
    · cases h
  | .non :: r, _, k, h => by cases h
  | .bl _ :: r, _, k, h => by cases h
  | .str _ :: r, _, k, h => by cases h
  | .byt _ :: r, _, k, h => by cases h
  | .flt _ :: r, _, k, h => by cases h
  | .ref _ :: r, _, k, h => by cases h
  | .ty _ :: r, _, k, h => by cases h
/-- what may be handed in as a pick: a list of things, or what is none -/
inductive PickAt (s : Addr) (H : Hp) : V → Option (List V) → Prop
  | lst {a : Addr} {xs : List V} (h : H a = some (.lst xs)) (n : a ≠ s) (l : xs.length ≤ 20) (i : ∀ x ∈ xs, ItemV s H x) : PickAt s H (.ref a) (some xs)
  | oth {v : V} {t : String} (h : Kd s H v t) (n : t ≠ "list") : PickAt s H v none
theorem PickAt.kp {s : Addr} {H H' : Hp} {v : V} {p : Option (List V)} (h : PickAt s H v p) (e : Kp s H H') : PickAt s H' v p := by
  cases h with
  | lst h n l i => exact .lst (e _ _ n h (fun _ z => by cases z)) n l fun x hx => (i x hx).kp e
  | oth h n => exact .oth (h.kp e) n
def firstOf (p : Option (List V)) (n : Int) (least : Nat) : Option Int := match p with
  | none => some (-1)
  | some xs => if xs.length < least then some (-1) else match scan n (-1) xs 0 with
    | none => none
    | some k => some (k : Int)
theorem first_few {xs : List V} {n : Int} {least : Nat} (h : xs.length < least) : firstOf (some xs) n least = some (-1) := if_pos h
theorem first_bad {xs : List V} {n : Int} {least i : Nat} (h : ¬ xs.length < least) (z : scan n (-1) xs 0 = some i) : firstOf (some xs) n least = some (i : Int) := by
  unfold firstOf
  dsimp only
  rw [if_neg h, z]
theorem first_ok {xs : List V} {n : Int} {least : Nat} (h : ¬ xs.length < least) (z : scan n (-1) xs 0 = none) : firstOf (some xs) n least = none := by
  unfold firstOf
  dsimp only
  rw [if_neg h, z]
theorem first_none {xs : List V} {n : Int} {least : Nat} (h : firstOf (some xs) n least = none) : least ≤ xs.length ∧ scan n (-1) xs 0 = none := by
  unfold firstOf at h
  dsimp only at h
  split at h
  · cases h
  · rename_i c
    cases e : scan n (-1) xs 0 with
    | none => exact ⟨Nat.le_of_not_lt c, rfl⟩
    | some k =>
      rw [e] at h
      cases h
/-! ### NoPick -/
def RaiseNP (C : Addr) (H : Hp) (i : Int) (E : XK) : Prop := ∀ d H', Ex H H' → H' d = some (.xd [("at", .int i)]) → E (.ref C) (some d) H'
theorem RaiseNP.ex {C : Addr} {H H1 : Hp} {i : Int} {E : XK} (h : RaiseNP C H i E) (e : Ex H H1) : RaiseNP C H1 i E := fun d H' e' => h d H' (e.trans e')
def spNP (K : PySem.W.Frag) : Sp := fun vs H Q _ => ∃ (a C CS : Addr) (i : Int), vs = [.ref a, .int i] ∧ OwnA K C CS ∧ PySem.W.findIn K (.ref C) "at" = some none ∧ i.natAbs.log2 < 1920 ∧ H a = some (exo a C none) ∧ ∀ dx, H dx = none → dx ≠ a → Q .non (upd (upd H dx (exd dx [("at", .int i)])) a (exo a C (some dx)))
theorem np_made {K : PySem.W.Frag} {C CS : Addr} (own : OwnA K C CS) (no : PySem.W.findIn K (.ref C) "at" = some none) {H1 : Hp} {i : Int} {W : XK} (hi : i.natAbs.log2 < 1920) (h : RaiseNP C H1 i W) :
    [V.int i].length ≤ 1000 ∧ ∀ a, H1 a = none → spNP K (.ref a :: [V.int i]) (upd H1 a (exo a C none))
      (fun v H2 => v = .non ∧ ∃ (d : Addr) (fs : List (Str × V)), H2 a = some (exo a C (some d)) ∧ H2 d = some (exd d fs) ∧ H1 d = none ∧ W (.ref C) (some d) (upd (del H2 a) d (.xd fs))) (fun _ _ _ => False) := by
  refine ⟨(by show 1 ≤ 1000; decide), fun a ha => ⟨a, C, CS, i, rfl, own, no, hi, upd_same, fun dx hd nd => ⟨rfl, dx, [("at", .int i)], upd_same, ?_, ?_, ?_⟩⟩⟩
  · rw [upd_ne nd]
    exact upd_same
  · rw [upd_ne nd] at hd
    exact hd
  · rw [upd_ne nd] at hd
    exact h dx _ (fun b o hb => excH_keep ha hd hb) excH_at
theorem log_small {i : Int} (h : -1 ≤ i) (h2 : i ≤ 100) : i.natAbs.log2 < 1920 := by
  by_cases z : i.natAbs = 0
  · rw [z]
    decide
  · exact (Nat.log2_lt z).mpr (Nat.lt_of_le_of_lt (show i.natAbs ≤ 100 by omega) (by decide +kernel))
theorem int_text_small {i : Int} (h : i.natAbs.log2 < 1920) : (Str.ofString (toString i)).length ≤ 1000 := by
  have h2 : i.natAbs < 10 ^ 600 := by
    by_cases z : i.natAbs = 0
    · rw [z]; decide +kernel
    · exact Nat.lt_of_lt_of_le ((Nat.log2_lt z).mp h) (by decide +kernel)
  have e := PySem.int_text_length_le10 (k := 600) (by decide) h2
  rw [PySem.ofString_length]
  omega

section
variable {P : Program} {w : World} {K : PySem.W.Frag} {mg : Str → Option Value} {base : Heap}
-- DEF is_whole

def sp_is_whole (K : PySem.W.Frag) : Sp := fun vs H Q _ => ∃ (x : V) (t : String), vs = [x] ∧ TyX K H x (.type t) ∧ tyOk t ∧ Q (.bl (t == "int")) H

theorem ok_is_whole (T : Txt K mg) : FnOk P w K mg base CX0 1 T.f_is_whole T.fd_is_whole ["thing"] (sp_is_whole K) := by
  refine Fun.ok T.F_is_whole sc_is_whole (fun vs H Q E h => ?_) (fun cdv A outer s H vs Q E hr h => ?_)
  · obtain ⟨_, _, rfl, _⟩ := h; rfl
  · refine ⟨_, (pss_one (ps_ret (pe_and (pe_callB (id := "isinstance") (r := rIsi K) call_isi (by rfl) T.n_isinstance (by decide +kernel) (pa_cons (pv 0) (pa_cons (pe_bltn (v := .ty "int") (by rfl) T.n_int (by decide +kernel) rfl) pa_nil))) (pe_one (pe_not (pe_callB (id := "isinstance") (r := rIsi K) call_isi (by rfl) T.n_isinstance (by decide +kernel) (pa_cons (pv 0) (pa_cons (pe_bltn (v := .ty "bool") (by rfl) T.n_bool (by decide +kernel) rfl) pa_nil)))))))), ?_⟩
    obtain ⟨x, t, rfl, ty, ok, q⟩ := h
    refine ⟨x, rfl, x, _, _, _, _, rfl, ClsV.ty _, ty, kit_ty (ty_int ok), _, rfl, ?_⟩
    rcases ok with rfl | rfl | rfl | rfl | rfl | rfl | rfl
    · exact iteT ⟨x, rfl, x, _, _, _, _, rfl, ClsV.ty _, ty, kit_ty (ty_bool (.inl rfl)), _, rfl, q⟩
    · exact iteT ⟨x, rfl, x, _, _, _, _, rfl, ClsV.ty _, ty, kit_ty (ty_bool (.inr (.inl rfl))), _, rfl, q⟩
    all_goals exact iteF q
-- DEF cleared_row

open Dt in
def sp_cleared_row (K : PySem.W.Frag) : Sp := fun vs H Q _ => ∃ (a b : Addr) (ns ms : List Int) (col corner : Int) (B : Nat), vs = [.ref a, .ref b, .int col, .int corner] ∧ H a = some (.lst (ns.map V.int)) ∧ H b = some (.lst (ms.map V.int)) ∧ ns.length = ms.length ∧ ns.length ≤ 8 ∧ 0 ≤ col ∧ col < ns.length ∧ corner ≠ 0 ∧ Bd 9000 corner ∧ 0 < B ∧ B ≤ 400000 ∧ (∀ y ∈ ns, Bd B y) ∧ (∀ y ∈ ms, Bd B y) ∧
  ∀ q H', H q = none → Ex H H' → H' q = some (.lst ((crow ns ms col.toNat corner).map V.int)) → Q (.ref q) H'

theorem ok_cleared_row (T : Txt K mg) : FnOk P w K mg base CX0 1 T.f_cleared_row T.fd_cleared_row ["row", "lead", "column", "corner"] (sp_cleared_row K) := by
  refine Fun.ok T.F_cleared_row sc_cleared_row (fun vs H Q E h => ?_) (fun cdv A outer s H vs Q E hr h => ?_)
  · obtain ⟨_, _, _, _, _, _, _, rfl, _⟩ := h; rfl
  · refine ⟨_, (pss_one (ps_ret (pe_lc (own := [("entry", 4), ("top", 5)]) (wi := iZip K _) (g := gTup K 2 (gCons (gName 4) (gCons (gName 5) gNil))) (tt := tYes) rfl sc_cleared_row.nd (pi_zip (by rfl) T.n_zip (pa_cons (pv 0) (pa_cons (pv 1) pa_nil))) (blkOk_by (N := ["row", "lead", "column", "corner", "entry", "top"]) (sc := (defScope s_cleared_row)) (by decide +kernel)) (fun _ _ _ _ _ => (pg_tup rfl (pgs_cons (pg_name (i := 4) sc_cleared_row.nd rfl (Or.inl rfl)) (pgs_cons (pg_name (i := 5) sc_cleared_row.nd rfl (Or.inl rfl)) pgs_nil)))) (fun _ _ _ _ _ => pts_nil) (fun _ _ _ _ _ => (pe_op op_fdivNW (pe_op op_sub (pe_op op_mulW (pv 4) (pe_ix (r := rIxL K) ix_list (pv 1) (pv 2) (fun _ _ => rfl))) (pe_op op_mulW (pe_ix (r := rIxL K) ix_list (pv 0) (pv 2) (fun _ _ => rfl)) (pv 5))) (pv 3)))))), ?_⟩
    obtain ⟨a, b, ns, ms, col, corner, B, rfl, ha, hb, hl, h8, hc0, hc1, hn, hcb, hB0, hB, b1, b2, k⟩ := h
    refine s_retL (xs := (Dt.crow ns ms col.toNat corner).map V.int) (el_zip (K := K) (f := fun e t => (e * ms[col.toNat]?.getD 0 - ns[col.toNat]?.getD 0 * t).fdiv corner) (xs := ns) (ys := ms) (ea_cons (ev_var rfl) (ea_cons (ev_var rfl) ea_nil)) (SqL.of ha) (SqL.of hb) hl (by omega) (fun u v => rfl) fun x y H1 hx hy e1 => ?_) fun q H1 nq e1 hq => k q H1 nq e1 hq
    have m1 : Bd B (ms[col.toNat]?.getD 0) := by
      rw [List.getElem?_eq_getElem (show col.toNat < ms.length by omega)]
      exact b2 _ (List.getElem_mem _)
    have m2 : Bd B (ns[col.toNat]?.getD 0) := by
      rw [List.getElem?_eq_getElem (show col.toNat < ns.length by omega)]
      exact b1 _ (List.getElem_mem _)
    exact ev_op (ev_op (ev_op (ev_var rfl) (ev_op (ev_var rfl) (ev_var rfl) (rv_ixL (SqL.of (e1 _ _ hb)) (atI_rowI hc0 (by omega)))) (rv_I (Bd.mulOk (b1 x hx) m1 hB0 hB0 (by omega)))) (ev_op (ev_op (ev_var rfl) (ev_var rfl) (rv_ixL (SqL.of (e1 _ _ ha)) (atI_rowI hc0 hc1))) (ev_var rfl) (rv_I (Bd.mulOk m2 (b2 y hy) hB0 hB0 (by omega)))) rv_I0) (ev_var rfl) (rv_I (Bd.divNOk hn hcb))
-- DEF is_bad

theorem not_in3 (t : Int) : (!inV (.int t) [.int (-1), .int 0, .int 1]) = Bs.isBad t := by
  unfold inV Bs.isBad
  congr 1
  rw [Bool.eq_iff_iff, Bool.or_eq_true, Bool.or_eq_true, decide_eq_true_eq, decide_eq_true_eq, decide_eq_true_eq]
  show (((-1 : Int) == t) || ((0 == t) || ((1 == t) || false))) = true ↔ _
  simp only [Bool.or_false, Bool.or_eq_true, beq_iff_eq]
  omega

def sp_is_bad (K : PySem.W.Frag) : Sp := fun vs H Q _ => ∃ (i : Int), vs = [.int i] ∧ ∀ H', Ex H H' → Q (.bl (Bs.isBad i)) H'

theorem ok_is_bad (T : Txt K mg) : FnOk P w K mg base CX0 1 T.f_is_bad T.fd_is_bad ["value"] (sp_is_bad K) := by
  refine Fun.ok T.F_is_bad sc_is_bad (fun vs H Q E h => ?_) (fun cdv A outer s H vs Q E hr h => ?_)
  · obtain ⟨_, rfl, _⟩ := h; rfl
  · refine ⟨_, (pss_one (ps_ret (pe_cmpR (r := rIn K true) op_notIn_seq (pv 0) (pe_tup (pa_cons (pe_un un_neg pe_int) (pa_cons pe_int (pa_cons pe_int pa_nil)))) (by rfl)))), ?_⟩
    obtain ⟨i, rfl, k⟩ := h
    exact s_ret (ev_is (ev_niU (ev_var rfl) (eu_tup (ea_cons (ev_un (x := .int 1) ev_c ru_neg) (ea_cons ev_c (ea_cons ev_c ea_nil))) (Nat.le_of_ble_eq_true rfl)) rfl rfl) (by rw [not_in3])) fun H1 e1 => k H1 e1
-- DEF unfolded

theorem bd_zero {n : Nat} : Bd n 0 := by
  unfold Bd
  exact Nat.two_pow_pos n
theorem ev_lenTu {K : PySem.W.Frag} {ta : TE} {σ : L2.St} {H : Hp} {p : Addr} {xs : List V} (ha : Ev ta σ H (.ref p)) (h : SqT K H p xs) : Ev (tCB (rLenS K) (tCons ta tNil)) σ H (.int (xs.length : Int)) := fun H1 e Q q => ha H1 e _ fun H2 e2 => ⟨p, xs, rfl, Or.inr (ex_t (e.trans e2) h), q H2 e2⟩
/-- readings that tell a tuple, new or not -/
def EvW (te : TE) (σ : L2.St) (H : Hp) (xs : List V) : Prop := ∀ H1, Ex H H1 → ∀ Q : VK, (∀ p H2, Ex H1 H2 → H2 p = some (.tup xs) → Q (.ref p) H2) → te σ H1 Q
theorem cutV_whole {xs : List V} {lo hi : Option Int} (h : HT.sIx xs.length 0 lo = 0 ∧ HT.sIx xs.length xs.length hi = xs.length) : cutV xs lo hi = xs := by
  unfold cutV
  rw [h.1, h.2, List.drop_zero, Nat.sub_zero, List.take_length]
theorem ew_var {i : Nat} {σ : L2.St} {H : Hp} {a : Addr} {xs : List V} (hσ : σ[i]? = some (some (.ref a))) (h : H a = some (.tup xs)) : EvW (tVar i) σ H xs := fun H1 e Q q => ⟨_, hσ, q a H1 (Ex.refl _) (e _ _ h)⟩
theorem ew_sl {K : PySem.W.Frag} {te : TE} {tl th : TO} {σ : L2.St} {H : Hp} {a : Addr} {xs : List V} {lo hi : Option Int} (h : Ev te σ H (.ref a)) (h1 : EvO tl σ H lo) (h2 : EvO th σ H hi) (hs : H a = some (.tup xs)) : EvW (tSl (rSlA K) te tl th) σ H (cutV xs lo hi) := fun H1 e Q q =>
  h H1 e _ fun H2 e2 => h1 H2 (e.trans e2) _ fun H3 e3 => h2 H3 ((e.trans e2).trans e3) _ fun H4 e4 => by
    have ha := (((e.trans e2).trans e3).trans e4) _ _ hs
    have e14 := (e2.trans e3).trans e4
    exact ⟨a, xs, rfl, SqT.of ha, fun z => q a H4 e14 (by rw [cutV_whole z]; exact ha), fun _ p hp => q p _ (e14.trans (Ex.new hp)) upd_same⟩
theorem ew_cat {K : PySem.W.Frag} {ta tb : TE} {σ : L2.St} {H : Hp} {xs ys : List V} (ha : EvW ta σ H xs) (hb : EvW tb σ H ys) (hz : xs.length + ys.length ≤ 100000) : EvW (tOp (rCatA K) ta tb) σ H (xs ++ ys) := fun H1 e Q q =>
  ha H1 e _ fun a H2 e2 h2 => hb H2 (e.trans e2) _ fun b H3 e3 h3 => by
    have h2' := e3 _ _ h2
    refine ⟨a, b, xs, ys, rfl, rfl, SqT.of h2', SqT.of h3, sz_of hz, fun z => ?_, fun z1 z2 => ?_, fun z1 z2 p hp => q p _ ((e2.trans e3).trans (Ex.new hp)) upd_same⟩
    · rw [z, List.nil_append] at q
      exact q b H3 (e2.trans e3) h3
    · rw [z2, List.append_nil] at q
      exact q a H3 (e2.trans e3) h2'
/-- the key of a square -/
def keyS (rs cs : List Nat) : NestedKey := .tup [.tup ((Sg.zs rs).map .num), .tup ((Sg.zs cs).map .num)]
theorem zs_inj {a b : List Nat} (h : Sg.zs a = Sg.zs b) : a = b := by
  unfold Sg.zs at h
  exact List.map_inj_right (fun _ _ h => Int.ofNat_inj.mp h) |>.mp h
theorem num_inj {a b : List Int} (h : a.map NestedKey.num = b.map NestedKey.num) : a = b := List.map_inj_right (fun _ _ h => NestedKey.num.inj h) |>.mp h
theorem keyS_inj {r r' c c' : List Nat} (h : keyS r c = keyS r' c') : r = r' ∧ c = c' := by
  unfold keyS at h
  have h1 := NestedKey.tup.inj h
  obtain ⟨h2, h3⟩ := List.cons.inj h1
  obtain ⟨h4, _⟩ := List.cons.inj h3
  exact ⟨zs_inj (num_inj (NestedKey.tup.inj h2)), zs_inj (num_inj (NestedKey.tup.inj h4))⟩
theorem keyS_depth (r c : List Nat) : (keyS r c).depth ≤ 8 := by
  have z : ∀ l : List Int, NestedKey.depthAll (l.map .num) = 0 := fun l => by
    induction l with
    | nil => rfl
    | cons a l ih =>
      show max 0 (NestedKey.depthAll (l.map .num)) = 0
      rw [ih]
      rfl
  unfold keyS
  show max (NestedKey.depthAll ((Sg.zs r).map .num) + 1) (max (NestedKey.depthAll ((Sg.zs c).map .num) + 1) 0) + 1 ≤ 8
  rw [z, z]
  decide
theorem is_key {K : PySem.W.Frag} {H : Hp} {b r c : Addr} {rs cs : List Nat} (hb : H b = some (.tup [.ref r, .ref c])) (hr : H r = some (.tup ((Sg.zs rs).map V.int))) (hc : H c = some (.tup ((Sg.zs cs).map V.int))) : DN.Is K H (keyS rs cs) (.ref b) :=
  .tup (SqT.of hb) (.cons (.tup (SqT.of hr) (DN.all_ints _)) (.cons (.tup (SqT.of hc) (DN.all_ints _)) .nil))
theorem cutT_1 {xs : List V} : cutV xs none (some (-1)) = xs.take (xs.length - 1) := by
  unfold cutV
  have e : HT.sIx xs.length xs.length (some (-1)) = xs.length - 1 := by
    show (if (-1 : Int) < 0 then ((-1 : Int) + (xs.length : Int)).toNat else min (-1 : Int).toNat xs.length) = _
    rw [if_pos (by decide)]
    omega
  rw [HT.sIx_none, e, List.drop_zero, Nat.sub_zero]
theorem cut_to {xs : List V} {n : Nat} (h : n ≤ xs.length) : cutV xs none (some (n : Int)) = xs.take n := by
  unfold cutV
  rw [HT.sIx_none, HT.sIx_nat, Nat.min_eq_left h, List.drop_zero, Nat.sub_zero]
theorem cut_fr {xs : List V} {n : Nat} (h : n ≤ xs.length) : cutV xs (some (n : Int)) none = xs.drop n := by
  unfold cutV
  rw [HT.sIx_none, HT.sIx_nat, Nat.min_eq_left h]
  exact List.take_of_length_le (by rw [List.length_drop]; exact Nat.le_refl _)
theorem ev_dgetN {K : PySem.W.Frag} {P : Program} {w : World} {td tx ty : TE} {σ : L2.St} {H : Hp} {d : Addr} {L : DN.Tb} {rs cs : List Nat} {i : Int} (hd : Ev td σ H (.ref d)) (hx : EvW tx σ H ((Sg.zs rs).map V.int)) (hy : EvW ty σ H ((Sg.zs cs).map V.int)) (hL : H d = some (DN.O P w d L)) (hK : DN.Keys K H L) (hf : DN.find L (keyS rs cs) = some i) :
    Ev (DN.tGet K P w td (tTup (tCons tx (tCons ty tNil)))) σ H (.int i) := fun H1 e Q q =>
  hd H1 e _ fun H2 e2 => hx H2 (e.trans e2) _ fun a H3 e3 h3 => hy H3 ((e.trans e2).trans e3) _ fun b H4 e4 h4 => ⟨(by show 2 ≤ sizeLine; decide), fun t nt => by
    have xt := Ex.new (o := .tup [V.ref a, .ref b]) nt
    have e5 := (((e.trans e2).trans e3).trans e4).trans xt
    exact ⟨d, t, L, keyS rs cs, i, rfl, rfl, e5 _ _ hL, hK.ex e5, is_key upd_same (xt _ _ (e4 _ _ h3)) (xt _ _ h4), keyS_depth _ _, hf, q _ (((e2.trans e3).trans e4).trans xt)⟩⟩
def sgi (n j : Nat) : Int := if (n + 1 - j) % 2 = 1 then 1 else -1
theorem sgi_eq {n j : Nat} (h : j ≤ n) : ((sgi n j : Int) : Rat) = Dt.sg n * Dt.sg j := by
  unfold sgi Dt.sg
  have : (n + 1 - j) % 2 = 1 ↔ (n % 2 = 0 ↔ j % 2 = 0) := by omega
  by_cases a : n % 2 = 0 <;> by_cases b : j % 2 = 0 <;> simp only [a, b, if_true, if_false, this] <;> simp <;> first | rfl | grind

def sp_unfolded (K : PySem.W.Frag) (P : Program) (w : World) : Sp := fun vs H Q _ => ∃ (p r c d : Addr) (as : List Addr) (R : List (List Int)) (m wd : Nat) (ahead : List Nat) (l : Nat) (cols : List Nat) (L : DN.Tb), vs = [.ref p, .ref r, .ref c, .ref d] ∧ TabOk H p as R m wd ∧ (∀ r ∈ R, ∀ y ∈ r, Bd 210 y) ∧
  H r = some (.tup ((Sg.zs (ahead ++ [l])).map V.int)) ∧ H c = some (.tup ((Sg.zs cols).map V.int)) ∧ cols.length = ahead.length + 1 ∧ cols.length ≤ 8 ∧ l < m ∧ (∀ j ∈ cols, j < wd) ∧ H d = some (DN.O P w d L) ∧ DN.Keys K H L ∧
  (∀ j, j < cols.length → DN.find L (keyS ahead (Bs.out cols j)) = some (Bs.val R ahead (Bs.out cols j)) ∧ Bd (ahead.length * 222 + 1) (Bs.val R ahead (Bs.out cols j))) ∧
  (Bd (cols.length * 222 + 1) (Bs.val R (ahead ++ [l]) cols) → ∀ H', Ex H H' → Q (.int (Bs.val R (ahead ++ [l]) cols)) H')

theorem ok_unfolded (T : Txt K mg) : FnOk P w K mg base CX0 1 T.f_unfolded T.fd_unfolded ["table", "rows", "columns", "known"] (sp_unfolded K P w) := by
  refine Fun.ok T.F_unfolded sc_unfolded (fun vs H Q E h => ?_) (fun cdv A outer s H vs Q E hr h => ?_)
  · obtain ⟨_, _, _, _, _, _, _, _, _, _, _, _, rfl, _⟩ := h; rfl
  · refine ⟨_, (pss_cut (ps_set (i := 4) sc_unfolded.nd rfl (by first | exact Or.inl rfl | exact Or.inr rfl) (pe_slice (r := rSlA K) sl_tupA (pv 1) po_none (po_some (pe_un un_neg pe_int))))
      (pss_cut (ps_set (i := 5) sc_unfolded.nd rfl (by first | exact Or.inl rfl | exact Or.inr rfl) (pe_ix (r := rIxL K) ix_list (pv 0) (pe_ix (r := rIxT K) ix_tup (pv 1) (pe_un un_neg pe_int) (fun _ _ => rfl)) (fun _ _ => rfl)))
      (pss_cons (ps_set (i := 6) sc_unfolded.nd rfl (by first | exact Or.inl rfl | exact Or.inr rfl) pe_int)
      (pss_cut (ps_for PassesOwn.never rfl (EnT.pi_e (by rfl) T.n_enumerate (pa_cons (pv 2) pa_nil)) (pg_tup rfl (pgs_cons (pg_name (i := 7) sc_unfolded.nd rfl (by first | exact Or.inl rfl | exact Or.inr rfl)) (pgs_cons (pg_name (i := 8) sc_unfolded.nd rfl (by first | exact Or.inl rfl | exact Or.inr rfl)) pgs_nil)))
        (pss_cons (ps_set (i := 9) sc_unfolded.nd rfl (by first | exact Or.inl rfl | exact Or.inr rfl) (pe_ix (r := rIxL K) ix_list (pv 5) (pv 8) (fun _ _ => rfl)))
          (pss_one (ps_if (pt_cmpR op_ne (pv 9) pe_int (nomark _))
            (pss_cons (ps_set (i := 10) sc_unfolded.nd rfl (by first | exact Or.inl rfl | exact Or.inr rfl) (pe_op op_mulW (pv 9) (DN.pe_get hr (pv 3) (pe_tup (pa_cons (pv 4) (pa_cons (pe_op op_catA (pe_slice (r := rSlA K) sl_tupA (pv 2) po_none (po_some (pv 7))) (pe_slice (r := rSlA K) sl_tupA (pv 2) (po_some (pe_op op_add (pv 7) pe_int)) po_none)) pa_nil))) (fun _ _ => rfl))))
              (pss_one (ps_aug (i := 6) sc_unfolded.nd rfl (by first | exact Or.inl rfl | exact Or.inr rfl) (pe_ifExp (pt_cmpR op_eq (pe_op op_mod (pe_op op_sub (pe_callB (id := "len") (r := rLenS K) call_len_seq (by rfl) T.n_len PySem.boot_len (pa_cons (pv 2) pa_nil)) (pv 7)) pe_int) pe_int (nomark _)) (pv 10) (pe_un un_neg (pv 10))) ip_add)))
            pss_nil))))
      (pss_one (ps_ret (pv 6))))))), ?_⟩
    obtain ⟨p, r, c, d, as, R, m, wd, ahead, l, cols, L, rfl, hT, hb, hr, hc, hcl, hc8, hl, hj, hd, hK, hf, k⟩ := h
    have hdm := hT.b
    have zl : ∀ ns : List Nat, ((Sg.zs ns).map V.int).length = ns.length := fun ns => by unfold Sg.zs; rw [List.length_map, List.length_map]
    have zap : ∀ a b : List Nat, (Sg.zs (a ++ b)).map V.int = (Sg.zs a).map V.int ++ (Sg.zs b).map V.int := fun a b => by unfold Sg.zs; rw [List.map_append, List.map_append]
    have ztk : ∀ (a : List Nat) (n : Nat), (Sg.zs (a.take n)).map V.int = ((Sg.zs a).map V.int).take n := fun a n => by unfold Sg.zs; rw [List.map_take, List.map_take]
    have zdr : ∀ (a : List Nat) (n : Nat), (Sg.zs (a.drop n)).map V.int = ((Sg.zs a).map V.int).drop n := fun a n => by unfold Sg.zs; rw [List.map_drop, List.map_drop]
    -- ahead
    refine ⟨fun σ' H' => ∃ pa, σ' = [some (.ref p), some (.ref r), some (.ref c), some (.ref d), some (.ref pa), none, none, none, none, none, none] ∧ Ex H H' ∧ H' pa = some (.tup ((Sg.zs ahead).map V.int)), ?_, ?_⟩
    · have e := ew_sl (K := K) (te := tVar 1) (tl := tNoPart) (th := tPart (tUn (rU fun i => .int (-i)) (tC (.int 1)))) (σ := [some (.ref p), some (.ref r), some (.ref c), some (.ref d), none, none, none, none, none, none, none]) (ev_var rfl) eo_none (eo_some (ev_un (x := .int 1) ev_c ru_neg)) hr
      rw [cutT_1, zl, List.length_append, ← ztk] at e
      have e2 : (ahead ++ [l]).take (ahead.length + [l].length - 1) = ahead := by simp
      rw [e2] at e
      exact e H (Ex.refl _) _ fun pa H1 e1 h1 => ⟨pa, rfl, e1, h1⟩
    rintro σ' H1 ⟨pa, rfl, e1, hpa⟩
    -- last
    obtain ⟨al, rl, atl, hrl, hhl, hll⟩ : ∃ a r, atI (as.map V.ref) (l : Int) = some (.ref a) ∧ R[l]? = some r ∧ H a = some (.lst (r.map V.int)) ∧ r.length = wd := by
      obtain ⟨a, r, h1, h2, h3, h4⟩ := hT.row (i := (l : Int)) (by omega) (by omega)
      rw [Int.toNat_natCast] at h2
      exact ⟨a, r, h1, h2, h3, h4⟩
    refine ⟨fun σ' H' => σ' = [some (.ref p), some (.ref r), some (.ref c), some (.ref d), some (.ref pa), some (.ref al), none, none, none, none, none] ∧ Ex H1 H', ?_, ?_⟩
    · refine s_asg (ev_op (ev_var (i := 0) rfl) (ev_op (ev_var (i := 1) rfl) (ev_un (x := .int 1) ev_c ru_neg) (rv_ixT (v := .int (l : Int)) (SqT.of (e1 _ _ hr)) ?_)) (rv_ixL (SqL.of (hT.ex e1).tab.1) atl)) fun H2 e2 => ⟨rfl, e2⟩
      rw [zap]
      exact atI_last _ _
    rintro σ' H2 ⟨rfl, e2⟩
    have e12 := e1.trans e2
    refine q_asg (v := .int 0) ev_c fun H3 e3 => ?_
    have e13 := e12.trans e3
    have hcz := e13 _ _ hc
    refine ⟨fun σ' H' => ∃ y7 y8 y9 y10 : Option V, σ' = [some (.ref p), some (.ref r), some (.ref c), some (.ref d), some (.ref pa), some (.ref al), some (.int (Bs.val R (ahead ++ [l]) cols)), y7, y8, y9, y10] ∧ Ex H3 H' ∧ Bd (cols.length * 222 + 1) (Bs.val R (ahead ++ [l]) cols), ?_, ?_⟩
    rotate_left
    · rintro σ' H4 ⟨y7, y8, y9, y10, rfl, e4, hbd⟩
      exact s_ret (ev_var rfl) fun H5 e5 => k hbd H5 (e13.trans (e4.trans e5))
    have hn8 : ahead.length ≤ 7 := by omega
    refine ⟨_, rfl, c, _, rfl, SqT.of hcz, EnT.for_enumT (K := K) (a := c) (xs := (Sg.zs cols).map V.int) (fun i σ' H' => ∃ (t : Int) (y7 y8 y9 y10 : Option V), σ' = [some (.ref p), some (.ref r), some (.ref c), some (.ref d), some (.ref pa), some (.ref al), some (.int t), y7, y8, y9, y10] ∧ Ex H3 H' ∧ ((t : Int) : Rat) = Dt.sm i (fun j => (Dt.sg ahead.length * Dt.sg j) * ((Dt.at_ R l (cols[j]?.getD 0) : Int) : Rat) * ((Bs.val R ahead (Bs.out cols j) : Int) : Rat)) ∧ Bd (ahead.length * 222 + 212 + i) t)
      ⟨0, _, _, _, _, rfl, Ex.refl _, rfl, bd_zero⟩ (fun i σ' H' ⟨_, _, _, _, _, _, e, _⟩ => SqT.of (e _ _ hcz)) (fun i x T σ' H4 hx hP nT => ?_) (fun σ' H4 hP => ?_)⟩
    rotate_left
    · obtain ⟨t, y7, y8, y9, y10, rfl, e4, h1, h2⟩ := hP
      rw [zl] at h1 h2
      have ht : t = Bs.val R (ahead ++ [l]) cols := by
        refine Rat.intCast_inj.mp ?_
        rw [h1, Bs.val_last R hcl, hcl]
      subst ht
      exact ⟨_, _, _, _, rfl, e4, h2.mono (by omega)⟩
    obtain ⟨t, y7, y8, y9, y10, rfl, e4, h1, h2⟩ := hP
    have hi := (List.getElem?_eq_some_iff.mp hx).1
    rw [zl] at hi
    rw [List.getElem?_map] at hx
    obtain ⟨xi, hx1, rfl⟩ := Option.map_eq_some_iff.mp hx
    unfold Sg.zs at hx1
    rw [List.getElem?_map] at hx1
    obtain ⟨cj, hcj, rfl⟩ := Option.map_eq_some_iff.mp hx1
    have xT := Ex.new (o := .tup [V.int (i : Nat), .int (cj : Int)]) nT
    refine ⟨T, _, rfl, SqT.of upd_same, rfl, _, _, rfl, _, _, rfl, rfl, ?_⟩
    have e5 := e13.trans (e4.trans xT)
    have hcw : cj < wd := hj cj (List.mem_of_getElem? hcj)
    have ent : Dt.at_ R l cj = rl[cj]?.getD 0 := by
      show (R[l]?.getD [])[cj]?.getD 0 = _
      rw [hrl]
      rfl
    have cd : cols[i]?.getD 0 = cj := by rw [hcj]; rfl
    refine q_asg (v := .int (Dt.at_ R l cj)) (ev_op (ev_var (i := 5) rfl) (ev_var (i := 8) rfl) (rv_ixL (SqL.of (e5 _ _ hhl)) (by rw [ent]; exact atI_row (by omega)))) fun H6 e6 => ?_
    obtain ⟨hfi, hbi⟩ := hf i hi
    have e36 : Ex H3 H6 := e4.trans (xT.trans e6)
    have be : Bd 210 (Dt.at_ R l cj) := by
      rw [ent, List.getElem?_eq_getElem (show cj < rl.length by omega)]
      exact hb rl (List.mem_of_getElem? hrl) _ (List.getElem_mem _)
    refine s_when (b := !decide (Dt.at_ R l cj = 0)) (et_is (et_test (ev_op (ev_var (i := 9) rfl) ev_c (rv_ne rfl))) ?_) (fun z H7 e7 => ?_) (fun z H7 e7 => ?_)
    · congr 1
      exact decide_eq_decide.mpr ⟨fun z => V.int.inj z, fun z => by rw [z]⟩
    rotate_left
    · have z : Dt.at_ R l cj = 0 := by
        by_cases c1 : Dt.at_ R l cj = 0
        · exact c1
        · rw [decide_eq_false c1] at z
          cases z
      refine ⟨t, _, _, _, _, rfl, e36.trans e7, ?_, h2.mono (by omega)⟩
      show _ = Dt.sm i _ + Dt.sg ahead.length * Dt.sg i * ((Dt.at_ R l (cols[i]?.getD 0) : Int) : Rat) * ((Bs.val R ahead (Bs.out cols i) : Int) : Rat)
      rw [← h1, cd, z]
      show _ = _ + Dt.sg ahead.length * Dt.sg i * (0 : Rat) * _
      grind
    have e37 := e36.trans e7
    have e07 := e13.trans e37
    have o1 : (Sg.zs (Bs.out cols i)).map V.int = cutV ((Sg.zs cols).map V.int) none (some (i : Int)) ++ cutV ((Sg.zs cols).map V.int) (some ((i : Int) + 1)) none := by
      rw [cut_to (by rw [zl]; omega), show (i : Int) + 1 = ((i + 1 : Nat) : Int) by omega, cut_fr (by rw [zl]; omega), ← ztk, ← zdr, ← zap]
      rfl
    have kx : EvW (tOp (rCatA K) (tSl (rSlA K) (tVar 2) tNoPart (tPart (tVar 7))) (tSl (rSlA K) (tVar 2) (tPart (tOp (rI0 fun i j => .int (i + j)) (tVar 7) (tC (.int 1)))) tNoPart)) [some (.ref p), some (.ref r), some (.ref c), some (.ref d), some (.ref pa), some (.ref al), some (.int t), some (.int (i : Int)), some (.int (cj : Int)), some (.int (Dt.at_ R l cj)), y10] H7 ((Sg.zs (Bs.out cols i)).map V.int) := by
      rw [o1]
      refine ew_cat (ew_sl (ev_var rfl) eo_none (eo_some (ev_var rfl)) (e07 _ _ hc)) (ew_sl (ev_var rfl) (eo_some (ev_op (ev_var rfl) ev_c rv_I0)) eo_none (e07 _ _ hc)) ?_
      have a1 := cutV_length ((Sg.zs cols).map V.int) none (some (i : Int))
      have a2 := cutV_length ((Sg.zs cols).map V.int) (some ((i : Int) + 1)) none
      rw [zl] at a1 a2
      omega
    refine q_asg (v := .int (Dt.at_ R l cj * Bs.val R ahead (Bs.out cols i))) (ev_op (ev_var (i := 9) rfl) (ev_dgetN (ev_var (i := 3) rfl) (ew_var (i := 4) rfl ((e2.trans (e3.trans e37)) _ _ hpa)) kx (e07 _ _ hd) (hK.ex e07) hfi) (rv_I (be.mulOk hbi (by decide) (by omega) (by omega)))) fun H8 e8 => ?_
    have sgb : sgi ahead.length i = if (cols.length - i) % 2 = 1 then 1 else -1 := by
      unfold sgi
      rw [hcl]
    refine s_aug (a := t) (b := sgi ahead.length i * (Dt.at_ R l cj * Bs.val R ahead (Bs.out cols i))) rfl (ev_if (b := decide ((cols.length - i) % 2 = 1)) (et_is (et_test (ev_op (ev_op (ev_op (ev_is (ev_lenTu (ev_var (i := 2) rfl) (SqT.of ((e07.trans e8) _ _ hc))) (by rw [zl])) (ev_var (i := 7) rfl) rv_I0) ev_c (rv_I (by show (0 : Int) < 2; decide))) ev_c (rv_eq rfl))) ?_) (fun z => ?_) (fun z => ?_)) fun H9 e9 => ⟨_, _, _, _, _, rfl, e37.trans (e8.trans e9), ?_, ?_⟩
    · rw [decide_eq_decide]
      constructor
      · intro z
        have := V.int.inj z
        omega
      · intro z
        exact congrArg V.int (by omega)
    · rw [sgb, if_pos (of_decide_eq_true z), Int.one_mul]
      exact ev_var rfl
    · rw [sgb, if_neg (of_decide_eq_false z)]
      exact ev_is (ev_un (ev_var (i := 10) rfl) ru_neg) (by rw [Int.neg_mul, Int.one_mul])
    · show _ = Dt.sm i _ + Dt.sg ahead.length * Dt.sg i * ((Dt.at_ R l (cols[i]?.getD 0) : Int) : Rat) * ((Bs.val R ahead (Bs.out cols i) : Int) : Rat)
      rw [← h1, cd, Rat.intCast_add, Rat.intCast_mul, Rat.intCast_mul, sgi_eq (by omega)]
      grind
    · have b1 : Bd 1 (sgi ahead.length i) := by
        unfold sgi
        split <;> unfold Bd <;> decide
      exact (Bd.add (h2 : Bd (ahead.length * 222 + 212 + i) t) (((b1.mul (be.mul hbi))).mono (by omega))).mono (by omega)
-- DEF _law_source_of

def sp__law_source_of (K : PySem.W.Frag) : Sp := fun vs H Q _ => ∃ c : Int, vs = [.int c] ∧ ∀ (s : Addr) (H' : Hp), H s = none → Ex H H' → SrcAt H' s 0 → Q (.ref s) H'

theorem ok__law_source_of (T : Txt K mg) : FnOk P w K mg base CX0 1 T.f__law_source_of T.fd__law_source_of ["_law_cell"] (sp__law_source_of K) := by
  refine Fun.ok T.F__law_source_of sc__law_source_of (fun vs H Q E h => ?_) (fun cdv A outer s H vs Q E hr h => ?_)
  · obtain ⟨_, rfl, _⟩ := h; rfl
  · refine ⟨_, (pss_one (ps_ret (pe_lst (pa_cons (pe_op op_mul (pv 0) (pe_callTy (T := "int") call_int1 (by rfl) T.n_int (by decide +kernel) (pa_cons (pe_cmpR op_ge (pv 0) (pe_op op_pow pe_int pe_int) (nomark _)) pa_nil))) (pa_cons (pe_op op_mod (pv 0) pe_int) (pa_cons pe_int pa_nil)))))), ?_⟩
    obtain ⟨c, rfl, k⟩ := h
    refine ⟨_, rfl, _, rfl, _, _, rfl, rfl, ⟨by decide, by decide, by decide⟩, _, _, rfl, rfl, .inr ⟨_, rfl, _, _, rfl, rfl, .inr ?_, ?_⟩⟩
    · split <;> exact ⟨by decide, by decide⟩
    refine ⟨_, rfl, _, _, rfl, rfl, (by show (0 : Int) < 2147483647; decide), (by show 3 ≤ sizeLine; decide), fun s hs => ?_⟩
    exact k s _ hs (Ex.new hs) ⟨_, _, _, upd_same, Int.emod_nonneg _ (by decide), Int.emod_lt_of_pos _ (by decide), Int.le_refl _, Int.le_refl _⟩
-- DEF _law_next

def sp__law_next (K : PySem.W.Frag) : Sp := fun vs H Q _ => ∃ (s : Addr) (m n : Int), vs = [.ref s, .int m] ∧ SrcAt H s n ∧ n ≤ 1000000000 ∧ 0 < m ∧ Bd 8000 m ∧
  ∀ (f : Int) (H' : Hp), 0 ≤ f → f < m → ExB s H H' → SrcAt H' s (n + 1) → Q (.int f) H'

theorem ok__law_next (T : Txt K mg) : FnOk P w K mg base CX0 1 T.f__law_next T.fd__law_next ["_law_source", "_law_many"] (sp__law_next K) := by
  refine Fun.ok T.F__law_next sc__law_next (fun vs H Q E h => ?_) (fun cdv A outer s H vs Q E hr h => ?_)
  · obtain ⟨_, _, _, rfl, _⟩ := h; rfl
  · refine ⟨_, (pss_cons (ps_if (pt_cmpR op_gt (pe_ix (r := rIxL K) ix_list (pv 0) pe_int (fun _ _ => rfl)) pe_int (nomark _))
        (pss_cons (ps_set (i := 2) sc__law_next.nd rfl (by first | exact Or.inl rfl | exact Or.inr rfl) (pe_op op_mod (pe_ix (r := rIxL K) ix_list (pv 0) pe_int (fun _ _ => rfl)) (pv 1)))
          (pss_cons (ps_asg (pe_op op_fdivW (pe_ix (r := rIxL K) ix_list (pv 0) pe_int (fun _ _ => rfl)) (pv 1)) (pg_sub (pv 0) pe_int set_list))
          (pss_one (ps_ret (pv 2)))))
        pss_nil)
      (pss_cons (ps_asg (pe_op op_add (pe_ix (r := rIxL K) ix_list (pv 0) pe_int (fun _ _ => rfl)) pe_int) (pg_sub (pv 0) pe_int set_list))
      (pss_cons (ps_set (i := 3) sc__law_next.nd rfl (by first | exact Or.inl rfl | exact Or.inr rfl) (pe_ix (r := rIxL K) ix_list (pe_lst (pa_cons pe_int (pa_cons pe_int (pa_cons pe_int (pa_cons pe_int (pa_cons pe_int (pa_cons pe_int (pa_cons pe_int pa_nil)))))))) (pe_op op_mod (pe_ix (r := rIxL K) ix_list (pv 0) pe_int (fun _ _ => rfl)) pe_int) (fun _ _ => rfl)))
      (pss_cons (ps_set (i := 4) sc__law_next.nd rfl (by first | exact Or.inl rfl | exact Or.inr rfl) (pe_op op_mod (pe_op op_pow (pe_op op_add (pe_op op_add (pe_ix (r := rIxL K) ix_list (pv 0) pe_int (fun _ _ => rfl)) (pe_op op_mul pe_int (pe_ix (r := rIxL K) ix_list (pv 0) pe_int (fun _ _ => rfl)))) pe_int) pe_int) (pv 3)))
      (pss_cons (ps_set (i := 4) sc__law_next.nd rfl (by first | exact Or.inl rfl | exact Or.inr rfl) (pe_op op_mod (pe_op op_mul (pe_op op_add (pv 4) (pe_ix (r := rIxL K) ix_list (pv 0) pe_int (fun _ _ => rfl))) (pe_op op_add (pe_op op_fdiv (pv 4) pe_int) pe_int)) (pv 3)))
      (pss_one (ps_ret (pe_op op_mod (pe_op op_fdiv (pv 4) pe_int) (pv 1))))))))), ?_⟩
    obtain ⟨s, m, n, rfl, ⟨p, u, r, hs, hu0, hu1, hr0, hr1⟩, hn, hm, bm, k⟩ := h
    refine ⟨_, rfl, s, _, _, _, rfl, rfl, SqL.of hs, rfl, _, _, rfl, rfl, _, rfl, ?_⟩
    refine ite2 (fun hp => ?_) (fun _ => ?_)
    · refine ⟨_, rfl, s, _, _, _, rfl, rfl, SqL.of hs, rfl, _, rfl, _, _, rfl, rfl, hm, ?_⟩
      refine ⟨_, rfl, s, _, _, _, rfl, rfl, SqL.of hs, rfl, _, rfl, _, _, rfl, rfl, Bd.divOk hm (bm.mono (by decide : 8000 ≤ 9000)), ?_⟩
      refine ⟨_, rfl, s, _, _, 0, rfl, rfl, hs, rfl, ?_⟩
      refine ⟨_, rfl, ?_⟩
      exact k _ _ (Int.emod_nonneg _ (by omega)) (Int.emod_lt_of_pos _ hm) (ExB.upd _ _ _) ⟨_, _, _, upd_same, hu0, hu1, hr0, by omega⟩
    · refine ⟨_, rfl, s, _, _, _, rfl, rfl, SqL.of hs, rfl, _, _, rfl, rfl, ?_⟩
      refine ⟨_, rfl, s, _, _, 2, rfl, rfl, hs, rfl, ?_⟩
      have hs2 : upd H s (.lst [.int p, .int u, .int (r + 1)]) s = some (.lst [.int p, .int u, .int (r + 1)]) := upd_same
      show tSeq _ _ _ _ (upd H s (.lst [.int p, .int u, .int (r + 1)]))
      generalize hH : upd H s (.lst [.int p, .int u, .int (r + 1)]) = H2 at hs2 ⊢
      refine ⟨(by show 7 ≤ sizeLine; decide), fun l hl => ?_⟩
      have nls : s ≠ l := ne_of_none hs2 hl
      have hs3 : upd H2 l (.lst [V.int 2147483647, V.int 2147483629, V.int 2147483587, V.int 2147483579, V.int 2147483563, V.int 2147483549, V.int 2147483543]) s = some (.lst [.int p, .int u, .int (r + 1)]) := by
        rw [upd_ne nls]
        exact hs2
      obtain ⟨pr, hpr, hp0, hp1⟩ := prime_at (r + 1) (by omega)
      refine ⟨_, rfl, s, _, _, _, rfl, rfl, SqL.of hs3, rfl, _, _, rfl, rfl, (by show (0 : Int) < 7; decide), l, _, _, _, rfl, rfl, SqL.of upd_same, hpr, ?_⟩
      have eH : ExB s H2 (upd H2 l (.lst [V.int 2147483647, V.int 2147483629, V.int 2147483587, V.int 2147483579, V.int 2147483563, V.int 2147483549, V.int 2147483543])) := ExB.of (Ex.new hl)
      generalize upd H2 l (.lst [V.int 2147483647, V.int 2147483629, V.int 2147483587, V.int 2147483579, V.int 2147483563, V.int 2147483549, V.int 2147483543]) = H3 at hs3 eH ⊢
      -- figure
      refine ⟨_, rfl, s, _, _, _, rfl, rfl, SqL.of hs3, rfl, _, rfl, s, _, _, _, rfl, rfl, SqL.of hs3, rfl, _, _, rfl, rfl, .inl ⟨by decide, by decide⟩, _, _, rfl, rfl, _, _, rfl, rfl, _, _, rfl, rfl, ⟨by decide, by decide, ?_⟩, ?_⟩
      · show (u + 7919 * (r + 1) + 1).natAbs < 2 ^ 64
        omega
      refine ⟨_, rfl, _, _, rfl, rfl, hp0, ?_⟩
      have f0 : 0 ≤ (u + 7919 * (r + 1) + 1) ^ (5 : Int).toNat % pr := Int.emod_nonneg _ (by omega)
      have f1 : (u + 7919 * (r + 1) + 1) ^ (5 : Int).toNat % pr < pr := Int.emod_lt_of_pos _ hp0
      show tSeq _ _ _ [some (.ref s), some (.int m), _, some (.int pr), some (.int ((u + 7919 * (r + 1) + 1) ^ (5 : Int).toNat % pr))] _
      generalize (u + 7919 * (r + 1) + 1) ^ (5 : Int).toNat % pr = f at f0 f1 ⊢
      refine ⟨_, rfl, _, rfl, s, _, _, _, rfl, rfl, SqL.of hs3, rfl, _, _, rfl, rfl, ?_⟩
      refine ⟨_, rfl, _, _, rfl, rfl, ⟨by decide, by decide⟩, _, _, rfl, rfl, _, _, rfl, rfl, .inl ?_, ?_⟩
      · constructor <;> omega
      refine ⟨_, rfl, _, _, rfl, rfl, hp0, ?_⟩
      refine ⟨_, rfl, _, _, rfl, rfl, ⟨by decide, by decide⟩, _, rfl, _, _, rfl, rfl, hm, ?_⟩
      refine k _ _ (Int.emod_nonneg _ (by omega)) (Int.emod_lt_of_pos _ hm) (ExB.trans ?_ eH) ⟨_, _, _, hs3, hu0, hu1, by omega, by omega⟩
      rw [← hH]
      exact ExB.upd _ _ _
-- DEF _law_cell_at

def sp__law_cell_at (K : PySem.W.Frag) : Sp := fun vs H Q _ => ∃ (a : Addr) (ns : List Int) (k : Int), vs = [.ref a, .int k] ∧ SqL K H a (ns.map V.int) ∧ 0 ≤ k ∧ ∀ c : Int, Q (.int c) H

theorem ok__law_cell_at (T : Txt K mg) : FnOk P w K mg base CX0 1 T.f__law_cell_at T.fd__law_cell_at ["_law_script", "_law_k"] (sp__law_cell_at K) := by
  refine Fun.ok T.F__law_cell_at sc__law_cell_at (fun vs H Q E h => ?_) (fun cdv A outer s H vs Q E hr h => ?_)
  · obtain ⟨_, _, _, rfl, _⟩ := h; rfl
  · refine ⟨_, (pss_cons (ps_if (pt_cmpR op_lt (pv 1) (pe_callB (id := "len") (r := rLenS K) call_len_seq (by rfl) T.n_len PySem.boot_len (pa_cons (pv 0) pa_nil)) (nomark _))
        (pss_one (ps_ret (pe_ix (r := rIxL K) ix_list (pv 0) (pv 1) (fun _ _ => rfl))))
        pss_nil)
      (pss_one (ps_ret pe_int))), ?_⟩
    obtain ⟨a, ns, k, rfl, hS, hk, q⟩ := h
    refine ⟨_, rfl, _, rfl, a, _, rfl, .inl hS, _, _, rfl, rfl, _, rfl, ?_⟩
    refine ite2 (fun hp => ?_) (fun _ => q 0)
    have hlt : k < ((ns.map V.int).length : Int) := of_decide_eq_true hp
    rw [List.length_map] at hlt
    have hn : k.toNat < ns.length := by omega
    have g : (ns.map V.int)[k.toNat]? = some (.int ns[k.toNat]) := by
      rw [List.getElem?_map, List.getElem?_eq_getElem hn]
      rfl
    refine ⟨_, rfl, _, rfl, a, _, k, _, rfl, rfl, hS, at_of (j := k.toNat) (by omega) g, ?_⟩
    exact q _
-- DEF _law_net

def sp__law_net (K : PySem.W.Frag) : Sp := fun vs H Q _ => ∃ (pE pA : Addr) (as bs : List Addr) (es qs : List (Int × Int)) (m : Nat), vs = [.ref pE, .ref pA] ∧ es.length = m ∧ 1 ≤ m ∧ m ≤ 8 ∧ H pE = some (.lst (as.map V.ref)) ∧ EdgesAt H as es ∧ H pA = some (.lst (bs.map V.ref)) ∧ EdgesAt H bs qs ∧ qs.length ≤ 8 ∧
  (∀ e ∈ es, 0 ≤ e.1 ∧ e.1 ≤ m ∧ 0 ≤ e.2 ∧ e.2 ≤ m) ∧ (∀ e ∈ qs, 0 ≤ e.1 ∧ e.1 ≤ m ∧ 0 ≤ e.2 ∧ e.2 ≤ m) ∧ Conn es m ∧
  ∀ (rs : List Addr) (rows : List (List Int)) (p : Addr) (H' : Hp), H p = none → (∀ a ∈ rs, H a = none) → rs.Nodup → p ∉ rs → Ex H H' → Tab H' p rs rows → rows.length = m → (∀ r ∈ rows, r.length = qs.length ∧ ∀ y ∈ r, y.natAbs ≤ 100) → Q (.ref p) H'

theorem ok__law_net (T : Txt K mg) : FnOk P w K mg base CX0 1 T.f__law_net T.fd__law_net ["_law_ends_here", "_law_arcs"] (sp__law_net K) := by
  refine Fun.ok T.F__law_net sc__law_net (fun vs H Q E h => ?_) (fun cdv A outer s H vs Q E hr h => ?_)
  · obtain ⟨_, _, _, _, _, _, _, rfl, _⟩ := h; rfl
  · refine ⟨_, (pss_cons (ps_set (i := 2) sc__law_net.nd rfl (by first | exact Or.inl rfl | exact Or.inr rfl) (pe_disp (pps_cons (pe_ix (r := rIxT K) ix_tup (pe_ix (r := rIxL K) ix_list (pv 0) pe_int (fun _ _ => rfl)) pe_int (fun _ _ => rfl)) (pe_op op_rep (pe_lst (pa_cons pe_int pa_nil)) (pe_callB (id := "len") (r := rLenS K) call_len_seq (by rfl) T.n_len PySem.boot_len (pa_cons (pv 0) pa_nil))) pps_nil) (by rfl) (by rfl) (fun z => by cases z) (by decide)))
      (pss_cons (ps_while PassesOwn.never (pt_cmpR op_le (pe_callB (id := "len") call_lenD (by rfl) T.n_len PySem.boot_len (pa_cons (pv 2) pa_nil)) (pe_callB (id := "len") (r := rLenS K) call_len_seq (by rfl) T.n_len PySem.boot_len (pa_cons (pv 0) pa_nil)) (nomark _))
        (pss_one (ps_for PassesOwn.never rfl (pi_enum (by rfl) T.n_enumerate (pa_cons (pv 0) pa_nil)) (pg_tup rfl (pgs_cons (pg_name (i := 3) sc__law_net.nd rfl (by first | exact Or.inl rfl | exact Or.inr rfl)) (pgs_cons (pg_tup rfl (pgs_cons (pg_name (i := 4) sc__law_net.nd rfl (by first | exact Or.inl rfl | exact Or.inr rfl)) (pgs_cons (pg_name (i := 5) sc__law_net.nd rfl (by first | exact Or.inl rfl | exact Or.inr rfl)) pgs_nil))) pgs_nil)))
            (pss_cons (ps_setLc (i := 6) (own := [("_law_other", 7)]) (g := gName 7) (tt := tYes) rfl sc__law_net.nd rfl rfl (sw_true rfl rfl rfl (by decide +kernel)) (pi_range1 (by rfl) T.n_range (pa_cons (pe_callB (id := "len") (r := rLenS K) call_len_seq (by rfl) T.n_len PySem.boot_len (pa_cons (pv 0) pa_nil)) pa_nil)) (blkOk_by (N := ["_law_ends_here", "_law_arcs", "_law_far", "_law_k", "_law_begin", "_law_goal", "_law_step", "_law_other", "_law_a", "_law_b"]) (sc := (defScope s__law_net)) (by decide +kernel)) (fun _ _ _ _ _ => pg_name (i := 7) sc__law_net.nd rfl (Or.inl rfl)) (fun _ _ _ _ _ => pts_nil) (fun _ _ _ _ _ => (pe_callTy (T := "int") call_int1 (by rfl) T.n_int (by decide +kernel) (pa_cons (pe_cmpR op_eq (pv 3) (pv 7) (nomark _)) pa_nil))))
              (pss_one (ps_if (PW.pt (pw_and (pt_cmp (pc_din (hu_of hr) (pv 4) (pv 2))) (pw_and1 (pt_cmp (pc_dnotin (hu_of hr) (pv 5) (pv 2))))))
                (pss_one (ps_dput (hu_of hr) (pv 2) (pv 5) (pe_lc (own := [("_law_a", 8), ("_law_b", 9)]) (wi := iZip K _) (g := gTup K 2 (gCons (gName 8) (gCons (gName 9) gNil))) (tt := tYes) rfl sc__law_net.nd (pi_zip (by rfl) T.n_zip (pa_cons (pe_dget (hu_of hr) (pv 2) (pv 4) (fun _ _ => rfl)) (pa_cons (pv 6) pa_nil))) (blkOk_by (N := ["_law_ends_here", "_law_arcs", "_law_far", "_law_k", "_law_begin", "_law_goal", "_law_step", "_law_other", "_law_a", "_law_b"]) (sc := (defScope s__law_net)) (by decide +kernel)) (fun _ _ _ _ _ => (pg_tup rfl (pgs_cons (pg_name (i := 8) sc__law_net.nd rfl (Or.inl rfl)) (pgs_cons (pg_name (i := 9) sc__law_net.nd rfl (Or.inl rfl)) pgs_nil)))) (fun _ _ _ _ _ => pts_nil) (fun _ _ _ _ _ => (pe_op op_add (pv 8) (pv 9)))) rfl))
                (pss_one (ps_if (PW.pt (pw_and (pt_cmp (pc_din (hu_of hr) (pv 5) (pv 2))) (pw_and1 (pt_cmp (pc_dnotin (hu_of hr) (pv 4) (pv 2))))))
                    (pss_one (ps_dput (hu_of hr) (pv 2) (pv 4) (pe_lc (own := [("_law_a", 8), ("_law_b", 9)]) (wi := iZip K _) (g := gTup K 2 (gCons (gName 8) (gCons (gName 9) gNil))) (tt := tYes) rfl sc__law_net.nd (pi_zip (by rfl) T.n_zip (pa_cons (pe_dget (hu_of hr) (pv 2) (pv 5) (fun _ _ => rfl)) (pa_cons (pv 6) pa_nil))) (blkOk_by (N := ["_law_ends_here", "_law_arcs", "_law_far", "_law_k", "_law_begin", "_law_goal", "_law_step", "_law_other", "_law_a", "_law_b"]) (sc := (defScope s__law_net)) (by decide +kernel)) (fun _ _ _ _ _ => (pg_tup rfl (pgs_cons (pg_name (i := 8) sc__law_net.nd rfl (Or.inl rfl)) (pgs_cons (pg_name (i := 9) sc__law_net.nd rfl (Or.inl rfl)) pgs_nil)))) (fun _ _ _ _ _ => pts_nil) (fun _ _ _ _ _ => (pe_op op_sub (pv 8) (pv 9)))) rfl))
                    pss_nil))))))))
      (pss_one (ps_ret (pe_lc (own := [("_law_k", 3)]) (g := gName 3) (tt := tYes) rfl sc__law_net.nd (pi_range1 (by rfl) T.n_range (pa_cons (pe_callB (id := "len") (r := rLenS K) call_len_seq (by rfl) T.n_len PySem.boot_len (pa_cons (pv 0) pa_nil)) pa_nil)) (blkOk_by (N := ["_law_ends_here", "_law_arcs", "_law_far", "_law_k", "_law_begin", "_law_goal", "_law_step", "_law_other", "_law_a", "_law_b"]) (sc := (defScope s__law_net)) (by decide +kernel)) (fun _ _ _ _ _ => pg_name (i := 3) sc__law_net.nd rfl (Or.inr rfl)) (fun _ _ _ _ _ => pts_nil) (fun _ _ _ _ _ => (pe_lc (own := [("_law_begin", 4), ("_law_goal", 5)]) (wi := iList K _) (g := gTup K 2 (gCons (gName 4) (gCons (gName 5) gNil))) (tt := tYes) rfl sc__law_net.nd (pi_list (pv 1)) (blkOk_by (N := ["_law_ends_here", "_law_arcs", "_law_far", "_law_k", "_law_begin", "_law_goal", "_law_step", "_law_other", "_law_a", "_law_b"]) (sc := (relS ({ kind := .function, names := [(".0", .local), ("_law_k", .cell), ("_law_arcs", .free), ("_law_far", .free)], isGenerator := false, isCoroutine := false } : Scope) (defScope s__law_net))) (by decide +kernel)) (fun _ _ _ _ _ => (pg_tup rfl (pgs_cons (pg_name (i := 4) sc__law_net.nd rfl (Or.inl rfl)) (pgs_cons (pg_name (i := 5) sc__law_net.nd rfl (Or.inl rfl)) pgs_nil)))) (fun _ _ _ _ _ => pts_nil) (fun _ _ _ _ _ => (pe_op op_sub (pe_ix (r := rIxL K) ix_list (pe_dget (hu_of hr) (pv 2) (pv 5) (fun _ _ => rfl)) (pv 3) (fun _ _ => rfl)) (pe_ix (r := rIxL K) ix_list (pe_dget (hu_of hr) (pv 2) (pv 4) (fun _ _ => rfl)) (pv 3) (fun _ _ => rfl))))))))))), ?_⟩
    obtain ⟨pE, pA, as, bs, es, qs, m, rfl, hes, hm1, hm8, hE, hEE, hA, hAE, hq8, he0, hq0, hC, k⟩ := h
    have hal : as.length = m := by rw [Paired.length hEE, hes]
    -- far
    obtain ⟨a0, as', rfl⟩ : ∃ a0 as', as = a0 :: as' := by
      cases as with
      | nil => simp at hal; omega
      | cons a r => exact ⟨a, r, rfl⟩
    obtain ⟨e0, es', rfl, h00⟩ : ∃ e0 es', es = e0 :: es' ∧ H a0 = some (.tup [.int e0.1, .int e0.2]) := by
      cases hEE with
      | cons g t => exact ⟨_, _, rfl, g⟩
    have hE0 := he0 e0 (List.mem_cons_self ..)
    refine fun d nd => ?_
    have x0 : Ex H (upd H d (.dK [])) := Ex.new nd
    refine ⟨_, rfl, pE, _, 0, _, rfl, rfl, SqL.of (x0 _ _ hE), atI_nat (j := 0) rfl, a0, _, 0, _, rfl, rfl, SqT.of (x0 _ _ h00), rfl, ?_⟩
    refine ⟨Nat.le_of_ble_eq_true rfl, fun z1 nz1 => ?_⟩
    have x1 : Ex (upd H d (.dK [])) (upd (upd H d (.dK [])) z1 (.lst [.int 0])) := Ex.new nz1
    refine ⟨_, rfl, pE, _, rfl, .inl (SqL.of ((x0.trans x1) _ _ hE)), z1, _, _, rfl, rfl, upd_same, ?_, ?_, ?_, fun z2 nz2 => ?_⟩
    · rw [List.length_map, hal]; omega
    · rw [List.length_map, hal]; omega
    · rw [List.length_map, hal]
      exact sz_of (by simp; omega)
    have zz : (List.replicate (((a0 :: as').map V.ref).length : Int).toNat [V.int 0]).flatten = (List.replicate m 0).map V.int := by
      rw [List.length_map, hal, Int.toNat_natCast]
      exact rep_flat m
    rw [zz]
    have x2 : Ex (upd (upd H d (.dK [])) z1 (.lst [.int 0])) (upd (upd (upd H d (.dK [])) z1 (.lst [.int 0])) z2 (.lst ((List.replicate m 0).map V.int))) := Ex.new nz2
    have hd2 := (x1.trans x2) _ _ (upd_same (H := H) (a := d) (o := .dK []))
    refine ⟨hd2, [(Sum.inl e0.1, .ref z2)], rfl, Nat.le_of_ble_eq_true rfl, ?_⟩
    have xa := (x0.trans x1).trans x2
    have hz2 : upd (upd (upd H d (.dK [])) z1 (.lst [.int 0])) z2 (.lst ((List.replicate m 0).map V.int)) z2 = some (.lst ((List.replicate m 0).map V.int)) := upd_same
    generalize upd (upd (upd H d (.dK [])) z1 (.lst [.int 0])) z2 (.lst ((List.replicate m 0).map V.int)) = H2 at hd2 xa hz2 ⊢
    clear x0 x1 x2 nz1 nz2 zz
    have z2d : z2 ≠ d := ne_of hz2 hd2 (by intro z; cases z)
    have F0 : FarOk (upd H2 d (.dK (mergeK [] [(Sum.inl e0.1, .ref z2)]))) d m [(Sum.inl e0.1, .ref z2)] [e0.1] := by
      refine ⟨upd_same, rfl, by simp, fun x hx => ?_, fun x v hv => ?_⟩
      · have : x = e0.1 := by simpa using hx
        rw [this]
        exact ⟨hE0.1, hE0.2.1⟩
      · have hx : x = e0.1 ∧ v = .ref z2 := by
          by_cases h : (Sum.inl e0.1 : Key) = Sum.inl x
          · rw [valV_pos (p := (Sum.inl e0.1, V.ref z2)) h] at hv
            exact ⟨(Sum.inl.inj h).symm, (Option.some.inj hv).symm⟩
          · have : valV [((Sum.inl e0.1 : Key), V.ref z2)] (Sum.inl x : Key) = none := by simp [valV, List.find?_cons, h]
            rw [this] at hv
            cases hv
        obtain ⟨_, rfl⟩ := hx
        refine ⟨z2, List.replicate m 0, rfl, ?_, List.length_replicate, fun y hy => ?_⟩
        · rw [upd_ne z2d]
          exact hz2
        · rw [List.eq_of_mem_replicate hy]
          exact Nat.zero_le _
    have XB : ExB d H (upd H2 d (.dK (mergeK [] [(Sum.inl e0.1, .ref z2)]))) := Ex.updB xa
    have ndl : ∀ {b : Addr} {o : HO}, H b = some o → b ≠ d := fun g => ne_of_none g nd
    generalize upd H2 d (.dK (mergeK [] [(Sum.inl e0.1, .ref z2)])) = H3 at F0 XB
    clear hz2 hd2 xa
    -- the loop
    refine ⟨fun μ σ H' => ∃ (y3 y4 y5 y6 y7 y8 y9 : Option V) (kvs : List (Key × V)) (L : List Int), σ = [some (.ref pE), some (.ref pA), some (.ref d), y3, y4, y5, y6, y7, y8, y9] ∧ μ = m + 1 - L.length ∧ ExB d H H' ∧ FarOk H' d m kvs L ∧ 1 ≤ L.length,
      ⟨m, _, _, _, _, _, _, _, _, _, rfl, rfl, XB, F0, Nat.le_refl 1⟩, ?_⟩
    rintro μ σ H4 ⟨y3, y4, y5, y6, y7, y8, y9, kvs, L, rfl, rfl, e4, F4, hL1⟩
    refine ⟨_, rfl, d, kvs, rfl, F4.at_, _, rfl, pE, _, rfl, .inl (SqL.of (e4 _ _ (ndl hE) hE)), _, _, rfl, rfl, _, rfl, ?_⟩
    rw [F4.len, List.length_map, hal]
    refine ite2 (fun hc => ?_) (fun hc => ?_)
    · have hLm : L.length ≤ m := by have := of_decide_eq_true hc; omega
      refine ⟨fun σ' H' => ∃ (y3 y4 y5 y6 y7 y8 y9 : Option V) (kvs' : List (Key × V)) (L' : List Int), σ' = [some (.ref pE), some (.ref pA), some (.ref d), y3, y4, y5, y6, y7, y8, y9] ∧ L.length < L'.length ∧ ExB d H H' ∧ FarOk H' d m kvs' L',
        fun σ' H' ⟨z3, z4, z5, z6, z7, z8, z9, kvs', L', a1, a2, a3, a4⟩ => ⟨m + 1 - L'.length, by omega, z3, z4, z5, z6, z7, z8, z9, kvs', L', a1, rfl, a3, a4, by omega⟩, ?_⟩
      refine ⟨_, rfl, pE, _, rfl, SqL.of (e4 _ _ (ndl hE) hE), for_enum (xs := (a0 :: as').map V.ref) (fun i σ' H' => ∃ (y3 y4 y5 y6 y7 y8 y9 : Option V) (kvs' : List (Key × V)) (L' : List Int), σ' = [some (.ref pE), some (.ref pA), some (.ref d), y3, y4, y5, y6, y7, y8, y9] ∧ ExB d H H' ∧ FarOk H' d m kvs' L' ∧
        (L.length < L'.length ∨ (L' = L ∧ ∀ j, j < i → ∀ e, (e0 :: es')[j]? = some e → (e.1 ∈ L ↔ e.2 ∈ L)))) ?_ (fun i σ' H' ⟨_, _, _, _, _, _, _, _, _, _, x, _, _⟩ => SqL.of (x _ _ (ndl hE) hE)) ?_ ?_⟩
      · exact ⟨_, _, _, _, _, _, _, _, _, rfl, e4, F4, .inr ⟨rfl, fun j hj => absurd hj (Nat.not_lt_zero _)⟩⟩
      · rintro i x T σ' H5 hi ⟨z3, z4, z5, z6, z7, z8, z9, kvs', L', rfl, e5, F5, hor⟩ nT
        rw [List.getElem?_map] at hi
        obtain ⟨ai, hai, rfl⟩ := Option.map_eq_some_iff.mp hi
        obtain ⟨ei, hei, hti⟩ := paired_get hEE hai
        have xT : Ex H5 (upd H5 T (.tup [.int (i : Nat), .ref ai])) := Ex.new nT
        have mi := he0 ei (List.mem_of_getElem? hei)
        refine ⟨T, _, rfl, SqT.of upd_same, rfl, _, _, rfl, _, _, rfl, ⟨ai, _, rfl, SqT.of (xT _ _ (e5 _ _ (ndl hti) hti)), rfl, _, _, rfl, _, _, rfl, rfl, rfl, ?_⟩⟩
        have F6 := F5.ex xT
        have e6 : ExB d H (upd H5 T (.tup [.int (i : Nat), .ref ai])) := e5.trans (ExB.of xT)
        generalize upd H5 T (.tup [.int (i : Nat), .ref ai]) = H6 at F6 e6 ⊢
        -- step
        have Est : EvL (tLc (iRng1 (tCons (tCB (rLenS K) (tCons (tVar 0) tNil)) tNil)) (gName 7) tYes (tCB (fun xs H Q => (∃ i, xs = [V.int i] ∧ Q (V.int i) H) ∨ ∃ k, xs = [V.bl k] ∧ Q (V.int (if k = true then 1 else 0)) H) (tCons (tOp rEq (tVar 3) (tVar 7)) tNil)) [7])
            [some (.ref pE), some (.ref pA), some (.ref d), some (.int (i : Nat)), some (.int ei.1), some (.int ei.2), z6, z7, z8, z9] H6 (((List.range m).map fun o => if decide (V.int (i : Nat) = V.int (o : Nat)) = true then (1 : Int) else 0).map V.int) := by
          have g := el_lcR1 (t := tYes) (te := tCB (fun xs H Q => (∃ i, xs = [V.int i] ∧ Q (V.int i) H) ∨ ∃ k, xs = [V.bl k] ∧ Q (V.int (if k = true then 1 else 0)) H) (tCons (tOp rEq (tVar 3) (tVar 7)) tNil)) (j := 7) (vs := [7]) (σ := [some (.ref pE), some (.ref pA), some (.ref d), some (.int (i : Nat)), some (.int ei.1), some (.int ei.2), z6, z7, z8, z9]) (H := H6) (n := (m : Int)) (ta := tCons (tCB (rLenS K) (tCons (tVar 0) tNil)) tNil)
            (fun _ => true) (fun o => .int (if decide (V.int (i : Nat) = V.int (o : Nat)) = true then 1 else 0)) (ea_cons (ev_is (ev_len (ev_var rfl) (SqL.of (e6 _ _ (ndl hE) hE))) (by rw [List.length_map, hal])) ea_nil) (by omega) (fun x => rfl) (fun o H1 e ho Hx ex Qx qx => qx Hx (Ex.refl _)) (fun o H1 e ho hf H2 e2 Q2 q2 => ⟨_, rfl, _, rfl, rfl, .inr ⟨_, rfl, q2 H2 (Ex.refl _)⟩⟩)
          have eg : given (m : Int).toNat (fun _ => true) (fun o => V.int (if decide (V.int (i : Nat) = V.int (o : Nat)) = true then 1 else 0)) = ((List.range m).map fun o => if decide (V.int (i : Nat) = V.int (o : Nat)) = true then (1 : Int) else 0).map V.int := by
            unfold given
            rw [Int.toNat_natCast, List.filter_eq_self.mpr (fun _ _ => rfl), List.map_map]
            rfl
          rw [eg] at g
          exact g
        refine q_asgL Est fun st H7 _ e7 hst => ?_
        have F7 := F6.ex e7
        have e07 := e6.trans (ExB.of e7)
        have stb : ∀ y ∈ (List.range m).map fun o => if decide (V.int (i : Nat) = V.int (o : Nat)) = true then (1 : Int) else 0, y = 0 ∨ y = 1 := by
          intro y hy
          obtain ⟨o, _, rfl⟩ := List.mem_map.mp hy
          split
          · exact .inr rfl
          · exact .inl rfl
        have stl : ((List.range m).map fun o => if decide (V.int (i : Nat) = V.int (o : Nat)) = true then (1 : Int) else 0).length = m := by
          rw [List.length_map, List.length_range]
        generalize ((List.range m).map fun o => if decide (V.int (i : Nat) = V.int (o : Nat)) = true then (1 : Int) else 0) = sl at hst stb stl
        -- the ifs
        have nxt : ∀ H', ExB d H H' → FarOk H' d m kvs' L' → (ei.1 ∈ L' ↔ ei.2 ∈ L') → ∃ (y3 y4 y5 y6 y7 y8 y9 : Option V) (kvs' : List (Key × V)) (L' : List Int), [some (V.ref pE), some (.ref pA), some (.ref d), some (.int (i : Nat)), some (.int ei.1), some (.int ei.2), some (.ref st), z7, z8, z9] = [some (.ref pE), some (.ref pA), some (.ref d), y3, y4, y5, y6, y7, y8, y9] ∧ ExB d H H' ∧ FarOk H' d m kvs' L' ∧
            (L.length < L'.length ∨ (L' = L ∧ ∀ j, j < i + 1 → ∀ e, (e0 :: es')[j]? = some e → (e.1 ∈ L ↔ e.2 ∈ L))) := by
          intro H' x1 x2 x3
          refine ⟨_, _, _, _, _, _, _, kvs', L', rfl, x1, x2, ?_⟩
          rcases hor with h | ⟨rfl, h⟩
          · exact .inl h
          · refine .inr ⟨rfl, fun j hj e he => ?_⟩
            by_cases hji : j < i
            · exact h j hji e he
            · have : j = i := by omega
              subst this
              rw [hei] at he
              have := Option.some.inj he
              rw [← this]
              exact x3
        have grow : ∀ (x : Int) (a : Addr) (ns : List Int) (H' : Hp), ExB d H H' → FarOk H' d m kvs' L' → x ∉ L' → 0 ≤ x ∧ x ≤ m → H' a = some (.lst (ns.map V.int)) → ns.length = m → (∀ y ∈ ns, y.natAbs ≤ L'.length + 1) → ∃ (y3 y4 y5 y6 y7 y8 y9 : Option V) (kvs2 : List (Key × V)) (L2 : List Int), [some (V.ref pE), some (.ref pA), some (.ref d), some (.int (i : Nat)), some (.int ei.1), some (.int ei.2), some (.ref st), z7, z8, z9] = [some (.ref pE), some (.ref pA), some (.ref d), y3, y4, y5, y6, y7, y8, y9] ∧ ExB d H (upd H' d (.dK (putK kvs' (Sum.inl x) (.ref a)))) ∧ FarOk (upd H' d (.dK (putK kvs' (Sum.inl x) (.ref a)))) d m kvs2 L2 ∧
            (L.length < L2.length ∨ (L2 = L ∧ ∀ j, j < i + 1 → ∀ e, (e0 :: es')[j]? = some e → (e.1 ∈ L ↔ e.2 ∈ L))) := by
          intro x a ns H' x1 x2 x3 x4 x5 x6 x7
          refine ⟨_, _, _, _, _, _, _, _, L' ++ [x], rfl, x1.trans (ExB.upd _ _ _), x2.put x3 x4 x5 x6 x7, .inl ?_⟩
          rw [List.length_append]
          simp only [List.length_cons, List.length_nil]
          rcases hor with h | ⟨rfl, _⟩ <;> omega
        have hkv : kvs'.length < sizeLine := small1000 (by have := F7.len; have := F7.le; omega)
        show tIfS _ _ _ _ [some (V.ref pE), some (.ref pA), some (.ref d), some (.int (i : Nat)), some (.int ei.1), some (.int ei.2), some (.ref st), z7, z8, z9] H7
        refine ⟨_, rfl, _, rfl, d, _, rfl, DGet.k (k := Sum.inl ei.1) F7.at_, _, rfl, ?_⟩
        rw [F7.some_ ei.1]
        have snd : (∀ H', Ex H7 H' → ei.1 ∉ L' ∨ ei.2 ∈ L' → tIfS (tAnd (tB (tDIn (tVar 5) (tVar 2))) (tB (tDNotIn (tVar 4) (tVar 2)))) (sDPut (tVar 2) (tVar 4) (tLc (iZip K (tCons (tDGet (tVar 2) (tVar 5)) (tCons (tVar 6) tNil))) (g2 K 8 9) tYes (tOp (rI0 fun i j => V.int (i - j)) (tVar 8) (tVar 9)) [8, 9])) tNext
            { nx := fun σ' H' => ∃ (y3 y4 y5 y6 y7 y8 y9 : Option V) (kvs' : List (Key × V)) (L' : List Int), σ' = [some (.ref pE), some (.ref pA), some (.ref d), y3, y4, y5, y6, y7, y8, y9] ∧ ExB d H H' ∧ FarOk H' d m kvs' L' ∧ (L.length < L'.length ∨ (L' = L ∧ ∀ j, j < i + 1 → ∀ e, (e0 :: es')[j]? = some e → (e.1 ∈ L ↔ e.2 ∈ L))), rt := Q,
              bk := fun σ' H' => ∃ (y3 y4 y5 y6 y7 y8 y9 : Option V) (kvs' : List (Key × V)) (L' : List Int), σ' = [some (.ref pE), some (.ref pA), some (.ref d), y3, y4, y5, y6, y7, y8, y9] ∧ L.length < L'.length ∧ ExB d H H' ∧ FarOk H' d m kvs' L',
              ct := fun σ' H' => ∃ (y3 y4 y5 y6 y7 y8 y9 : Option V) (kvs' : List (Key × V)) (L' : List Int), σ' = [some (.ref pE), some (.ref pA), some (.ref d), y3, y4, y5, y6, y7, y8, y9] ∧ ExB d H H' ∧ FarOk H' d m kvs' L' ∧ (L.length < L'.length ∨ (L' = L ∧ ∀ j, j < i + 1 → ∀ e, (e0 :: es')[j]? = some e → (e.1 ∈ L ↔ e.2 ∈ L))) }
            [some (V.ref pE), some (.ref pA), some (.ref d), some (.int (i : Nat)), some (.int ei.1), some (.int ei.2), some (.ref st), z7, z8, z9] H') := by
          intro H' x1 hno
          have F8 := F7.ex x1
          have e8 := e07.trans (ExB.of x1)
          refine ⟨_, rfl, _, rfl, d, _, rfl, DGet.k (k := Sum.inl ei.2) F8.at_, _, rfl, ?_⟩
          rw [F8.some_ ei.2]
          by_cases h2 : ei.2 ∈ L'
          · rw [decide_eq_true h2]
            refine iteT ?_
            refine ⟨_, rfl, _, rfl, d, _, rfl, DGet.k (k := Sum.inl ei.1) F8.at_, _, rfl, ?_⟩
            rw [F8.some_ ei.1]
            by_cases h1 : ei.1 ∈ L'
            · rw [decide_eq_true h1]
              exact iteF (nxt _ e8 F8 ⟨fun _ => h2, fun _ => h1⟩)
            · rw [decide_eq_false h1]
              refine iteT ?_
              obtain ⟨ar, ns, hv, har, hnl, hnb⟩ := F8.get h2
              refine el_zip (K := K) (f := fun i j => i - j) (xs := ns) (ys := sl) (ea_cons (ev_dget rfl rfl F8.at_ hv) (ea_cons (ev_var rfl) ea_nil)) (SqL.of har) (SqL.of (x1 _ _ hst)) (by rw [hnl, stl]) (by omega) (fun u v => rfl) (fun x y H1 _ _ _ => ev_op (ev_var rfl) (ev_var rfl) rv_I0) H' (Ex.refl _) _ fun r H9 nr e9 hr => ?_
              have F9 := F8.ex e9
              refine ⟨_, rfl, _, rfl, d, _, rfl, DPut.k (k := Sum.inl ei.1) F9.at_ hkv, ?_⟩
              refine grow _ r _ H9 (e8.trans (ExB.of e9)) F9 h1 ⟨mi.1, mi.2.1⟩ hr (by rw [List.length_zipWith]; omega) fun y hy => ?_
              obtain ⟨u, v, hu, hv', rfl⟩ : ∃ u v, u ∈ ns ∧ v ∈ sl ∧ u - v = y := by
                obtain ⟨j, hj⟩ := List.getElem?_of_mem hy
                rw [List.getElem?_zipWith] at hj
                cases h3 : ns[j]? with
                | none => rw [h3] at hj; simp at hj
                | some u =>
                  cases h4 : sl[j]? with
                  | none => rw [h3, h4] at hj; simp at hj
                  | some v =>
                    rw [h3, h4] at hj
                    exact ⟨u, v, List.mem_of_getElem? h3, List.mem_of_getElem? h4, Option.some.inj hj⟩
              have b1 := hnb u hu
              rcases stb v hv' with rfl | rfl <;> omega
          · rw [decide_eq_false h2]
            refine iteF ?_
            have h1 : ei.1 ∉ L' := hno.resolve_right h2
            exact nxt _ e8 F8 ⟨fun z => absurd z h1, fun z => absurd z h2⟩
        by_cases h1 : ei.1 ∈ L'
        · rw [decide_eq_true h1]
          refine iteT ?_
          refine ⟨_, rfl, _, rfl, d, _, rfl, DGet.k (k := Sum.inl ei.2) F7.at_, _, rfl, ?_⟩
          rw [F7.some_ ei.2]
          by_cases h2 : ei.2 ∈ L'
          · rw [decide_eq_true h2]
            exact iteF (snd H7 (Ex.refl _) (.inr h2))
          · rw [decide_eq_false h2]
            refine iteT ?_
            obtain ⟨ar, ns, hv, har, hnl, hnb⟩ := F7.get h1
            refine el_zip (K := K) (f := fun i j => i + j) (xs := ns) (ys := sl) (ea_cons (ev_dget rfl rfl F7.at_ hv) (ea_cons (ev_var rfl) ea_nil)) (SqL.of har) (SqL.of hst) (by rw [hnl, stl]) (by omega) (fun u v => rfl) (fun x y H1 _ _ _ => ev_op (ev_var rfl) (ev_var rfl) rv_I0) H7 (Ex.refl _) _ fun r H9 nr e9 hr => ?_
            have F9 := F7.ex e9
            refine ⟨_, rfl, _, rfl, d, _, rfl, DPut.k (k := Sum.inl ei.2) F9.at_ hkv, ?_⟩
            refine grow _ r _ H9 (e07.trans (ExB.of e9)) F9 h2 ⟨mi.2.2.1, mi.2.2.2⟩ hr (by rw [List.length_zipWith]; omega) fun y hy => ?_
            obtain ⟨u, v, hu, hv', rfl⟩ : ∃ u v, u ∈ ns ∧ v ∈ sl ∧ u + v = y := by
              obtain ⟨j, hj⟩ := List.getElem?_of_mem hy
              rw [List.getElem?_zipWith] at hj
              cases h3 : ns[j]? with
              | none => rw [h3] at hj; simp at hj
              | some u =>
                cases h4 : sl[j]? with
                | none => rw [h3, h4] at hj; simp at hj
                | some v =>
                  rw [h3, h4] at hj
                  exact ⟨u, v, List.mem_of_getElem? h3, List.mem_of_getElem? h4, Option.some.inj hj⟩
            have b1 := hnb u hu
            rcases stb v hv' with rfl | rfl <;> omega
        · rw [decide_eq_false h1]
          exact iteF (snd H7 (Ex.refl _) (.inl h1))
      · rintro σ' H5 ⟨z3, z4, z5, z6, z7, z8, z9, kvs', L', rfl, e5, F5, hor⟩
        refine ⟨z3, z4, z5, z6, z7, z8, z9, kvs', L', rfl, ?_, e5, F5⟩
        rcases hor with h | ⟨rfl, h⟩
        · exact h
        · exfalso
          rw [List.length_map, hal] at h
          obtain ⟨x0, hx0⟩ : ∃ x0, x0 ∈ L' := by
            cases L' with
            | nil => simp at hL1
            | cons x r => exact ⟨x, List.mem_cons_self ..⟩
          have hS := hC (fun x => decide (x ∈ L')) (fun e he => by
            obtain ⟨j, hj⟩ := List.getElem?_of_mem he
            have := h j (by have := (List.getElem?_eq_some_iff.mp hj).1; omega) e hj
            by_cases q : e.1 ∈ L'
            · rw [decide_eq_true q, decide_eq_true (this.mp q)]
            · rw [decide_eq_false q, decide_eq_false (fun z => q (this.mpr z))])
          have hall : ∀ x ∈ numsTo (m + 1), x ∈ L' := by
            intro x hx
            have hx := mem_numsTo.mp hx
            have i0 := F5.inn x0 hx0
            have := hS x x0 (by omega) (by omega) i0.1 i0.2
            rw [decide_eq_true hx0] at this
            exact of_decide_eq_true this
          have := nodup_sub (nodup_nums (m + 1)) hall
          rw [numsTo_length] at this
          omega
    · have hLm : m < L.length := by
        have : ¬ ((L.length : Int) ≤ (m : Int)) := fun z => hc (decide_eq_true z)
        omega
      have hall := F4.all hLm
      have hEl := e4 _ _ (ndl hE) hE
      have hAl := e4 _ _ (ndl hA) hA
      have hAE4 : EdgesAt H4 bs qs := EdgesAt.mono (fun a xs g => e4 _ _ (ndl g) g) hAE
      -- the rows
      refine lc_rows (m := m) (F := fun kk => qs.map fun e => (valN H4 kvs e.2 kk) - (valN H4 kvs e.1 kk)) (ea_cons (ev_is (ev_len (ev_var rfl) (SqL.of hEl)) (by rw [List.length_map, hal])) ea_nil) (by omega) (fun u => rfl) ?_ ?_
      · intro kk H5 x5 hkk
        refine el_pairs (K := K) (f := fun e => (valN H4 kvs e.2 kk) - (valN H4 kvs e.1 kk)) rfl (x5 _ _ hAl) (EdgesAt.mono (tups_E x5) hAE4) (by omega) (fun u v => rfl) fun e H6 he x6 => ?_
        have mq := hq0 e he
        obtain ⟨a1, n1, v1, g1, l1, b1⟩ := F4.get (hall e.1 mq.1 mq.2.1)
        obtain ⟨a2, n2, v2, g2, l2, b2⟩ := F4.get (hall e.2 mq.2.2.1 mq.2.2.2)
        have x46 := x5.trans x6
        rw [valN_eq v1 g1, valN_eq v2 g2]
        refine ev_op (ev_op (ev_dget rfl rfl (x46 _ _ F4.at_) v2) (ev_var rfl) (rv_ixL (SqL.of (x46 _ _ g2)) (atI_row (by omega)))) (ev_op (ev_dget rfl rfl (x46 _ _ F4.at_) v1) (ev_var rfl) (rv_ixL (SqL.of (x46 _ _ g1)) (atI_row (by omega)))) rv_I0
      · intro p rs H5 np nrs ndr npr x5 ht
        have hH : ∀ {a : Addr}, H4 a = none → H a = none := fun {a} g => fresh_B e4 g ⟨_, F4.at_⟩
        refine k rs _ p H5 (hH np) (fun a ha => hH (nrs a ha)) ndr npr (fun b o g => (e4.trans (ExB.of x5)) b o (ndl g) g) ht (by rw [List.length_map, List.length_range]) fun r hr => ?_
        obtain ⟨kk, hkk, rfl⟩ := List.mem_map.mp hr
        refine ⟨by rw [List.length_map], fun y hy => ?_⟩
        obtain ⟨e, he, rfl⟩ := List.mem_map.mp hy
        have mq := hq0 e he
        have hkk := List.mem_range.mp hkk
        obtain ⟨a1, n1, v1, g1, l1, b1⟩ := F4.get (hall e.1 mq.1 mq.2.1)
        obtain ⟨a2, n2, v2, g2, l2, b2⟩ := F4.get (hall e.2 mq.2.2.1 mq.2.2.2)
        rw [valN_eq v1 g1, valN_eq v2 g2]
        have c1 : n1[kk]?.getD 0 ∈ n1 := by
          rw [List.getElem?_eq_getElem (by omega)]
          exact List.getElem_mem _
        have c2 : n2[kk]?.getD 0 ∈ n2 := by
          rw [List.getElem?_eq_getElem (by omega)]
          exact List.getElem_mem _
        have d1 := b1 _ c1
        have d2 := b2 _ c2
        have := F4.le
        omega
-- DEF is_row

def sp_is_row (K : PySem.W.Frag) : Sp := fun vs H Q _ => ∃ (a : Addr) (ns : List Int), vs = [.ref a] ∧ H a = some (.lst (ns.map V.int)) ∧ 1 ≤ ns.length ∧ ns.length ≤ 8 ∧ ∀ H', Ex H H' → Q (.bl true) H'

theorem ok_is_row (T : Txt K mg) : FnOk P w K mg base CX0 2 T.f_is_row T.fd_is_row ["thing"] (sp_is_row K) := by
  refine Fun.ok T.F_is_row sc_is_row (fun vs H Q E h => ?_) (fun cdv A outer s H vs Q E hr h => ?_)
  · obtain ⟨_, _, rfl, _⟩ := h; rfl
  · refine ⟨_, (pss_cons (ps_if (PW.pt (pw_or (pt_not (pt_val (pe_callB (id := "isinstance") (r := rIsi K) call_isi (by rfl) T.n_isinstance (by decide +kernel) (pa_cons (pv 0) (pa_cons (pe_bltn (v := .ty "list") (by rfl) T.n_list (by decide +kernel) rfl) pa_nil))))) (pw_or1 (pt_not (pt_chain op_le op_le pe_int (pe_callB (id := "len") (r := rLenS K) call_len_seq (by rfl) T.n_len PySem.boot_len (pa_cons (pv 0) pa_nil)) (pe_glob (v := .int 8) (by rfl) T.g_MOST ⟨_, rfl⟩))))))
        (pss_one (ps_ret pe_bl))
        pss_nil)
      (pss_one (ps_ret (pe_callB (id := "all") (r := rAll K) (cr_all rfl) (by rfl) T.n_all (by decide +kernel) (pa_cons (pe_lc (own := [("entry", 1)]) (wi := iList K _) (g := gName 1) (tt := tYes) rfl sc_is_row.nd (pi_list (pv 0)) (blkOk_by (N := ["thing", "entry"]) (sc := (defScope s_is_row)) (by decide +kernel)) (fun _ _ _ _ _ => pg_name (i := 1) sc_is_row.nd rfl (Or.inl rfl)) (fun _ _ _ _ _ => pts_nil) (fun _ _ _ _ _ => (pe_call (ok_is_whole T) hr (by rfl) T.g_is_whole T.k_is_whole T.b_is_whole .nil pass0 (pa_cons (pv 1) pa_nil)))) pa_nil))))), ?_⟩
    obtain ⟨a, ns, rfl, ha, h1, h8, k⟩ := h
    refine q_when (b := false) (et_is (et_or (et_not (et_B (ev_isi (t := "list") (b := true) (ev_var rfl) ev_c (fun H1 e => .base (.lst (e _ _ ha))) (by decide +kernel)))) (fun _ => et_not (et_test (ev_chain ev_c (ev_is (ev_len (ev_var rfl) (SqL.of ha)) (by rw [List.length_map])) ev_c rv_le rv_le)))) ?_) (fun z => nomatch z) (fun _ H1 e1 => ?_)
    · rw [decide_eq_true (show (1 : Int) ≤ (ns.length : Int) by omega), decide_eq_true (show (ns.length : Int) ≤ 8 by omega)]
      rfl
    refine s_ret (ev_all (el_yes (a := a) rfl (e1 _ _ ha) (by rw [List.length_map]; omega) (fun x H' hx e => ?_) (fun x => rfl))) fun H2 e2 => k H2 (e1.trans e2)
    obtain ⟨i, _, rfl⟩ := List.mem_map.mp hx
    exact ev_fn (ea_cons (ev_var rfl) ea_nil) fun H3 e3 Q3 q3 => ⟨_, "int", rfl, .base (.int _), .inl rfl, q3 H3 (Ex.refl _)⟩
-- DEF cleared
structure TN (s : Addr) (H : Hp) (p : Addr) (as : List Addr) (rows : List (List Int)) : Prop where
  tab : Tab H p as rows
  ps : p ≠ s
  ass : ∀ a ∈ as, a ≠ s
theorem TN.ex {s : Addr} {H H' : Hp} {p : Addr} {as : List Addr} {rows : List (List Int)} (h : TN s H p as rows) (e : Ex H H') : TN s H' p as rows := ⟨h.tab.ex e, h.ps, h.ass⟩
theorem TN.exB {s : Addr} {H H' : Hp} {p : Addr} {as : List Addr} {rows : List (List Int)} (h : TN s H p as rows) (e : ExB s H H') : TN s H' p as rows := ⟨⟨e _ _ h.ps h.tab.1, rows_but h.tab.2 fun a ha o g => e a o (h.ass a ha) g⟩, h.ps, h.ass⟩
theorem TN.of {s : Addr} {n : Int} {H0 H : Hp} {p : Addr} {as : List Addr} {rows : List (List Int)} (hs : SrcAt H0 s n) (hp : H0 p = none) (ha : ∀ a ∈ as, H0 a = none) (h : Tab H p as rows) : TN s H p as rows := ⟨h, hs.ne hp, fun a q => hs.ne (ha a q)⟩
theorem dp_rows {K : PySem.W.Frag} {H : Hp} : ∀ {as : List Addr} {rows : List (List Int)}, RowsAt H as rows → DpAll K H (as.map V.ref) (rows.map fun r => PyData.list (r.map PyData.int))
  | _, _, .nil => .nil
  | _, _, .cons h t => .cons (.lst (SqL.of h) (dpAll_ints _)) (dp_rows t)
theorem canLay_rows : ∀ rows : List (List Int), PyData.canLayAll0 (rows.map fun r => PyData.list (r.map PyData.int)) = true
  | [] => rfl
  | r :: rs => by
    show (PyData.canLayAll0 (r.map PyData.int) && PyData.canLayAll0 (rs.map fun r => PyData.list (r.map PyData.int))) = true
    rw [canLay_ints, canLay_rows rs]
    rfl
theorem depth_rows : ∀ rows : List (List Int), PyData.depthAll (rows.map fun r => PyData.list (r.map PyData.int)) ≤ 1
  | [] => Nat.zero_le _
  | r :: rs => by
    show max (PyData.depthAll (r.map PyData.int) + 1) (PyData.depthAll (rs.map fun r => PyData.list (r.map PyData.int))) ≤ 1
    have := depth_rows rs
    rw [depth_ints]
    omega
theorem rv_neT {K : PySem.W.Frag} {H : Hp} {p q : Addr} {as bs : List Addr} {rows : List (List Int)} (hp : Tab H p as rows) (hq : Tab H q bs rows) : RV (rNeD K) (.ref p) (.ref q) H (.bl false) := fun H1 e Q k => by
  have sh : SeqAt.shaped (.list (rows.map fun r => PyData.list (r.map PyData.int))) = true := shaped_list (canLay_rows rows) (Nat.le_trans (depth_rows rows) (by decide))
  refine ⟨_, _, .lst (SqL.of (e _ _ hp.1)) (dp_rows (hp.2.ex e)), .lst (SqL.of (e _ _ hq.1)) (dp_rows (hq.2.ex e)), sh, sh, ?_⟩
  rw [SeqAt.eqv_refl _ (SeqAt.canLay_of_shaped sh)]
  exact k H1 (Ex.refl _)
theorem lc_rowsT {K : PySem.W.Frag} {nn : Nat} {te : TE} {vs : List Nat} {j : Nat} {σ : L2.St} {H : Hp} {Q : VK} {a : Addr} {as0 : List Addr} {rows : List (List Int)} (F : List Int → List Int) (hσ : σ[nn]? = some (some (.ref a))) (ht : Tab H a as0 rows) (hm : rows.length ≤ 1000) (hw : ∀ u, wipe ((wipe σ vs).set j (some u)) vs = wipe σ vs)
    (he : ∀ c r H1, r ∈ rows → H c = some (.lst (r.map V.int)) → Ex H H1 → EvL te ((wipe σ vs).set j (some (.ref c))) H1 ((F r).map V.int))
    (k : ∀ p as H2, H p = none → (∀ a ∈ as, H a = none) → as.Nodup → p ∉ as → Ex H H2 → Tab H2 p as (rows.map F) → Q (.ref p) H2) : tLc (iList K (tVar nn)) (gName j) tYes te vs σ H Q := by
  refine ⟨_, hσ, a, rfl, ⟨_, SqL.of ht.1⟩, fun D hD => ?_⟩
  refine lc_list (K := K) (a := a) (xs := as0.map V.ref) (fun i H' => ∃ as, Ex H H' ∧ H' D = some (.lst (as.map V.ref)) ∧ RowsAt H' as ((rows.take i).map F) ∧ (∀ a ∈ as, H a = none) ∧ as.Nodup ∧ D ∉ as) ⟨[], Ex.new hD, upd_same, .nil, fun a ha => by simp at ha, List.nodup_nil, by simp⟩ (fun i H' _ ⟨_, p1, _⟩ => SqL.of (p1 _ _ ht.1)) (fun i x H' gx p => ?_) (fun H' p => ?_)
  · obtain ⟨as, p1, p2, p3, p4, p5, p6⟩ := p
    rw [List.getElem?_map] at gx
    obtain ⟨c0, hc0, rfl⟩ := Option.map_eq_some_iff.mp gx
    obtain ⟨y, hy, hh⟩ := paired_get ht.2 hc0
    have hi := (List.getElem?_eq_some_iff.mp hy).1
    have el : as.length = i := by rw [Paired.length p3, List.length_map, List.length_take]; omega
    refine ⟨hw _, ?_⟩
    show te _ H' _
    refine he c0 y H' (List.mem_of_getElem? hy) hh p1 H' (Ex.refl _) _ fun r H4 nr e4 hr => ?_
    have nrD : r ≠ D := fun z => by
      rw [z, p2] at nr
      cases nr
    refine ⟨_, e4 _ _ p2, ?_, as ++ [r], Ex.mut (p1.trans e4) hD, ?_, ?_, ?_, ?_, ?_⟩
    · rw [List.length_map, el]
      exact small1000 (by omega)
    · rw [upd_same, List.map_append]
      rfl
    · rw [take_snoc hy, List.map_append]
      refine paired_snoc (rows_but p3 fun b hb o g => ?_) ?_
      · rw [upd_ne (fun z => p6 (by rw [← z]; exact hb))]
        exact e4 _ _ g
      · rw [upd_ne nrD]
        exact hr
    · intro b hb
      rcases List.mem_append.mp hb with h | h
      · exact p4 b h
      · rw [show b = r by simpa using h]
        exact fresh_back p1 nr
    · refine List.nodup_append.mpr ⟨p5, by simp, fun b hb c hc z => ?_⟩
      have : c = r := by simpa using hc
      have hb' : r ∈ as := by rw [← this, ← z]; exact hb
      obtain ⟨x, _, hx'⟩ := paired_mem p3 hb'
      rw [nr] at hx'
      cases hx'
    · intro hb
      rcases List.mem_append.mp hb with h | h
      · exact p6 h
      · exact nrD (by simpa using h : D = r).symm
  · obtain ⟨as, p1, p2, p3, p4, p5, p6⟩ := p
    rw [List.length_map, Paired.length ht.2, List.take_length] at p3
    exact k D as H' hD p4 p5 p6 p1 ⟨p2, p3⟩
theorem cutV_ints (ns : List Int) (lo hi : Option Int) : ∃ zs : List Int, cutV (ns.map V.int) lo hi = zs.map V.int := by
  refine ⟨(ns.drop (HT.sIx (ns.map V.int).length 0 lo)).take (HT.sIx (ns.map V.int).length (ns.map V.int).length hi - HT.sIx (ns.map V.int).length 0 lo), ?_⟩
  unfold cutV
  rw [List.map_take, List.map_drop]
theorem bd30 {y : Int} (h : y.natAbs ≤ 10 ^ 30) : Bd 1000 y := by
  unfold Bd
  exact Nat.lt_of_le_of_lt h (by decide +kernel)

theorem el_rng2F {ta : TA} {tt : TT} {te : TE} {vs : List Nat} {j lo hi : Nat} {σ : L2.St} {H : Hp} (f : Nat → Bool) (v : Nat → V) (h : EvA ta σ H [.int (lo : Int), .int (hi : Int)]) (hlo : lo ≤ 1000) (hhi : hi ≤ 1000) (hw : ∀ x, wipe ((wipe σ vs).set j (some x)) vs = wipe σ vs)
    (ht : ∀ (i : Nat) H1, Ex H H1 → i < hi - lo → EvT tt ((wipe σ vs).set j (some (.int ((lo : Int) + (i : Int))))) H1 (f i))
    (he : ∀ (i : Nat) H1, Ex H H1 → i < hi - lo → f i = true → Ev te ((wipe σ vs).set j (some (.int ((lo : Int) + (i : Int))))) H1 (v i)) : EvL (tLc (iRng2 ta) (gName j) tt te vs) σ H (((List.range (hi - lo)).filter f).map v) := fun H0 e0 Q q => by
  refine h H0 e0 _ fun H1 e1 => ⟨(lo : Int), (hi : Int), rfl, by omega, fun D hD => ?_⟩
  have en : ((hi : Int) - (lo : Int)).toNat = hi - lo := by omega
  rw [en]
  refine lc_range (lo := (lo : Int)) (n := hi - lo) (fun i H' => Ex H1 H' ∧ H' D = some (.lst (((List.range i).filter f).map v))) ⟨Ex.new hD, upd_same⟩ (fun i H' hi' p => ?_) (fun H' p => q D H' (fresh_back e1 hD) (e1.trans p.1) p.2)
  obtain ⟨p1, p2⟩ := p
  refine ⟨hw _, ?_⟩
  have e01 := e0.trans e1
  have lf : ((List.range i).filter f).length ≤ i := by
    have := List.length_filter_le f (List.range i)
    rw [List.length_range] at this
    exact this
  refine ht i H' (e01.trans p1) hi' H' (Ex.refl _) _ fun H3 e3 => ?_
  cases hf : f i with
  | true =>
    refine iteT (he i H3 ((e01.trans p1).trans e3) hi' hf H3 (Ex.refl _) _ fun H4 e4 => ?_)
    refine ⟨_, (e3.trans e4) _ _ p2, small1000 (by rw [List.length_map]; omega), Ex.mut ((p1.trans e3).trans e4) hD, ?_⟩
    rw [upd_same, List.range_succ, List.filter_append, List.map_append]
    simp [hf]
  | false =>
    refine iteF ⟨p1.trans e3, ?_⟩
    rw [e3 _ _ p2, List.range_succ, List.filter_append]
    simp [hf]
theorem paired_range {α β : Type} {R : α → β → Prop} {f : Nat → α} {g : Nat → β} : ∀ {n : Nat}, (∀ j, j < n → R (f j) (g j)) → Paired R ((List.range n).map f) ((List.range n).map g)
  | 0, _ => .nil
  | n + 1, h => by
    rw [List.range_succ, List.map_append, List.map_append]
    exact paired_snoc (paired_range fun j hj => h j (by omega)) (h n (by omega))
theorem row_at {H : Hp} {p : Addr} {as : List Addr} {rows : List (List Int)} {m w : Nat} (h : TabOk H p as rows m w) {x : Nat} (hx : x < m) : atI (as.map V.ref) (x : Int) = some (.ref (as[x]?.getD 0)) ∧ H (as[x]?.getD 0) = some (.lst ((rows[x]?.getD []).map V.int)) := by
  obtain ⟨a, r, ha, hr, hh, _⟩ := h.row (i := (x : Int)) (by omega) (by omega)
  rw [Int.toNat_natCast] at hr
  have ha2 : as[x]? = some (as[x]?.getD 0) := by
    have := h.al
    rw [List.getElem?_eq_getElem (by omega)]
    rfl
  have ea : a = as[x]?.getD 0 := by
    have h1 : atI (as.map V.ref) (x : Int) = some (.ref (as[x]?.getD 0)) := atI_nat (j := x) (by rw [List.getElem?_map, ha2]; rfl)
    rw [ha] at h1
    cases h1
    rfl
  rw [hr, ← ea]
  exact ⟨ha, hh⟩
theorem cut_head {l : List Addr} {n : Nat} (h : n ≤ l.length) (h8 : l.length ≤ 8) : cutV (l.map V.ref) none (some (n : Int)) = (l.take n).map V.ref := by
  unfold cutV
  have e0 : HT.sIx (l.map V.ref).length 0 none = 0 := rfl
  have e1 : HT.sIx (l.map V.ref).length (l.map V.ref).length (some (n : Int)) = n := by
    rw [List.length_map]
    generalize l.length = m at h h8
    have hm : m = 0 ∨ m = 1 ∨ m = 2 ∨ m = 3 ∨ m = 4 ∨ m = 5 ∨ m = 6 ∨ m = 7 ∨ m = 8 := by omega
    have hn : n = 0 ∨ n = 1 ∨ n = 2 ∨ n = 3 ∨ n = 4 ∨ n = 5 ∨ n = 6 ∨ n = 7 ∨ n = 8 := by omega
    rcases hm with rfl | rfl | rfl | rfl | rfl | rfl | rfl | rfl | rfl <;> rcases hn with rfl | rfl | rfl | rfl | rfl | rfl | rfl | rfl | rfl <;> first | rfl | omega
  rw [e0, e1, List.drop_zero, Nat.sub_zero, List.map_take]
theorem paired_app {α β : Type} {R : α → β → Prop} : ∀ {xs : List α} {ys : List β} {xs2 : List α} {ys2 : List β}, Paired R xs ys → Paired R xs2 ys2 → Paired R (xs ++ xs2) (ys ++ ys2)
  | _, _, _, _, .nil, h => h
  | _, _, _, _, .cons a t, h => .cons a (paired_app t h)
theorem paired_take {α β : Type} {R : α → β → Prop} : ∀ {xs : List α} {ys : List β} (n : Nat), Paired R xs ys → Paired R (xs.take n) (ys.take n)
  | _, _, 0, _ => by rw [List.take_zero, List.take_zero]; exact .nil
  | _, _, n + 1, .nil => by rw [List.take_nil, List.take_nil]; exact .nil
  | _, _, n + 1, .cons a t => .cons a (paired_take n t)
theorem ec_cat {ta tb : TE} {σ : L2.St} {H : Hp} {xs ys : List V} (ha : EvL ta σ H xs) (hb : EvL tb σ H ys) (hz : xs.length + ys.length ≤ 100000) : EvL (tOp rCat ta tb) σ H (xs ++ ys) := fun H1 e Q q =>
  ha H1 e _ fun p H2 np e2 hp => hb H2 (e.trans e2) _ fun r H3 nr e3 hr => ⟨p, r, xs, ys, rfl, rfl, e3 _ _ hp, hr, sz_of hz, fun l nl => q l _ (fresh_back (e2.trans e3) nl) ((e2.trans e3).trans (Ex.new nl)) upd_same⟩
theorem ev_yes {σ : L2.St} {H : Hp} : EvT tYes σ H true := fun H1 e Q q => q H1 (Ex.refl _)
def sp_cleared (K : PySem.W.Frag) : Sp := fun vs H Q _ => ∃ (p : Addr) (as : List Addr) (rows : List (List Int)) (m w b : Nat), vs = [.ref p] ∧ TabOk H p as rows m w ∧ 0 < b ∧ (∀ r ∈ rows, ∀ y ∈ r, Bd b y) ∧ (b + 1) * 2 ^ (m - 2) ≤ 9000 ∧
  ∀ t H', H t = none → Ex H H' → H' t = some (.tup [.int ((Dt.clears rows w).steps : Nat), .int ((Dt.clears rows w).sign * (Dt.clears rows w).corner)]) → Q (.ref t) H'

theorem ok_cleared (T : Txt K mg) : FnOk P w K mg base CX0 2 T.f_cleared T.fd_cleared ["table"] (sp_cleared K) := by
  refine Fun.ok T.F_cleared sc_cleared (fun vs H Q E h => ?_) (fun cdv A outer s H vs Q E hr h => ?_)
  · obtain ⟨_, _, _, _, _, _, rfl, _⟩ := h; rfl
  · refine ⟨_, (pss_cons (ps_set (i := 1) sc_cleared.nd rfl (by first | exact Or.inl rfl | exact Or.inr rfl) (pv 0))
      (pss_cons (ps_asg2 pe_int (pg_name (i := 2) sc_cleared.nd rfl (by first | exact Or.inl rfl | exact Or.inr rfl)) (pg_name (i := 3) sc_cleared.nd rfl (by first | exact Or.inl rfl | exact Or.inr rfl)))
      (pss_cons (ps_set (i := 4) sc_cleared.nd rfl (by first | exact Or.inl rfl | exact Or.inr rfl) pe_int)
      (pss_cons (ps_for PassesOwn.never rfl (pi_range1 (by rfl) T.n_range (pa_cons (pe_callB (id := "len") (r := rLenS K) call_len_seq (by rfl) T.n_len PySem.boot_len (pa_cons (pe_ix (r := rIxL K) ix_list (pv 0) pe_int (fun _ _ => rfl)) pa_nil)) pa_nil)) (pg_name (i := 5) sc_cleared.nd rfl (by first | exact Or.inl rfl | exact Or.inr rfl))
        (pss_cut (ps_set (i := 6) sc_cleared.nd rfl (by first | exact Or.inl rfl | exact Or.inr rfl) (pe_lc (own := [("at", 9)]) (g := gName 9) (tt := _) rfl sc_cleared.nd (pi_range2 (by rfl) T.n_range (pa_cons (pv 4) (pa_cons (pe_callB (id := "len") (r := rLenS K) call_len_seq (by rfl) T.n_len PySem.boot_len (pa_cons (pv 1) pa_nil)) pa_nil))) (blkOk_by (N := ["table", "rows", "sign", "corner", "steps", "column", "found", "lead", "others", "at", "row"]) (sc := (defScope s_cleared)) (by decide +kernel)) (fun _ _ _ _ _ => pg_name (i := 9) sc_cleared.nd rfl (Or.inl rfl)) (fun _ _ _ _ _ => pts_one (pt_cmpR op_ne (pe_ix (r := rIxL K) ix_list (pe_ix (r := rIxL K) ix_list (pv 1) (pv 9) (fun _ _ => rfl)) (pv 5) (fun _ _ => rfl)) pe_int (nomark _))) (fun _ _ _ _ _ => (pv 9))))
          (pss_one (ps_if (pt_truth (pv 6) (by intro _; rfl))
            (pss_cut (ps_if (pt_cmpR op_ne (pe_ix (r := rIxL K) ix_list (pv 6) pe_int (fun _ _ => rfl)) (pv 4) (nomark _))
                (pss_one (ps_set (i := 2) sc_cleared.nd rfl (by first | exact Or.inl rfl | exact Or.inr rfl) (pe_un un_neg (pv 2))))
                pss_nil)
              (pss_cut (ps_set (i := 7) sc_cleared.nd rfl (by first | exact Or.inl rfl | exact Or.inr rfl) (pe_ix (r := rIxL K) ix_list (pv 1) (pe_ix (r := rIxL K) ix_list (pv 6) pe_int (fun _ _ => rfl)) (fun _ _ => rfl)))
              (pss_cut (ps_setLc (i := 8) (own := [("at", 9)]) (g := gName 9) (tt := tYes) rfl sc_cleared.nd rfl rfl (sw_true rfl rfl rfl (by decide +kernel)) (pi_range2 (by rfl) T.n_range (pa_cons (pe_op op_add (pv 4) pe_int) (pa_cons (pe_callB (id := "len") (r := rLenS K) call_len_seq (by rfl) T.n_len PySem.boot_len (pa_cons (pv 1) pa_nil)) pa_nil))) (blkOk_by (N := ["table", "rows", "sign", "corner", "steps", "column", "found", "lead", "others", "at", "row"]) (sc := (defScope s_cleared)) (by decide +kernel)) (fun _ _ _ _ _ => pg_name (i := 9) sc_cleared.nd rfl (Or.inl rfl)) (fun _ _ _ _ _ => pts_nil) (fun _ _ _ _ _ => (pe_ifExp (pt_cmpR op_eq (pv 9) (pe_ix (r := rIxL K) ix_list (pv 6) pe_int (fun _ _ => rfl)) (nomark _)) (pe_ix (r := rIxL K) ix_list (pv 1) (pv 4) (fun _ _ => rfl)) (pe_ix (r := rIxL K) ix_list (pv 1) (pv 9) (fun _ _ => rfl)))))
              (pss_cut (ps_set (i := 1) sc_cleared.nd rfl (by first | exact Or.inl rfl | exact Or.inr rfl) (pe_op op_cat (pe_op op_cat (pe_slice (r := rSlL K) sl_list (pv 1) po_none (po_some (pv 4))) (pe_lst (pa_cons (pv 7) pa_nil))) (pe_lc (own := [("row", 10)]) (wi := iList K _) (g := gName 10) (tt := tYes) rfl sc_cleared.nd (pi_list (pv 8)) (blkOk_by (N := ["table", "rows", "sign", "corner", "steps", "column", "found", "lead", "others", "at", "row"]) (sc := (defScope s_cleared)) (by decide +kernel)) (fun _ _ _ _ _ => pg_name (i := 10) sc_cleared.nd rfl (Or.inl rfl)) (fun _ _ _ _ _ => pts_nil) (fun _ _ _ _ _ => (pe_call (ok_cleared_row T) hr (by rfl) T.g_cleared_row T.k_cleared_row T.b_cleared_row .nil pass0 (pa_cons (pv 10) (pa_cons (pv 7) (pa_cons (pv 5) (pa_cons (pv 3) pa_nil)))))))))
              (pss_cut (ps_set (i := 3) sc_cleared.nd rfl (by first | exact Or.inl rfl | exact Or.inr rfl) (pe_ix (r := rIxL K) ix_list (pv 7) (pv 5) (fun _ _ => rfl)))
              (pss_one (ps_aug (i := 4) sc_cleared.nd rfl (by first | exact Or.inl rfl | exact Or.inr rfl) pe_int ip_add)))))))
            pss_nil))))
      (pss_one (ps_ret (pe_tup (pa_cons (pv 4) (pa_cons (pe_op op_mulW (pv 2) (pv 3)) pa_nil))))))))), ?_⟩
    obtain ⟨p, as, rows, m, w, b, rfl, hT, hb0, hb, hbits, k⟩ := h
    have hd := hT.b
    obtain ⟨a0, r0, _, _, hh0, hl0, at0⟩ := hT.row0
    have pc : ∀ kk, kk ≤ w → Dt.PC m w b kk (Dt.clears rows kk) := fun kk hk => Dt.pc_all hT.m_ hT.w_ hb hb0 kk hk
    refine ⟨_, rfl, ?_⟩
    refine q_forR1 (σ := [some (.ref p), some (.ref p), some (.int 1), some (.int 1), some (.int 0), none, none, none, none, none, none]) (H := H) (n := (w : Int)) (ea_cons (ev_is (ev_len (ev_op (ev_var (i := 0) rfl) ev_c (rv_ixL (SqL.of hT.tab.1) at0)) (SqL.of hh0)) (by rw [List.length_map, hl0])) ea_nil) (by omega) (fun kk σ H' => ∃ (rp : Addr) (as' : List Addr) (y5 y6 y7 y8 y9 y10 : Option V), σ = [some (.ref p), some (.ref rp), some (.int (Dt.clears rows kk).sign), some (.int (Dt.clears rows kk).corner), some (.int ((Dt.clears rows kk).steps : Nat)), y5, y6, y7, y8, y9, y10] ∧ Ex H H' ∧ Tab H' rp as' (Dt.clears rows kk).R) (fun H1 e1 => ⟨p, as, _, _, _, _, _, _, rfl, e1, hT.tab.ex e1⟩) (fun kk σ H2 hk hP => ?_) (fun σ H2 hP => ?_)
    · obtain ⟨rp, as', y5, y6, y7, y8, y9, y10, rfl, e2, hR⟩ := hP
      have hkw : kk < w := by omega
      have P := pc kk (by omega)
      have cl1 : Dt.clears rows (kk + 1) = Dt.cstep (Dt.clears rows kk) kk := rfl
      have okR : TabOk H2 rp as' (Dt.clears rows kk).R m w := ⟨hR, P.len, P.wid, hd⟩
      rw [cl1]
      generalize Dt.clears rows kk = c at P okR hR ⊢
      have hst := P.sm_
      have hlen := P.len
      refine ⟨fun σ' H' => ∃ fp, σ' = [some (.ref p), some (.ref rp), some (.int c.sign), some (.int c.corner), some (.int (c.steps : Nat)), some (.int (kk : Int)), some (.ref fp), y7, y8, y9, y10] ∧ Ex H2 H' ∧ H' fp = some (.lst ((Dt.found c kk).map fun i => V.int ((c.steps + i : Nat) : Int))), ?_, ?_⟩
      · refine s_asgL (el_rng2F (lo := c.steps) (hi := c.R.length) (fun i => Dt.at_ c.R (c.steps + i) kk != 0) (fun i => V.int ((c.steps + i : Nat) : Int)) (ea_cons (ev_var rfl) (ea_cons (ev_is (ev_len (ev_var rfl) (SqL.of hR.1)) (by rw [List.length_map, Paired.length hR.2])) ea_nil)) (by omega) (by omega) (fun x => rfl) (fun i H3 e3 hi => ?_) (fun i H3 e3 hi hf => ev_is (ev_var rfl) (by rw [Int.natCast_add]))) (fun fp H3 nf e3 hf => ⟨fp, rfl, e3, hf⟩)
        obtain ⟨ra, r, hra, hr, hh, hlr⟩ := (okR.ex e3).row (i := (c.steps : Int) + (i : Int)) (by omega) (by omega)
        refine et_is (et_test (ev_op (ev_op (ev_op (ev_var rfl) (ev_var rfl) (rv_ixL (SqL.of (okR.ex e3).tab.1) hra)) (ev_var rfl) (rv_ixL (SqL.of hh) (atI_row (by omega)))) ev_c (rv_ne rfl))) ?_
        have ei : ((c.steps : Int) + (i : Int)).toNat = c.steps + i := by omega
        rw [ei] at hr
        have ea : Dt.at_ c.R (c.steps + i) kk = r[kk]?.getD 0 := by
          unfold Dt.at_
          rw [hr]
          rfl
        rw [ea]
        by_cases z : r[kk]?.getD 0 = 0
        · rw [z]
          rfl
        · rw [decide_eq_false (fun g => z (V.int.inj g))]
          exact (bne_iff_ne.mpr z).symm
      rintro σ' H3 ⟨fp, rfl, e3, hf⟩
      have hR3 := hR.ex e3
      refine ⟨_, rfl, !((Dt.found c kk).map fun i => V.int ((c.steps + i : Nat) : Int)).isEmpty, .inl ⟨_, SqL.of hf, rfl⟩, ?_⟩
      cases hfd : Dt.found c kk with
      | nil =>
        have ec : Dt.cstep c kk = c := by unfold Dt.cstep; rw [hfd]
        rw [ec]
        exact iteF ⟨rp, as', _, _, _, _, _, _, rfl, e2.trans e3, hR3⟩
      | cons i r =>
        obtain ⟨hi, hne⟩ := Dt.found_mem hfd
        have ec : Dt.cstep c kk = ⟨Dt.stepR c.R c.steps (c.steps + i) kk c.corner, if i = 0 then c.sign else -c.sign, Dt.at_ c.R (c.steps + i) kk, c.steps + 1⟩ := by unfold Dt.cstep; rw [hfd]
        rw [ec]
        rw [hfd] at hf
        refine iteT ?_
        have f0 : atI ((i :: r).map fun i => V.int ((c.steps + i : Nat) : Int)) 0 = some (.int ((c.steps + i : Nat) : Int)) := atI_nat (j := 0) rfl
        have cond : EvT (tTest (tOp rNe (tOp (rIxL K) (tVar 6) (tC (.int 0))) (tVar 4))) [some (.ref p), some (.ref rp), some (.int c.sign), some (.int c.corner), some (.int (c.steps : Nat)), some (.int (kk : Int)), some (.ref fp), y7, y8, y9, y10] H3 (!decide (V.int ((c.steps + i : Nat) : Int) = V.int ((c.steps : Nat) : Int))) := et_test (ev_op (ev_op (ev_var rfl) ev_c (rv_ixL (SqL.of hf) f0)) (ev_var rfl) (rv_ne rfl))
        refine ⟨fun σ' H' => σ' = [some (.ref p), some (.ref rp), some (.int (if i = 0 then c.sign else -c.sign)), some (.int c.corner), some (.int (c.steps : Nat)), some (.int (kk : Int)), some (.ref fp), y7, y8, y9, y10] ∧ Ex H3 H', ?_, ?_⟩
        · by_cases z : i = 0
          · refine s_when (b := false) (et_is cond (by rw [decide_eq_true (by rw [z]; rfl)]; rfl)) (fun z => nomatch z) (fun _ H4 e4 => ⟨by rw [if_pos z], e4⟩)
          · refine s_when (b := true) (et_is cond (by rw [decide_eq_false (fun g => z (by have := V.int.inj g; omega))]; rfl)) (fun _ H4 e4 => s_asg (v := .int (-c.sign)) (ev_un (ev_var rfl) ru_neg) fun H5 e5 => ⟨by rw [if_neg z]; rfl, e4.trans e5⟩) (fun z => nomatch z)
        rintro σ' H4 ⟨rfl, e4⟩
        have e24 := e3.trans e4
        have ok4 := okR.ex e24
        obtain ⟨hla, hlh⟩ := row_at ok4 (x := c.steps + i) (by omega)
        have lw := P.row (i := c.steps + i) (by omega)
        generalize as'[c.steps + i]?.getD 0 = la at hla hlh
        refine ⟨fun σ' H' => σ' = [some (.ref p), some (.ref rp), some (.int (if i = 0 then c.sign else -c.sign)), some (.int c.corner), some (.int (c.steps : Nat)), some (.int (kk : Int)), some (.ref fp), some (.ref la), y8, y9, y10] ∧ Ex H4 H', s_asg (v := .ref la) (ev_op (ev_var rfl) (ev_op (ev_var rfl) ev_c (rv_ixL (SqL.of (e4 _ _ hf)) f0)) (rv_ixL (SqL.of ok4.tab.1) hla)) (fun H5 e5 => ⟨rfl, e5⟩), ?_⟩
        rintro σ' H5 ⟨rfl, e5⟩
        have ok5 := ok4.ex e5
        have hf5 := (e4.trans e5) _ _ hf
        have hl5 := e5 _ _ hlh
        have al := ok5.al
        refine ⟨fun σ' H' => ∃ (op : Addr) (os : List Addr), σ' = [some (.ref p), some (.ref rp), some (.int (if i = 0 then c.sign else -c.sign)), some (.int c.corner), some (.int (c.steps : Nat)), some (.int (kk : Int)), some (.ref fp), some (.ref la), some (.ref op), y9, y10] ∧ Ex H5 H' ∧ H' op = some (.lst (os.map V.ref)) ∧ RowsAt H' os (Dt.others c.R c.steps (c.steps + i)), ?_, ?_⟩
        · refine s_asgL (el_rng2F (lo := c.steps + 1) (hi := c.R.length) (fun _ => true) (fun j => V.ref (if c.steps + 1 + j = c.steps + i then as'[c.steps]?.getD 0 else as'[c.steps + 1 + j]?.getD 0)) (ea_cons (ev_is (ev_op (ev_var rfl) ev_c rv_I0) rfl) (ea_cons (ev_is (ev_len (ev_var rfl) (SqL.of ok5.tab.1)) (by rw [List.length_map, al, hlen])) ea_nil)) (by omega) (by omega) (fun x => rfl) (fun j H6 e6 hj => ev_yes) (fun j H6 e6 hj _ => ?_)) (fun op H6 nop e6 hop => ?_)
          · have ok6 := ok5.ex e6
            have r1 := row_at ok6 (x := c.steps) (by omega)
            have r2 := row_at ok6 (x := c.steps + 1 + j) (by omega)
            have ej : (((c.steps + 1 : Nat) : Int) + (j : Int)) = ((c.steps + 1 + j : Nat) : Int) := by omega
            rw [ej]
            refine ev_if (b := decide (V.int ((c.steps + 1 + j : Nat) : Int) = V.int ((c.steps + i : Nat) : Int))) (et_test (ev_op (ev_var rfl) (ev_op (ev_var rfl) ev_c (rv_ixL (SqL.of (e6 _ _ hf5)) f0)) (rv_eq rfl))) (fun g => ?_) (fun g => ?_)
            · have := V.int.inj (of_decide_eq_true g)
              rw [show (if c.steps + 1 + j = c.steps + i then as'[c.steps]?.getD 0 else as'[c.steps + 1 + j]?.getD 0) = as'[c.steps]?.getD 0 from if_pos (by omega)]
              exact ev_op (ev_var rfl) (ev_var rfl) (rv_ixL (SqL.of ok6.tab.1) r1.1)
            · have hz : ¬ (c.steps + 1 + j = c.steps + i) := fun z => of_decide_eq_false g (by rw [z])
              rw [show (if c.steps + 1 + j = c.steps + i then as'[c.steps]?.getD 0 else as'[c.steps + 1 + j]?.getD 0) = as'[c.steps + 1 + j]?.getD 0 from if_neg hz]
              exact ev_op (ev_var rfl) (ev_var rfl) (rv_ixL (SqL.of ok6.tab.1) r2.1)
          · refine ⟨op, (List.range (c.R.length - (c.steps + 1))).map (fun j => if c.steps + 1 + j = c.steps + i then as'[c.steps]?.getD 0 else as'[c.steps + 1 + j]?.getD 0), rfl, e6, ?_, paired_range fun j hj => ?_⟩
            · rw [hop, List.filter_eq_self.mpr (fun _ _ => rfl), List.map_map]
              rfl
            · have ok6 := ok5.ex e6
              by_cases g : c.steps + 1 + j = c.steps + i
              · rw [if_pos g, if_pos g]
                exact (row_at ok6 (x := c.steps) (by omega)).2
              · rw [if_neg g, if_neg g]
                exact (row_at ok6 (x := c.steps + 1 + j) (by omega)).2
        rintro σ' H6 ⟨op, os, rfl, e6, hop, hos⟩
        have ok6 := ok5.ex e6
        have hl6 := e6 _ _ hl5
        have ol : os.length = m - (c.steps + 1) := by
          rw [Paired.length hos]
          unfold Dt.others
          rw [List.length_map, List.length_range, hlen]
        refine ⟨fun σ' H' => ∃ (np : Addr) (ns : List Addr), σ' = [some (.ref p), some (.ref np), some (.int (if i = 0 then c.sign else -c.sign)), some (.int c.corner), some (.int (c.steps : Nat)), some (.int (kk : Int)), some (.ref fp), some (.ref la), some (.ref op), y9, y10] ∧ Ex H6 H' ∧ Tab H' np ns (Dt.stepR c.R c.steps (c.steps + i) kk c.corner), ?_, ?_⟩
        · refine ec_cat (σ := [some (.ref p), some (.ref rp), some (.int (if i = 0 then c.sign else -c.sign)), some (.int c.corner), some (.int (c.steps : Nat)), some (.int (kk : Int)), some (.ref fp), some (.ref la), some (.ref op), y9, y10]) (el_sl (K := K) (lo := none) (hi := some (c.steps : Int)) (ev_var (i := 1) rfl) eo_none (eo_some (ev_var (i := 4) rfl)) (SqL.of ok6.tab.1)) (el_lst (vs := [.ref la]) (ea_cons (ev_var (i := 7) rfl) ea_nil) (Nat.le_of_ble_eq_true rfl)) (by have := cutV_length (as'.map V.ref) none (some (c.steps : Int)); rw [List.length_map] at this; show _ + 1 ≤ 100000; omega) H6 (Ex.refl _) _ fun l1 H7 n1 e7 g1 => ?_
          rw [cut_head (by omega) (by omega)] at g1
          refine lc_rowsT (K := K) (rows := Dt.others c.R c.steps (c.steps + i)) (F := fun row => Dt.crow row (c.R[c.steps + i]?.getD []) kk c.corner) rfl ⟨e7 _ _ hop, hos.ex e7⟩ (by rw [← Paired.length hos]; omega) (fun x => rfl) (fun ca r' H8 hr' hca e8 => ?_) (fun q cs H8 nq ncs nd nqcs e8 ht => ?_)
          · have rm := Dt.others_mem (by omega) hr'
            have lr := P.wid r' rm
            have bits : (b + 1) * 2 ^ c.steps - 1 ≤ 9000 := by
              have hs2 : c.steps ≤ m - 2 := by
                have : 0 < (Dt.others c.R c.steps (c.steps + i)).length := List.length_pos_of_mem hr'
                rw [← Paired.length hos, ol] at this
                omega
              have := Nat.mul_le_mul_left (b + 1) (Nat.pow_le_pow_right (show 0 < 2 by decide) hs2)
              omega
            have b0 : 0 < (b + 1) * 2 ^ c.steps - 1 := by
              have := Nat.mul_le_mul_left (b + 1) (Nat.one_le_two_pow (n := c.steps))
              omega
            refine el_call (xs := (Dt.crow r' (c.R[c.steps + i]?.getD []) kk c.corner).map V.int) (ea_cons (ev_var rfl) (ea_cons (ev_var rfl) (ea_cons (ev_var rfl) (ea_cons (ev_var rfl) ea_nil)))) ?_
            intro H9 e9 Q9 q9 E9
            have b36 : (b + 1) * 2 ^ c.steps - 1 ≤ 400000 := by omega
            exact ⟨ca, la, r', c.R[c.steps + i]?.getD [], (kk : Int), c.corner, (b + 1) * 2 ^ c.steps - 1, rfl, e9 _ _ (e8 _ _ hca), (e7.trans (e8.trans e9)) _ _ hl6, by rw [lr, lw.2], by omega, by omega, by omega, P.cn, Dt.bdz_mono P.cb bits, b0, b36, P.eb r' rm, P.eb _ lw.1, fun q H10 nq e10 hq => q9 q H10 nq e10 hq⟩
          · refine ⟨l1, q, (as'.take c.steps).map V.ref ++ [.ref la], cs.map V.ref, rfl, rfl, e8 _ _ g1, ht.1, sz_of ?_, fun l nl => ?_⟩
            · have h1 := Paired.length ht.2
              rw [List.length_map, ← Paired.length hos] at h1
              rw [List.length_append, List.length_map, List.length_take, List.length_map, List.length_singleton]
              omega
            · refine ⟨l, as'.take c.steps ++ [la] ++ cs, rfl, (e7.trans e8).trans (Ex.new nl), ?_, ?_⟩
              · rw [upd_same, List.map_append, List.map_append]
                rfl
              · unfold Dt.stepR
                have xl := Ex.new (o := .lst ((as'.take c.steps).map V.ref ++ [.ref la] ++ cs.map V.ref)) nl
                refine paired_app (paired_app (paired_take c.steps (ok6.tab.2.ex ((e7.trans e8).trans xl))) (.cons (((e7.trans e8).trans xl) _ _ hl6) .nil)) (ht.2.ex xl)
        rintro σ' H7 ⟨np, ns, rfl, e7, hN⟩
        have hl7 := e7 _ _ hl6
        refine ⟨fun σ' H' => σ' = [some (.ref p), some (.ref np), some (.int (if i = 0 then c.sign else -c.sign)), some (.int (Dt.at_ c.R (c.steps + i) kk)), some (.int (c.steps : Nat)), some (.int (kk : Int)), some (.ref fp), some (.ref la), some (.ref op), y9, y10] ∧ Ex H7 H', s_asg (v := .int (Dt.at_ c.R (c.steps + i) kk)) (ev_op (ev_var rfl) (ev_var rfl) (rv_ixL (SqL.of hl7) (atI_row (by rw [lw.2]; exact hkw)))) (fun H8 e8 => ⟨rfl, e8⟩), ?_⟩
        rintro σ' H8 ⟨rfl, e8⟩
        exact s_aug (a := (c.steps : Int)) (b := 1) rfl ev_c fun H9 e9 => ⟨np, ns, _, _, _, _, _, _, rfl, ((((((e2.trans e3).trans e4).trans e5).trans e6).trans e7).trans e8).trans e9, hN.ex (e8.trans e9)⟩
    · obtain ⟨rp, as', y5, y6, y7, y8, y9, y10, rfl, e2, hR⟩ := hP
      rw [Int.toNat_natCast]
      have P := pc w (Nat.le_refl _)
      refine s_retU (eu_tup (ea_cons (ev_var rfl) (ea_cons (ev_op (ev_var rfl) (ev_var rfl) (rv_I ?_)) ea_nil)) (Nat.le_of_ble_eq_true rfl)) fun t H3 nt e3 ht => k t H3 (fresh_back e2 nt) (e2.trans e3) ht
      have bits : (b + 1) * 2 ^ (Dt.clears rows w).steps - 1 ≤ 40000 := by
        have h1 := Nat.mul_le_mul_left (b + 1) (Nat.pow_le_pow_right (show 0 < 2 by decide) (show (Dt.clears rows w).steps ≤ (m - 2) + 2 by have := P.sm_; omega))
        rw [Nat.pow_add, ← Nat.mul_assoc] at h1
        omega
      have bs : Bd 2 (Dt.clears rows w).sign := by
        rcases P.sn with z | z <;> rw [z] <;> unfold Bd <;> decide
      exact bs.mulOk (Dt.bdz_mono P.cb bits : Bd 40000 _)
-- DEF _law_one

def sp__law_one (K : PySem.W.Frag) : Sp := fun vs H Q _ => ∃ (s l : Addr) (n : Int) (xs : List V), vs = [.ref s, .ref l] ∧ SrcAt H s n ∧ n ≤ 500000000 ∧ l ≠ s ∧ SqL K H l xs ∧ 0 < xs.length ∧ xs.length ≤ 1000 ∧
  ∀ v ∈ xs, ∀ H', ExB s H H' → SrcAt H' s (n + 1) → Q v H'

theorem ok__law_one (T : Txt K mg) : FnOk P w K mg base CX0 2 T.f__law_one T.fd__law_one ["_law_source", "_law_some"] (sp__law_one K) := by
  refine Fun.ok T.F__law_one sc__law_one (fun vs H Q E h => ?_) (fun cdv A outer s H vs Q E hr h => ?_)
  · obtain ⟨_, _, _, _, rfl, _⟩ := h; rfl
  · refine ⟨_, (pss_one (ps_ret (pe_ix (r := rIxL K) ix_list (pv 1) (pe_call (ok__law_next T) hr (by rfl) T.g__law_next T.k__law_next T.b__law_next .nil pass0 (pa_cons (pv 0) (pa_cons (pe_callB (id := "len") (r := rLenS K) call_len_seq (by rfl) T.n_len PySem.boot_len (pa_cons (pv 1) pa_nil)) pa_nil))) (fun _ _ => rfl)))), ?_⟩
    obtain ⟨s, l, n, xs, rfl, hs, hn, nls, hl, h0, h1, k⟩ := h
    refine ⟨_, rfl, _, rfl, _, rfl, l, xs, rfl, .inl hl, s, _, n, rfl, hs, by omega, by omega, (by show xs.length < 2 ^ 8000; exact Nat.lt_of_le_of_lt h1 (by decide +kernel)), fun f H' f0 f1 e s' => ?_⟩
    have hk : f.toNat < xs.length := by omega
    refine ⟨l, xs, f, xs[f.toNat], rfl, rfl, e.l nls hl, at_of (j := f.toNat) (by omega) (List.getElem?_eq_getElem hk), ?_⟩
    exact k _ (List.getElem_mem hk) H' e s'
-- DEF _law_mixed

def sp__law_mixed (K : PySem.W.Frag) : Sp := fun vs H Q _ => ∃ (s l : Addr) (n : Int) (xs : List V), vs = [.ref s, .ref l] ∧ SrcAt H s n ∧ n ≤ 500000000 ∧ l ≠ s ∧ SqL K H l xs ∧ xs.length ≤ 100 ∧ (∀ v ∈ xs, DatV K H s v) ∧
  ∀ (ys : List V) (p : Addr) (H' : Hp), ys.Perm xs → H p = none → ExB s H H' → SrcAt H' s (n + 100) → H' p = some (.lst ys) → Q (.ref p) H'

theorem ok__law_mixed (T : Txt K mg) : FnOk P w K mg base CX0 2 T.f__law_mixed T.fd__law_mixed ["_law_source", "_law_some"] (sp__law_mixed K) := by
  refine Fun.ok T.F__law_mixed sc__law_mixed (fun vs H Q E h => ?_) (fun cdv A outer s H vs Q E hr h => ?_)
  · obtain ⟨_, _, _, _, rfl, _⟩ := h; rfl
  · refine ⟨_, (pss_cons (ps_set (i := 2) sc__law_mixed.nd rfl (by first | exact Or.inl rfl | exact Or.inr rfl) (pe_callTy (T := "list") (r := rListS K) call_list_of (by rfl) T.n_list (by decide +kernel) (pa_cons (pv 1) pa_nil)))
      (pss_cons (ps_set (i := 3) sc__law_mixed.nd rfl (by first | exact Or.inl rfl | exact Or.inr rfl) (pe_lst pa_nil))
      (pss_cons (ps_while PassesOwn.never (pt_cmpR (r := rNeD K) (op_neD hr.units) (pv 2) (pe_lst pa_nil) (nomark _))
        (pss_one (ps_expr (pe_bm PySem.F.plainAttrs_list PySem.F.slot_list_append PySem.F.type_list_append mt_append (pv 3) (pa_cons (pe_bm PySem.F.plainAttrs_list PySem.F.slot_list_pop PySem.F.type_list_pop mt_popAt (pv 2) (pa_cons (pe_call (ok__law_next T) hr (by rfl) T.g__law_next T.k__law_next T.b__law_next .nil pass0 (pa_cons (pv 0) (pa_cons (pe_callB (id := "len") (r := rLenS K) call_len_seq (by rfl) T.n_len PySem.boot_len (pa_cons (pv 2) pa_nil)) pa_nil))) pa_nil)) pa_nil)))))
      (pss_one (ps_ret (pv 3)))))), ?_⟩
    obtain ⟨s, l, n, xs, rfl, hs, hn, nls, hl, h1, hd, k⟩ := h
    -- left, found
    refine ⟨_, rfl, l, xs, rfl, .inl hl, fun q nq => ?_⟩
    refine ⟨Nat.zero_le _, fun p np => ?_⟩
    have nqs : q ≠ s := hs.ne nq
    have nps : p ≠ s := (hs.ex (Ex.new nq)).ne np
    have npq : p ≠ q := (ne_of_none upd_same np).symm
    have npH : H p = none := fresh_back (Ex.new nq) np
    refine ⟨fun m σ H' => ∃ ls fs : List V, σ = [some (.ref s), some (.ref l), some (.ref q), some (.ref p)] ∧ m = ls.length ∧ (fs ++ ls).Perm xs ∧ H' q = some (.lst ls) ∧ H' p = some (.lst fs) ∧ ExB s H H' ∧ SrcAt H' s (n + fs.length),
      ⟨xs.length, xs, [], rfl, rfl, .refl _, ?_, upd_same, ?_, ?_⟩, ?_⟩
    · rw [upd_ne npq.symm]
      exact upd_same
    · exact ExB.of ((Ex.new nq).trans (Ex.new np))
    · exact (hs.ex ((Ex.new nq).trans (Ex.new np))).le (by simp)
    rintro m σ H1 ⟨ls, fs, rfl, rfl, hp, hq, hpf, e1, s1⟩
    have hlen : fs.length + ls.length = xs.length := by
      rw [← List.length_append]
      exact hp.length_eq
    obtain ⟨ds, d1, d2, d3⟩ := dat_all (K := K) (H := H1) (s := s) (xs := ls) fun v hv => (hd v (hp.mem_iff.mp (List.mem_append_right _ hv))).exB e1
    refine ⟨_, rfl, Nat.zero_le _, fun z nz => ?_⟩
    have x1 : Ex H1 (upd H1 z (.lst [])) := Ex.new nz
    refine ⟨_, _, .lst (SqL.of (x1 _ _ hq)) (dpAll_ex x1 d1), .lst (SqL.of upd_same) .nil, shaped_list d2 (by omega), rfl, _, rfl, ?_⟩
    rw [eqv_nil]
    cases ls with
    | nil =>
      cases d1
      refine iteF ?_
      refine ⟨_, rfl, ?_⟩
      rw [List.append_nil] at hp
      exact k fs p _ hp npH (e1.trans (ExB.of x1)) ((s1.ex x1).le (by have := hp.length_eq; omega)) (x1 _ _ hpf)
    | cons y0 ls0 =>
      cases d1 with
      | cons _ _ =>
        refine iteT ?_
        refine ⟨fun σ' H' => ∃ ls' fs' : List V, σ' = [some (.ref s), some (.ref l), some (.ref q), some (.ref p)] ∧ ls'.length < (y0 :: ls0).length ∧ (fs' ++ ls').Perm xs ∧ H' q = some (.lst ls') ∧ H' p = some (.lst fs') ∧ ExB s H H' ∧ SrcAt H' s (n + fs'.length),
          fun σ' H' ⟨ls', fs', a1, a2, a3, a4, a5, a6, a7⟩ => ⟨ls'.length, a2, ls', fs', a1, rfl, a3, a4, a5, a6, a7⟩, ?_⟩
        refine ⟨_, rfl, .inl ⟨rfl, _, SqL.of (x1 _ _ hpf)⟩, _, rfl, .inl ⟨rfl, _, SqL.of (x1 _ _ hq)⟩, _, rfl, _, rfl, q, _, rfl, .inl (SqL.of (x1 _ _ hq)), s, _, n + fs.length, rfl, s1.ex x1, by omega, (by simp only [List.length_cons]; omega), ?_, fun f H2 f0 f1 e2 s2 => ?_⟩
        · show (((y0 :: ls0).length : Nat) : Int).natAbs < 2 ^ 8000
          rw [Int.natAbs_natCast]
          exact Nat.lt_of_le_of_lt (show (y0 :: ls0).length ≤ 100 by omega) (by decide +kernel)
        · have hk : f.toNat < (y0 :: ls0).length := by omega
          have hy := List.getElem?_eq_getElem hk
          refine ⟨q, _, f, f.toNat, _, rfl, rfl, e2 _ _ nqs (x1 _ _ hq), by omega, by omega, seqIx (n := 0) f0 f1, hy, ?_⟩
          refine ⟨p, fs, _, rfl, rfl, ?_, small1000 (by omega), ?_⟩
          · rw [upd_ne npq]
            exact e2 _ _ nps (x1 _ _ hpf)
          · refine ⟨_, _, rfl, ?_, (perm_pop hy).trans hp, ?_, upd_same, ?_, ?_⟩
            · rw [List.length_eraseIdx_of_lt hk]
              omega
            · rw [upd_ne npq.symm]
              exact upd_same
            · refine fun b o nb h => ?_
              have nbp := ne_of_none h npH
              have nbq := ne_of_none h nq
              rw [upd_ne nbp, upd_ne nbq]
              exact e2 _ _ nb (x1 _ _ (e1 _ _ nb h))
            · have s3 : SrcAt H2 s (n + ((fs ++ [(y0 :: ls0)[f.toNat]]).length : Nat)) := s2.le (by rw [List.length_append]; simp; omega)
              obtain ⟨a1, a2, a3, a4, a5⟩ := s3
              exact ⟨a1, a2, a3, by rw [upd_ne nps.symm, upd_ne nqs.symm]; exact a4, a5⟩
-- DEF is_table

def sp_is_table (K : PySem.W.Frag) : Sp := fun vs H Q _ => ∃ (p : Addr) (as : List Addr) (rows : List (List Int)) (m w : Nat), vs = [.ref p] ∧ TabOk H p as rows m w ∧ ∀ H', Ex H H' → Q (.bl true) H'

theorem ok_is_table (T : Txt K mg) : FnOk P w K mg base CX0 3 T.f_is_table T.fd_is_table ["thing"] (sp_is_table K) := by
  refine Fun.ok T.F_is_table sc_is_table (fun vs H Q E h => ?_) (fun cdv A outer s H vs Q E hr h => ?_)
  · obtain ⟨_, _, _, _, _, rfl, _⟩ := h; rfl
  · refine ⟨_, (pss_cons (ps_if (PW.pt (pw_or (pt_not (pt_val (pe_callB (id := "isinstance") (r := rIsi K) call_isi (by rfl) T.n_isinstance (by decide +kernel) (pa_cons (pv 0) (pa_cons (pe_bltn (v := .ty "list") (by rfl) T.n_list (by decide +kernel) rfl) pa_nil))))) (pw_or1 (pt_not (pt_chain op_le op_le pe_int (pe_callB (id := "len") (r := rLenS K) call_len_seq (by rfl) T.n_len PySem.boot_len (pa_cons (pv 0) pa_nil)) (pe_glob (v := .int 8) (by rfl) T.g_MOST ⟨_, rfl⟩))))))
        (pss_one (ps_ret pe_bl))
        pss_nil)
      (pss_cons (ps_if (pt_not (pt_val (pe_callB (id := "all") (r := rAll K) (cr_all rfl) (by rfl) T.n_all (by decide +kernel) (pa_cons (pe_lc (own := [("row", 1)]) (wi := iList K _) (g := gName 1) (tt := tYes) rfl sc_is_table.nd (pi_list (pv 0)) (blkOk_by (N := ["thing", "row"]) (sc := (defScope s_is_table)) (by decide +kernel)) (fun _ _ _ _ _ => pg_name (i := 1) sc_is_table.nd rfl (Or.inl rfl)) (fun _ _ _ _ _ => pts_nil) (fun _ _ _ _ _ => (pe_call (ok_is_row T) hr (by rfl) T.g_is_row T.k_is_row T.b_is_row .nil pass0 (pa_cons (pv 1) pa_nil)))) pa_nil))))
        (pss_one (ps_ret pe_bl))
        pss_nil)
      (pss_one (ps_ret (pe_callB (id := "all") (r := rAll K) (cr_all rfl) (by rfl) T.n_all (by decide +kernel) (pa_cons (pe_lc (own := [("row", 1)]) (wi := iList K _) (g := gName 1) (tt := tYes) rfl sc_is_table.nd (pi_list (pv 0)) (blkOk_by (N := ["thing", "row"]) (sc := (defScope s_is_table)) (by decide +kernel)) (fun _ _ _ _ _ => pg_name (i := 1) sc_is_table.nd rfl (Or.inl rfl)) (fun _ _ _ _ _ => pts_nil) (fun _ _ _ _ _ => (pe_cmpR op_eq (pe_callB (id := "len") (r := rLenS K) call_len_seq (by rfl) T.n_len PySem.boot_len (pa_cons (pv 1) pa_nil)) (pe_callB (id := "len") (r := rLenS K) call_len_seq (by rfl) T.n_len PySem.boot_len (pa_cons (pe_ix (r := rIxL K) ix_list (pv 0) pe_int (fun _ _ => rfl)) pa_nil)) (nomark _)))) pa_nil)))))), ?_⟩
    obtain ⟨p, as, rows, m, w, rfl, hT, k⟩ := h
    have hb := hT.b
    refine q_when (b := false) (et_is (et_or (et_not (et_B (ev_isi (t := "list") (b := true) (ev_var rfl) ev_c (fun H1 e => .base (.lst (e _ _ hT.tab.1))) (by decide +kernel)))) (fun _ => et_not (et_test (ev_chain ev_c (ev_is (ev_len (ev_var rfl) (SqL.of hT.tab.1)) (by rw [List.length_map, hT.al])) ev_c rv_le rv_le)))) ?_) (fun z => nomatch z) (fun _ H1 e1 => ?_)
    · rw [decide_eq_true (show (1 : Int) ≤ (m : Int) by omega), decide_eq_true (show (m : Int) ≤ 8 by omega)]
      rfl
    have hT1 := hT.ex e1
    refine q_when (b := false) (et_not (et_B (ev_all (el_yes (a := p) rfl hT1.tab.1 (by rw [List.length_map, hT.al]; omega) (fun x H' hx e => ?_) (fun x => rfl))))) (fun z => nomatch z) (fun _ H2 e2 => ?_)
    · obtain ⟨a, ha, rfl⟩ := List.mem_map.mp hx
      obtain ⟨r, hr, hh⟩ := paired_mem hT1.tab.2 ha
      have := hT1.w_ r hr
      exact ev_fn (ea_cons (ev_var rfl) ea_nil) fun H3 e3 Q3 q3 => ⟨a, r, rfl, (e.trans e3) _ _ hh, by omega, by omega, q3⟩
    have hT2 := hT1.ex e2
    refine s_ret (ev_all (el_yes (a := p) rfl hT2.tab.1 (by rw [List.length_map, hT.al]; omega) (fun x H' hx e => ?_) (fun x => rfl))) fun H3 e3 => k H3 ((e1.trans e2).trans e3)
    obtain ⟨a, ha, rfl⟩ := List.mem_map.mp hx
    obtain ⟨r, hr, hh⟩ := paired_mem hT2.tab.2 ha
    obtain ⟨a0, r0, _, _, hh0, hl0, at0⟩ := hT2.row0
    have := hT2.w_ r hr
    refine ev_is (ev_op (ev_len (ev_var rfl) (SqL.of (e _ _ hh))) (ev_len (ev_op (ev_var rfl) ev_c (rv_ixL (SqL.of (e _ _ hT2.tab.1)) at0)) (SqL.of (e _ _ hh0))) (rv_eq rfl)) ?_
    rw [List.length_map, List.length_map, hl0, this]
    exact congrArg V.bl (decide_eq_true rfl)
-- DEF square_value
def sp_square_value (K : PySem.W.Frag) : Sp := fun vs H Q _ => ∃ (p : Addr) (as : List Addr) (rows : List (List Int)) (n b : Nat), vs = [.ref p] ∧ TabOk H p as rows n n ∧ 0 < b ∧ (∀ r ∈ rows, ∀ y ∈ r, Bd b y) ∧ (b + 1) * 2 ^ (n - 2) ≤ 9000 ∧
  ∀ (d : Int) H', ((d : Int) : Rat) = Dt.det n (Dt.mx rows) → Bd 40002 d → Ex H H' → Q (.int d) H'

theorem ok_square_value (T : Txt K mg) : FnOk P w K mg base CX0 3 T.f_square_value T.fd_square_value ["square"] (sp_square_value K) := by
  refine Fun.ok T.F_square_value sc_square_value (fun vs H Q E h => ?_) (fun cdv A outer s H vs Q E hr h => ?_)
  · obtain ⟨_, _, _, _, _, rfl, _⟩ := h; rfl
  · refine ⟨_, (pss_cons (ps_asg (pe_call (ok_cleared T) hr (by rfl) T.g_cleared T.k_cleared T.b_cleared .nil pass0 (pa_cons (pv 0) pa_nil)) (pg_tup rfl (pgs_cons (pg_name (i := 1) sc_square_value.nd rfl (by first | exact Or.inl rfl | exact Or.inr rfl)) (pgs_cons (pg_name (i := 2) sc_square_value.nd rfl (by first | exact Or.inl rfl | exact Or.inr rfl)) pgs_nil))))
      (pss_one (ps_ret (pe_ifExp (pt_cmpR op_eq (pv 1) (pe_callB (id := "len") (r := rLenS K) call_len_seq (by rfl) T.n_len PySem.boot_len (pa_cons (pv 0) pa_nil)) (nomark _)) (pv 2) pe_int)))), ?_⟩
    obtain ⟨p, as, rows, n, b, rfl, hT, hb0, hb, hbits, k⟩ := h
    have PP := Dt.pc_all hT.m_ hT.w_ hb hb0 n (Nat.le_refl _)
    have hbn := hT.b
    have bD : Bd 40002 (if (Dt.clears rows n).steps = n then (Dt.clears rows n).sign * (Dt.clears rows n).corner else 0) := by
      have bits : (b + 1) * 2 ^ (Dt.clears rows n).steps - 1 ≤ 40000 := by
        have h1 := Nat.mul_le_mul_left (b + 1) (Nat.pow_le_pow_right (show 0 < 2 by decide) (show (Dt.clears rows n).steps ≤ (n - 2) + 2 by have := PP.sm_; omega))
        rw [Nat.pow_add, ← Nat.mul_assoc] at h1
        omega
      have bs : Bd 2 (Dt.clears rows n).sign := by
        rcases PP.sn with z | z <;> rw [z] <;> unfold Bd <;> decide
      split
      · exact (bs.mul (Dt.bdz_mono PP.cb bits : Bd 40000 _)).mono (by decide)
      · exact bd_zero
    refine ⟨_, rfl, p, as, rows, n, n, b, rfl, hT, hb0, hb, hbits, fun t H1 nt e1 ht => ?_⟩
    refine ⟨t, _, rfl, SqT.of ht, rfl, _, _, rfl, _, _, rfl, rfl, ?_⟩
    have hd := Dt.clears_det (n := n) (R := rows) ⟨hT.m_, hT.w_⟩
    refine s_ret (v := .int (if (Dt.clears rows n).steps = n then (Dt.clears rows n).sign * (Dt.clears rows n).corner else 0)) (ev_if (b := decide (V.int (((Dt.clears rows n).steps : Nat) : Int) = V.int (n : Int))) (et_test (ev_op (ev_var rfl) (ev_is (ev_len (ev_var rfl) (SqL.of (hT.ex e1).tab.1)) (by rw [List.length_map, (hT.ex e1).al])) (rv_eq rfl))) (fun g => ?_) (fun g => ?_)) fun H2 e2 => k _ H2 hd bD (e1.trans e2)
    · have := V.int.inj (of_decide_eq_true g)
      exact ev_is (ev_var rfl) (by rw [if_pos (by omega)])
    · exact ev_is ev_c (by rw [if_neg (fun z => of_decide_eq_false g (by rw [z]))])
-- DEF _law_ends

def sp__law_ends (K : PySem.W.Frag) : Sp := fun vs H Q _ => ∃ (s : Addr) (n m : Int), vs = [.ref s, .int m] ∧ SrcAt H s n ∧ n ≤ 400000000 ∧ 1 ≤ m ∧ m ≤ 8 ∧
  ∀ (as : List Addr) (es : List (Int × Int)) (p : Addr) (H' : Hp), (es.length : Int) = m → (∀ e ∈ es, 0 ≤ e.1 ∧ e.1 ≤ m ∧ 0 ≤ e.2 ∧ e.2 ≤ m) → Conn es m → EdgesAt H' as es → H' p = some (.lst (as.map V.ref)) → H p = none → ExB s H H' → SrcAt H' s (n + 300) → Q (.ref p) H'

theorem ok__law_ends (T : Txt K mg) : FnOk P w K mg base CX0 3 T.f__law_ends T.fd__law_ends ["_law_source", "_law_many"] (sp__law_ends K) := by
  refine Fun.ok T.F__law_ends sc__law_ends (fun vs H Q E h => ?_) (fun cdv A outer s H vs Q E hr h => ?_)
  · obtain ⟨_, _, _, rfl, _⟩ := h; rfl
  · refine ⟨_, (pss_cons (ps_set (i := 2) sc__law_ends.nd rfl (by first | exact Or.inl rfl | exact Or.inr rfl) (pe_call (ok__law_mixed T) hr (by rfl) T.g__law_mixed T.k__law_mixed T.b__law_mixed .nil pass0 (pa_cons (pv 0) (pa_cons (pe_listRg rfl (by rfl) T.n_list (prg_1 (by rfl) T.n_range (pe_op op_add (pv 1) pe_int))) pa_nil))))
      (pss_cons (ps_set (i := 3) sc__law_ends.nd rfl (by first | exact Or.inl rfl | exact Or.inr rfl) (pe_lst pa_nil))
      (pss_cons (ps_for PassesOwn.never rfl (pi_range1 (by rfl) T.n_range (pa_cons (pv 1) pa_nil)) (pg_name (i := 4) sc__law_ends.nd rfl (by first | exact Or.inl rfl | exact Or.inr rfl))
        (pss_cut (ps_set (i := 5) sc__law_ends.nd rfl (by first | exact Or.inl rfl | exact Or.inr rfl) (pe_tup (pa_cons (pe_ix (r := rIxL K) ix_list (pv 2) (pe_call (ok__law_next T) (hr.mono (by decide)) (by rfl) T.g__law_next T.k__law_next T.b__law_next .nil pass0 (pa_cons (pv 0) (pa_cons (pe_op op_add (pv 4) pe_int) pa_nil))) (fun _ _ => rfl)) (pa_cons (pe_ix (r := rIxL K) ix_list (pv 2) (pe_op op_add (pv 4) pe_int) (fun _ _ => rfl)) pa_nil))))
          (pss_one (ps_expr (pe_bm PySem.F.plainAttrs_list PySem.F.slot_list_append PySem.F.type_list_append mt_append (pv 3) (pa_cons (pe_ix (r := rIxL K) ix_list (pe_lst (pa_cons (pv 5) (pa_cons (pe_revT (pv 5)) pa_nil))) (pe_call (ok__law_next T) (hr.mono (by decide)) (by rfl) T.g__law_next T.k__law_next T.b__law_next .nil pass0 (pa_cons (pv 0) (pa_cons pe_int pa_nil))) (fun _ _ => rfl)) pa_nil))))))
      (pss_one (ps_ret (pe_call (ok__law_mixed T) hr (by rfl) T.g__law_mixed T.k__law_mixed T.b__law_mixed .nil pass0 (pa_cons (pv 0) (pa_cons (pv 3) pa_nil)))))))), ?_⟩
    obtain ⟨s, n, m, rfl, hs, hn, hm1, hm8, k⟩ := h
    refine ⟨_, rfl, _, rfl, _, _, rfl, rfl, _, rfl, RgOk.of_le (by omega) (by omega) (by omega) (by omega), fun q nq => ?_⟩
    have x1 := Ex.new (o := .lst (rgV 0 (m + 1))) nq
    refine ⟨s, q, n, _, rfl, hs.ex x1, by omega, hs.ne nq, SqL.of upd_same, ?_, ?_, fun ys p1 H1 hp np1 e1 s1 h1 => ?_⟩
    · rw [rgV_length]
      omega
    · intro v hv
      rw [rgV_nums] at hv
      obtain ⟨i, _, rfl⟩ := List.mem_map.mp hv
      exact datv_int i
    rw [rgV_nums] at hp
    obtain ⟨pl, rfl, hpl⟩ := perm_ints hp
    have np1H : H p1 = none := fresh_back x1 np1
    have e01 : ExB s H H1 := (ExB.of x1).trans e1
    have hpll : pl.length = m.toNat + 1 := by
      rw [hpl.length_eq, numsTo_length]
      omega
    have hplm : ∀ a, a ∈ pl ↔ 0 ≤ a ∧ a ≤ m := fun a => by
      rw [hpl.mem_iff, mem_numsTo]
      omega
    have np1s : p1 ≠ s := (hs.ex x1).ne np1
    clear hp x1 e1 np1 nq
    -- found
    refine ⟨Nat.zero_le _, fun p2 np2 => ?_⟩
    have x2 : Ex H1 (upd H1 p2 (.lst [])) := Ex.new np2
    have np2s : p2 ≠ s := s1.ne np2
    have np12 : p1 ≠ p2 := ne_of_none h1 np2
    have np2H : H p2 = none := fresh_B e01 np2 s1.obj
    refine ⟨_, rfl, _, rfl, by omega, by omega, for_range (lo := 0) (n := m.toNat) (fun i σ H' => ∃ (y4 y5 : Option V) (as : List Addr) (es : List (Int × Int)), σ = [some (.ref s), some (.int m), some (.ref p1), some (.ref p2), y4, y5] ∧ es.length = i ∧ EdgesAt H' as es ∧ H' p2 = some (.lst (as.map V.ref)) ∧
      ExB s H H' ∧ SrcAt H' s (n + 100 + 2 * i) ∧ H' p1 = some (.lst (pl.map V.int)) ∧ EdgeTree pl es ∧ (∀ e ∈ es, 0 ≤ e.1 ∧ e.1 ≤ m ∧ 0 ≤ e.2 ∧ e.2 ≤ m)) ?_ ?_ ?_⟩
    · exact ⟨_, _, [], [], rfl, rfl, .nil, upd_same, e01.trans (ExB.of x2), (s1.ex x2).le (by omega), x2 _ _ h1, fun j hj => absurd hj (Nat.not_lt_zero _), fun e he => by simp at he⟩
    · rintro i σ H2 hi ⟨y4, y5, as, es, rfl, hes, hE, h2, e2, s2, g1, hT, hb⟩
      have hsz := hes
      have sat : ∀ {j : Nat}, j < pl.length → ∃ z, (pl.map V.int)[j]? = some (.int z) ∧ pl[j]? = some z := fun {j} hj => ⟨pl[j], by rw [List.getElem?_map, List.getElem?_eq_getElem hj]; rfl, List.getElem?_eq_getElem hj⟩
      -- two
      refine ⟨fun σ' H' => ∃ (t : Addr) (f : Nat) (a b : Int), σ' = [some (.ref s), some (.int m), some (.ref p1), some (.ref p2), some (.int (0 + (i : Int))), some (.ref t)] ∧ H' t = some (.tup [.int a, .int b]) ∧ f ≤ i ∧ pl[f]? = some a ∧ pl[i + 1]? = some b ∧ ExB s H2 H' ∧ SrcAt H' s (n + 100 + 2 * i + 1), ?_, ?_⟩
      · refine ⟨_, rfl, _, rfl, _, rfl, _, _, rfl, rfl, s, _, _, rfl, s2, by omega, by omega, ?_, fun f H3 f0 f1 e3 s3 => ?_⟩
        · unfold Bd
          exact Nat.lt_of_lt_of_le (show (0 + (i : Int) + 1).natAbs < 1024 by omega) (by decide +kernel)
        · obtain ⟨a, ha, ha'⟩ := sat (j := f.toNat) (by omega)
          obtain ⟨b, hb, hb'⟩ := sat (j := i + 1) (by omega)
          refine ⟨p1, _, _, _, rfl, rfl, SqL.of (e3 _ _ np1s g1), at_of (j := f.toNat) (by omega) ha, ?_⟩
          refine ⟨_, rfl, _, rfl, _, _, rfl, rfl, p1, _, _, _, rfl, rfl, SqL.of (e3 _ _ np1s g1), at_of (j := i + 1) (by omega) hb, (by show 2 ≤ sizeLine; decide), fun t nt => ?_⟩
          exact ⟨t, f.toNat, a, b, rfl, upd_same, by omega, ha', hb', e3.trans (ExB.of (Ex.new nt)), s3.ex (Ex.new nt)⟩
      · rintro σ' H3 ⟨t, f, a, b, rfl, ht, hf, ha, hb', e3, s3⟩
        have h2' := e3 _ _ np2s h2
        refine ⟨_, rfl, .inl ⟨rfl, _, SqL.of h2'⟩, _, rfl, _, rfl, t, _, _, rfl, SqT.of ht, fun u nu => ?_⟩
        have xu : Ex H3 (upd H3 u (.tup [.int b, .int a])) := Ex.new nu
        refine ⟨(by show 2 ≤ sizeLine; decide), fun l nl => ?_⟩
        have xl : Ex (upd H3 u (.tup [.int b, .int a])) (upd (upd H3 u (.tup [.int b, .int a])) l (.lst [.ref t, .ref u])) := Ex.new nl
        have xx := xu.trans xl
        refine ⟨_, rfl, s, 2, _, rfl, s3.ex xx, by omega, by decide, (by unfold Bd; decide +kernel), fun g H4 g0 gl e4 s4 => ?_⟩
        have nls : l ≠ s := (s3.ex xu).ne nl
        have hl4 := e4 _ _ nls (upd_same (H := upd H3 u (.tup [.int b, .int a])) (a := l) (o := .lst [.ref t, .ref u]))
        have st : ∀ c xs, H2 c = some (.tup xs) → H4 c = some (.tup xs) := fun c xs h => tups_B (s3.ex xx) e4 _ _ (tups_E xx _ _ (tups_B s2 e3 _ _ h))
        have st3 : ∀ c xs, H3 c = some (.tup xs) → H4 c = some (.tup xs) := fun c xs h => tups_B (s3.ex xx) e4 _ _ (tups_E xx _ _ h)
        have stu : H4 u = some (.tup [.int b, .int a]) := tups_B (s3.ex xx) e4 _ _ (xl _ _ upd_same)
        have p2' := e4 _ _ np2s (xx _ _ h2')
        have al : as.length = i := by rw [Paired.length hE, hes]
        have fin : ∀ (v : Addr) (e : Int × Int), H4 v = some (.tup [.int e.1, .int e.2]) → (e = (a, b) ∨ e = (b, a)) → rAppend (.ref p2) [.ref v] H4 fun _ H' => ∃ (y4 y5 : Option V) (as : List Addr) (es : List (Int × Int)), [some (V.ref s), some (.int m), some (.ref p1), some (.ref p2), some (.int (0 + (i : Int))), some (.ref t)] = [some (.ref s), some (.int m), some (.ref p1), some (.ref p2), y4, y5] ∧ es.length = i + 1 ∧ EdgesAt H' as es ∧ H' p2 = some (.lst (as.map V.ref)) ∧
            ExB s H H' ∧ SrcAt H' s (n + 100 + 2 * ((i + 1 : Nat) : Int)) ∧ H' p1 = some (.lst (pl.map V.int)) ∧ EdgeTree pl es ∧ (∀ e ∈ es, 0 ≤ e.1 ∧ e.1 ≤ m ∧ 0 ≤ e.2 ∧ e.2 ≤ m) := by
          intro v e hv he
          refine ⟨p2, _, _, rfl, rfl, p2', small1000 (by rw [List.length_map]; omega), _, _, as ++ [v], es ++ [e], rfl, ?_, ?_, ?_, ?_, ?_, ?_, ?_, ?_⟩
          · rw [List.length_append, hes]
            rfl
          · exact paired_imp (fun c d h => tups_U p2' _ _ h) (paired_snoc (EdgesAt.mono st hE) hv)
          · rw [upd_same, List.map_append]
            rfl
          · refine fun c o nc h => ?_
            rw [upd_ne (ne_of_none h np2H)]
            exact e4 _ _ nc (xx _ _ (e3 _ _ nc (e2 _ _ nc h)))
          · obtain ⟨a1, a2, a3, a4, a5, a6, a7, a8⟩ := s4
            exact ⟨a1, a2, a3, by rw [upd_ne np2s.symm]; exact a4, a5, a6, a7, by omega⟩
          · rw [upd_ne np12]
            exact e4 _ _ np1s (xx _ _ (e3 _ _ np1s g1))
          · exact hT.more (by omega) ha (by rw [hes]; exact hb') he
          · intro e' he'
            rcases List.mem_append.mp he' with h | h
            · exact hb e' h
            · have e1 : e' = e := by simpa using h
              subst e1
              have ma := (hplm a).mp (List.mem_of_getElem? ha)
              have mb := (hplm b).mp (List.mem_of_getElem? hb')
              rcases he with rfl | rfl
              · exact ⟨ma.1, ma.2, mb.1, mb.2⟩
              · exact ⟨mb.1, mb.2, ma.1, ma.2⟩
        have hg : g = 0 ∨ g = 1 := by omega
        rcases hg with rfl | rfl
        · exact ⟨l, _, _, .ref t, rfl, rfl, SqL.of hl4, rfl, fin t (a, b) (st3 _ _ ht) (.inl rfl)⟩
        · exact ⟨l, _, _, .ref u, rfl, rfl, SqL.of hl4, rfl, fin u (b, a) stu (.inr rfl)⟩
    · rintro σ H2 ⟨y4, y5, as, es, rfl, hes, hE, h2, e2, s2, g1, hT, hb⟩
      have al : as.length = m.toNat := by rw [Paired.length hE, hes]
      refine ⟨_, rfl, _, rfl, s, p2, _, _, rfl, s2, by omega, np2s, SqL.of h2, (by rw [List.length_map]; omega), fun v hv => ?_, fun ys p H3 hp np e3 s3 h3 => ?_⟩
      · obtain ⟨c, hc, rfl⟩ := List.mem_map.mp hv
        obtain ⟨d, _, hd⟩ := paired_mem hE hc
        exact datv_pair hd (s2.neT hd)
      · obtain ⟨as', es', rfl, pe, hE', _⟩ := perm_refs hp hE
        refine k as' es' p H3 ?_ (fun e he => hb e (pe.mem_iff.mp he)) ?_ (EdgesAt.mono (tups_B s2 e3) hE') h3 (fresh_B e2 np s2.obj) (e2.trans e3) (s3.le (by omega))
        · rw [pe.length_eq, hes]
          omega
        · have c := EdgeTree.conn (m := m.toNat) hT hes hpll fun a h0 h1 => (hplm a).mpr ⟨h0, by omega⟩
          have c2 := c.perm pe
          have em : ((m.toNat : Nat) : Int) = m := by omega
          rw [em] at c2
          exact c2
-- DEF _law_stretches

def sp__law_stretches (K : PySem.W.Frag) : Sp := fun vs H Q _ => ∃ (s : Addr) (n : Int) (m w : Nat), vs = [.ref s, .int m, .int w] ∧ SrcAt H s n ∧ n ≤ 300000000 ∧ 1 ≤ m ∧ m ≤ 8 ∧ 1 ≤ w ∧ w ≤ 8 ∧
  ∀ (rs : List Addr) (rows : List (List Int)) (p : Addr) (H' : Hp), NewTab H H' p rs rows w 100 → rows.length = m → ExB s H H' → SrcAt H' s (n + 400) → Q (.ref p) H'

theorem ok__law_stretches (T : Txt K mg) : FnOk P w K mg base CX0 3 T.f__law_stretches T.fd__law_stretches ["_law_source", "_law_many", "_law_wide"] (sp__law_stretches K) := by
  refine Fun.ok T.F__law_stretches sc__law_stretches (fun vs H Q E h => ?_) (fun cdv A outer s H vs Q E hr h => ?_)
  · obtain ⟨_, _, _, _, rfl, _⟩ := h; rfl
  · refine ⟨_, (pss_cons (ps_set (i := 3) sc__law_stretches.nd rfl (by first | exact Or.inl rfl | exact Or.inr rfl) (pe_call (ok__law_mixed T) hr (by rfl) T.g__law_mixed T.k__law_mixed T.b__law_mixed .nil pass0 (pa_cons (pv 0) (pa_cons (pe_listRg rfl (by rfl) T.n_list (prg_1 (by rfl) T.n_range (pv 2))) pa_nil))))
      (pss_cons (ps_set (i := 4) sc__law_stretches.nd rfl (by first | exact Or.inl rfl | exact Or.inr rfl) (pe_lst pa_nil))
      (pss_cons (ps_for PassesOwn.never rfl (pi_range1 (by rfl) T.n_range (pa_cons (pv 1) pa_nil)) (pg_name (i := 5) sc__law_stretches.nd rfl (by first | exact Or.inl rfl | exact Or.inr rfl))
        (pss_cut (ps_set (i := 6) sc__law_stretches.nd rfl (by first | exact Or.inl rfl | exact Or.inr rfl) (pe_call (ok__law_next T) (hr.mono (by decide)) (by rfl) T.g__law_next T.k__law_next T.b__law_next .nil pass0 (pa_cons (pv 0) (pa_cons (pv 2) pa_nil))))
          (pss_cut (ps_set (i := 7) sc__law_stretches.nd rfl (by first | exact Or.inl rfl | exact Or.inr rfl) (pe_call (ok__law_next T) (hr.mono (by decide)) (by rfl) T.g__law_next T.k__law_next T.b__law_next .nil pass0 (pa_cons (pv 0) (pa_cons (pe_op op_add (pe_op op_sub (pv 2) (pv 6)) pe_int) pa_nil))))
          (pss_one (ps_expr (pe_bm PySem.F.plainAttrs_list PySem.F.slot_list_append PySem.F.type_list_append mt_append (pv 4) (pa_cons (pe_lc (own := [("_law_column", 8)]) (g := gName 8) (tt := tYes) rfl sc__law_stretches.nd (pi_range1 (by rfl) T.n_range (pa_cons (pv 2) pa_nil)) (blkOk_by (N := ["_law_source", "_law_many", "_law_wide", "_law_order", "_law_found", "_law_k", "_law_start", "_law_length", "_law_column"]) (sc := (defScope s__law_stretches)) (by decide +kernel)) (fun _ _ _ _ _ => pg_name (i := 8) sc__law_stretches.nd rfl (Or.inl rfl)) (fun _ _ _ _ _ => pts_nil) (fun _ _ _ _ _ => (pe_callTy (T := "int") call_int1 (by rfl) T.n_int (by decide +kernel) (pa_cons (pe_chain op_le op_lt (pv 6) (pe_ix (r := rIxL K) ix_list (pv 3) (pv 8) (fun _ _ => rfl)) (pe_op op_add (pv 6) (pv 7))) pa_nil)))) pa_nil)))))))
      (pss_one (ps_ret (pv 4)))))), ?_⟩
    obtain ⟨s, n, m, w, rfl, hs, hn, hm1, hm8, hw1, hw8, k⟩ := h
    -- order
    refine ⟨_, rfl, _, rfl, _, rfl, RgOk.of_le (by omega) (by omega) (by omega) (by omega), fun q nq => ?_⟩
    have x1 := Ex.new (o := .lst (rgV 0 (w : Int))) nq
    refine ⟨s, q, n, _, rfl, hs.ex x1, by omega, hs.ne nq, SqL.of upd_same, ?_, ?_, fun ys p1 H1 hp np1 e1 s1 h1 => ?_⟩
    · rw [rgV_length]
      omega
    · intro v hv
      rw [rgV_nums] at hv
      obtain ⟨i, _, rfl⟩ := List.mem_map.mp hv
      exact datv_int i
    rw [rgV_nums] at hp
    obtain ⟨pl, rfl, hpl⟩ := perm_ints hp
    have hpll : pl.length = w := by
      rw [hpl.length_eq, numsTo_length]
      omega
    have e01 : ExB s H H1 := (ExB.of x1).trans e1
    have np1s : p1 ≠ s := (hs.ex x1).ne np1
    -- found
    refine ⟨Nat.zero_le _, fun p2 np2 => ?_⟩
    have x2 : Ex H1 (upd H1 p2 (.lst [])) := Ex.new np2
    have np2s : p2 ≠ s := s1.ne np2
    have np12 : p1 ≠ p2 := ne_of_none h1 np2
    have np2H : H p2 = none := fresh_B e01 np2 s1.obj
    refine ⟨_, rfl, _, rfl, by omega, by omega, for_range (lo := 0) (n := (m : Int).toNat) (fun i σ H' => ∃ (y5 y6 y7 y8 : Option V) (as : List Addr) (rows : List (List Int)), σ = [some (.ref s), some (.int m), some (.int w), some (.ref p1), some (.ref p2), y5, y6, y7, y8] ∧ rows.length = i ∧ NewTab H H' p2 as rows w 100 ∧
      ExB s H H' ∧ SrcAt H' s (n + 100 + 2 * i) ∧ H' p1 = some (.lst (pl.map V.int))) ?_ ?_ ?_⟩
    · exact ⟨_, _, _, _, [], [], rfl, rfl, NewTab.new np2H upd_same, e01.trans (ExB.of x2), (s1.ex x2).le (by omega), x2 _ _ h1⟩
    · rintro i σ H2 hi ⟨y5, y6, y7, y8, as, rows, rfl, hl, hN, e2, s2, g1⟩
      refine ⟨fun σ' H' => ∃ f : Int, σ' = [some (.ref s), some (.int m), some (.int w), some (.ref p1), some (.ref p2), some (.int (0 + (i : Int))), some (.int f), y7, y8] ∧ 0 ≤ f ∧ f < w ∧ ExB s H2 H' ∧ SrcAt H' s (n + 100 + 2 * i + 1), ?_, ?_⟩
      · refine ⟨_, rfl, _, rfl, s, _, _, rfl, s2, by omega, by omega, ?_, fun f H3 f0 f1 e3 s3 => ⟨f, rfl, f0, f1, e3, s3⟩⟩
        unfold Bd
        exact Nat.lt_of_lt_of_le (show ((w : Int)).natAbs < 1024 by omega) (by decide +kernel)
      rintro σ' H3 ⟨f, rfl, f0, f1, e3, s3⟩
      refine ⟨fun σ' H' => ∃ g : Int, σ' = [some (.ref s), some (.int m), some (.int w), some (.ref p1), some (.ref p2), some (.int (0 + (i : Int))), some (.int f), some (.int g), y8] ∧ ExB s H2 H' ∧ SrcAt H' s (n + 100 + 2 * i + 1 + 1), ?_, ?_⟩
      · refine ⟨_, rfl, _, rfl, _, rfl, _, _, rfl, rfl, _, _, rfl, rfl, s, _, _, rfl, s3, by omega, by omega, ?_, fun g H4 g0 gl e4 s4 => ⟨g, rfl, e3.trans e4, s4⟩⟩
        unfold Bd
        exact Nat.lt_of_lt_of_le (show ((w : Int) - f + 1).natAbs < 1024 by omega) (by decide +kernel)
      rintro σ' H4 ⟨g, rfl, e4, s4⟩
      have N4 := hN.exB e4 hs.obj
      have al : as.length = i := by rw [Paired.length N4.tab.2, hl]
      have hp1 := e4 _ _ np1s g1
      refine ⟨_, rfl, .inl ⟨rfl, _, SqL.of N4.tab.1⟩, ?_⟩
      refine el_rng (m := w) (fun o => if (decide (f ≤ pl[o]?.getD 0) && decide (pl[o]?.getD 0 < f + g)) = true then 1 else 0) (ea_cons (ev_var rfl) ea_nil) (by omega) (fun x => rfl) (fun o H5 x5 ho => ev_int1 (ev_chain (ev_var rfl) (ev_op (ev_var rfl) (ev_var rfl) (rv_ixL (SqL.of (x5 _ _ hp1)) (atI_row (by omega)))) (ev_op (ev_var rfl) (ev_var rfl) rv_I0) rv_I0 rv_I0)) H4 (Ex.refl _) _ fun r H5 nr e5 hr => ?_
      refine ⟨p2, _, _, rfl, rfl, e5 _ _ N4.tab.1, small1000 (by rw [List.length_map]; omega), ?_⟩
      refine ⟨_, _, _, _, as ++ [r], rows ++ [_], rfl, by rw [List.length_append, hl]; rfl, N4.app (noneB (e2.trans e4) s4.obj) e5 nr hr (by rw [List.length_map, List.length_range]) (fun y hy => ?_), ?_, ?_, ?_⟩
      · obtain ⟨o, _, rfl⟩ := List.mem_map.mp hy
        split <;> decide
      · refine fun b o nb h => ?_
        rw [upd_ne (ne_of_none h np2H)]
        exact e5 _ _ (e4 _ _ nb (e2 _ _ nb h))
      · obtain ⟨a1, a2, a3, a4, a5, a6, a7, a8⟩ := s4.ex e5
        exact ⟨a1, a2, a3, by rw [upd_ne np2s.symm]; exact a4, a5, a6, a7, by omega⟩
      · rw [upd_ne np12]
        exact e5 _ _ hp1
    · rintro σ H2 ⟨y5, y6, y7, y8, as, rows, rfl, hl, hN, e2, s2, g1⟩
      refine ⟨_, rfl, ?_⟩
      exact k as rows p2 H2 hN (by rw [hl]; omega) e2 (s2.le (by omega))
-- DEF _law_swung

/-- rows mixed, perhaps turned, with signs -/
def Swung (rows rows' : List (List Int)) (m w m' w' : Nat) : Prop := ∃ rows1 rows2 : List (List Int), rows1.Perm rows ∧ ((m' = m ∧ w' = w ∧ rows2 = rows1) ∨ (m' = w ∧ w' = m ∧ rows2 = (List.range w).map fun kk => rows1.map fun r => r[kk]?.getD 0)) ∧
  ∃ fs sg : List Int, fs.length = m' ∧ sg.length = w' ∧ (∀ x ∈ fs, x = 1 ∨ x = -1) ∧ (∀ x ∈ sg, x = 1 ∨ x = -1) ∧ rows' = List.zipWith (fun f r => List.zipWith (fun x y => f * x * y) r sg) fs rows2
theorem zw_snoc {α β γ : Type} (f : α → β → γ) {xs : List α} {ys : List β} {i : Nat} {x : α} {y : β} (hx : xs.length = i) (hy : ys[i]? = some y) : List.zipWith f (xs ++ [x]) (ys.take (i + 1)) = List.zipWith f xs (ys.take i) ++ [f x y] := by
  have hi := (List.getElem?_eq_some_iff.mp hy).1
  rw [take_snoc hy, List.zipWith_append (by rw [List.length_take]; omega)]
  rfl

def sp__law_swung (K : PySem.W.Frag) : Sp := fun vs H Q _ => ∃ (s g : Addr) (n : Int) (as : List Addr) (rows : List (List Int)) (m w c : Nat), vs = [.ref s, .ref g] ∧ SrcAt H s n ∧ n ≤ 200000000 ∧ g ≠ s ∧ (∀ a ∈ as, a ≠ s) ∧ Tab H g as rows ∧ rows.length = m ∧ (∀ r ∈ rows, r.length = w ∧ ∀ y ∈ r, y.natAbs ≤ c) ∧ c ≤ 10 ^ 30 ∧ 1 ≤ m ∧ m ≤ 8 ∧ 1 ≤ w ∧ w ≤ 8 ∧
  ∀ (rs : List Addr) (rows' : List (List Int)) (p : Addr) (H' : Hp) (m' w' : Nat), (m' = m ∧ w' = w ∨ m' = w ∧ w' = m) → Swung rows rows' m w m' w' → NewTab H H' p rs rows' w' c → rows'.length = m' → ExB s H H' → SrcAt H' s (n + 200) → Q (.ref p) H'

theorem ok__law_swung (T : Txt K mg) : FnOk P w K mg base CX0 3 T.f__law_swung T.fd__law_swung ["_law_source", "_law_grid"] (sp__law_swung K) := by
  refine Fun.ok T.F__law_swung sc__law_swung (fun vs H Q E h => ?_) (fun cdv A outer s H vs Q E hr h => ?_)
  · obtain ⟨_, _, _, _, _, _, _, _, rfl, _⟩ := h; rfl
  · refine ⟨_, (pss_cut (ps_set (i := 2) sc__law_swung.nd rfl (by first | exact Or.inl rfl | exact Or.inr rfl) (pe_call (ok__law_mixed T) hr (by rfl) T.g__law_mixed T.k__law_mixed T.b__law_mixed .nil pass0 (pa_cons (pv 0) (pa_cons (pv 1) pa_nil))))
      (pss_cut (ps_if (pt_cmpR op_eq (pe_call (ok__law_next T) (hr.mono (by decide)) (by rfl) T.g__law_next T.k__law_next T.b__law_next .nil pass0 (pa_cons (pv 0) (pa_cons pe_int pa_nil))) pe_int (nomark _))
        (pss_one (ps_set (i := 2) sc__law_swung.nd rfl (by first | exact Or.inl rfl | exact Or.inr rfl) (pe_lc (own := [("_law_k", 7)]) (g := gName 7) (tt := tYes) rfl sc__law_swung.nd (pi_range1 (by rfl) T.n_range (pa_cons (pe_callB (id := "len") (r := rLenS K) call_len_seq (by rfl) T.n_len PySem.boot_len (pa_cons (pe_ix (r := rIxL K) ix_list (pv 2) pe_int (fun _ _ => rfl)) pa_nil)) pa_nil)) (blkOk_by (N := ["_law_source", "_law_grid", "_law_rows", "_law_signs", "_law_found", "_law_row", "_law_sign", "_law_k", "_law_column", "_law_a", "_law_b"]) (sc := (defScope s__law_swung)) (by decide +kernel)) (fun _ _ _ _ _ => pg_name (i := 7) sc__law_swung.nd rfl (Or.inr rfl)) (fun _ _ _ _ _ => pts_nil) (fun _ _ _ _ _ => (pe_lc (own := [("_law_row", 5)]) (wi := iList K _) (g := gName 5) (tt := tYes) rfl sc__law_swung.nd (pi_list (pv 2)) (blkOk_by (N := ["_law_source", "_law_grid", "_law_rows", "_law_signs", "_law_found", "_law_row", "_law_sign", "_law_k", "_law_column", "_law_a", "_law_b"]) (sc := (relS ({ kind := .function, names := [(".0", .local), ("_law_k", .cell), ("_law_rows", .free)], isGenerator := false, isCoroutine := false } : Scope) (defScope s__law_swung))) (by decide +kernel)) (fun _ _ _ _ _ => pg_name (i := 5) sc__law_swung.nd rfl (Or.inl rfl)) (fun _ _ _ _ _ => pts_nil) (fun _ _ _ _ _ => (pe_ix (r := rIxL K) ix_list (pv 5) (pv 7) (fun _ _ => rfl))))))))
        pss_nil)
      (pss_cut (ps_setLc (i := 3) (own := [("_law_column", 8)]) (wi := iList K _) (g := gName 8) (tt := tYes) rfl sc__law_swung.nd rfl rfl (sw_true rfl rfl rfl (by decide +kernel)) (pi_list (pe_ix (r := rIxL K) ix_list (pv 2) pe_int (fun _ _ => rfl))) (blkOk_by (N := ["_law_source", "_law_grid", "_law_rows", "_law_signs", "_law_found", "_law_row", "_law_sign", "_law_k", "_law_column", "_law_a", "_law_b"]) (sc := (defScope s__law_swung)) (by decide +kernel)) (fun _ _ _ _ _ => pg_name (i := 8) sc__law_swung.nd rfl (Or.inl rfl)) (fun _ _ _ _ _ => pts_nil) (fun _ _ _ _ _ => (pe_ix (r := rIxL K) ix_list (pe_lst (pa_cons pe_int (pa_cons (pe_un un_neg pe_int) pa_nil))) (pe_call (ok__law_next T) (hr.mono (by decide)) (by rfl) T.g__law_next T.k__law_next T.b__law_next .nil pass0 (pa_cons (pv 0) (pa_cons pe_int pa_nil))) (fun _ _ => rfl))))
      (pss_cons (ps_set (i := 4) sc__law_swung.nd rfl (by first | exact Or.inl rfl | exact Or.inr rfl) (pe_lst pa_nil))
      (pss_cons (ps_for PassesOwn.never rfl (pi_list (pv 2)) (pg_name (i := 5) sc__law_swung.nd rfl (by first | exact Or.inl rfl | exact Or.inr rfl))
        (pss_cut (ps_set (i := 6) sc__law_swung.nd rfl (by first | exact Or.inl rfl | exact Or.inr rfl) (pe_ix (r := rIxL K) ix_list (pe_lst (pa_cons pe_int (pa_cons pe_int (pa_cons (pe_un un_neg pe_int) pa_nil)))) (pe_call (ok__law_next T) (hr.mono (by decide)) (by rfl) T.g__law_next T.k__law_next T.b__law_next .nil pass0 (pa_cons (pv 0) (pa_cons pe_int pa_nil))) (fun _ _ => rfl)))
          (pss_one (ps_expr (pe_bm PySem.F.plainAttrs_list PySem.F.slot_list_append PySem.F.type_list_append mt_append (pv 4) (pa_cons (pe_lc (own := [("_law_a", 9), ("_law_b", 10)]) (wi := iZip K _) (g := gTup K 2 (gCons (gName 9) (gCons (gName 10) gNil))) (tt := tYes) rfl sc__law_swung.nd (pi_zip (by rfl) T.n_zip (pa_cons (pv 5) (pa_cons (pv 3) pa_nil))) (blkOk_by (N := ["_law_source", "_law_grid", "_law_rows", "_law_signs", "_law_found", "_law_row", "_law_sign", "_law_k", "_law_column", "_law_a", "_law_b"]) (sc := (defScope s__law_swung)) (by decide +kernel)) (fun _ _ _ _ _ => (pg_tup rfl (pgs_cons (pg_name (i := 9) sc__law_swung.nd rfl (Or.inl rfl)) (pgs_cons (pg_name (i := 10) sc__law_swung.nd rfl (Or.inl rfl)) pgs_nil)))) (fun _ _ _ _ _ => pts_nil) (fun _ _ _ _ _ => (pe_op op_mulW (pe_op op_mulW (pv 6) (pv 9)) (pv 10)))) pa_nil))))))
      (pss_one (ps_ret (pv 4)))))))), ?_⟩
    obtain ⟨s, g, n, as, rows, m, w, c, rfl, hs, hn, hgs, has, hT, hm, hok, hc30, hm1, hm8, hw1, hw8, k⟩ := h
    have hal : as.length = m := by rw [Paired.length hT.2, hm]
    -- row_list
    refine ⟨fun σ' H1 => ∃ (p : Addr) (as1 : List Addr) (rows1 : List (List Int)), σ' = [some (.ref s), some (.ref g), some (.ref p), none, none, none, none, none, none, none, none] ∧ Tab H1 p as1 rows1 ∧ rows1.length = m ∧ rows1.Perm rows ∧ (∀ r ∈ rows1, r.length = w ∧ ∀ y ∈ r, y.natAbs ≤ c) ∧ p ≠ s ∧ (∀ a ∈ as1, a ≠ s) ∧ ExB s H H1 ∧ SrcAt H1 s (n + 100), ?_, ?_⟩
    · refine ⟨_, rfl, _, rfl, s, g, n, _, rfl, hs, by omega, hgs, SqL.of hT.1, (by rw [List.length_map]; omega), fun v hv => ?_, fun ys p H1 hp np e1 s1 h1 => ?_⟩
      · obtain ⟨a, ha, rfl⟩ := List.mem_map.mp hv
        obtain ⟨r, _, hr⟩ := paired_mem hT.2 ha
        exact datv_row hr (has a ha)
      · obtain ⟨as1, rows1, rfl, pr, hR, pa⟩ := perm_refs hp hT.2
        refine ⟨p, as1, rows1, rfl, ⟨h1, rows_but hR fun a ha o q => e1 a o (has a (pa.mem_iff.mp ha)) q⟩, by rw [pr.length_eq, hm], pr, fun r hr => hok r (pr.mem_iff.mp hr), hs.ne np, fun a ha => has a (pa.mem_iff.mp ha), e1, s1⟩
    rintro σ' H1 ⟨p, as1, rows1, rfl, hT1, hm', hpr, hok1, nps, nas, e1, s1⟩
    -- perhaps turned
    refine ⟨fun σ' H2 => ∃ (y5 y7 : Option V) (p2 : Addr) (as2 : List Addr) (rows2 : List (List Int)) (m2 w2 : Nat), (m2 = m ∧ w2 = w ∨ m2 = w ∧ w2 = m) ∧ ((m2 = m ∧ w2 = w ∧ rows2 = rows1) ∨ (m2 = w ∧ w2 = m ∧ rows2 = (List.range w).map fun kk => rows1.map fun r => r[kk]?.getD 0)) ∧ σ' = [some (.ref s), some (.ref g), some (.ref p2), none, none, y5, none, y7, none, none, none] ∧ Tab H2 p2 as2 rows2 ∧ rows2.length = m2 ∧ (∀ r ∈ rows2, r.length = w2 ∧ ∀ y ∈ r, y.natAbs ≤ c) ∧ p2 ≠ s ∧ (∀ a ∈ as2, a ≠ s) ∧ ExB s H H2 ∧ SrcAt H2 s (n + 101), ?_, ?_⟩
    · refine ⟨_, rfl, s, 2, _, rfl, s1, by omega, by decide, (by unfold Bd; decide +kernel), fun f H2 f0 f1 e2 s2 => ⟨rfl, _, rfl, ?_⟩⟩
      have hT2 : Tab H2 p as1 rows1 := ⟨e2 _ _ nps hT1.1, rows_but hT1.2 fun a ha o q => e2 a o (nas a ha) q⟩
      refine ite2 (fun _ => ?_) (fun _ => ?_)
      · have h0 : ∃ a0 r0, as1[0]? = some a0 ∧ rows1[0]? = some r0 ∧ H2 a0 = some (.lst (r0.map V.int)) ∧ r0.length = w := by
          have hl1 : as1.length = m := by rw [Paired.length hT2.2, hm']
          obtain ⟨a0, ha0⟩ : ∃ a0, as1[0]? = some a0 := ⟨_, List.getElem?_eq_getElem (by omega)⟩
          obtain ⟨r0, hr0, hh⟩ := paired_get hT2.2 ha0
          exact ⟨a0, r0, ha0, hr0, hh, (hok1 r0 (List.mem_of_getElem? hr0)).1⟩
        obtain ⟨a0, r0, ha0, hr0, hh0, hl0⟩ := h0
        have at0 : atI (as1.map V.ref) 0 = some (.ref a0) := atI_nat (j := 0) (by rw [List.getElem?_map, ha0]; rfl)
        refine lc_rows (m := w) (F := fun kk => rows1.map fun r => r[kk]?.getD 0) (ea_cons (ev_is (ev_len (ev_op (ev_var rfl) ev_c (rv_ixL (SqL.of hT2.1) at0)) (SqL.of hh0)) (by rw [List.length_map, hl0])) ea_nil) (by omega) (fun u => rfl) (fun kk H3 x3 hkk => ?_) (fun p2 rs H3 np2 nrs ndr npr x3 ht => ?_)
        · refine el_col (K := K) (f := fun r => r[kk]?.getD 0) rfl (x3 _ _ hT2.1) (hT2.2.ex x3) (by omega) (fun u => rfl) fun b r H4 hr hb x4 => ?_
          have lr := (hok1 r hr).1
          exact ev_op (ev_var rfl) (ev_var rfl) (rv_ixL (SqL.of (x4 _ _ hb)) (atI_row (by omega)))
        · refine ⟨_, _, p2, rs, _, w, m, .inr ⟨rfl, rfl⟩, .inr ⟨rfl, rfl, rfl⟩, rfl, ht, by rw [List.length_map, List.length_range], fun r hr => ?_, s2.ne np2, fun a ha => s2.ne (nrs a ha), (e1.trans e2).trans (ExB.of x3), (s2.ex x3).le (by omega)⟩
          obtain ⟨kk, hkk, rfl⟩ := List.mem_map.mp hr
          have hkk := List.mem_range.mp hkk
          refine ⟨by rw [List.length_map, hm'], fun y hy => ?_⟩
          obtain ⟨r, hr, rfl⟩ := List.mem_map.mp hy
          have o := hok1 r hr
          rw [List.getElem?_eq_getElem (by omega)]
          exact o.2 _ (List.getElem_mem _)
      · exact ⟨_, _, p, as1, rows1, m, w, .inl ⟨rfl, rfl⟩, .inl ⟨rfl, rfl, rfl⟩, rfl, hT2, hm', hok1, nps, nas, e1.trans e2, s2.le (by omega)⟩
    rintro σ' H2 ⟨y5, y7, p2, as2, rows2, m2, w2, hmw, htw, rfl, hT2, hm2, hok2, np2s, nas2, e2, s2⟩
    clear hT1 hm' hok1 nps nas e1 s1
    have hm2b : 1 ≤ m2 ∧ m2 ≤ 8 ∧ 1 ≤ w2 ∧ w2 ≤ 8 := by
      rcases hmw with ⟨rfl, rfl⟩ | ⟨rfl, rfl⟩ <;> exact ⟨by omega, by omega, by omega, by omega⟩
    -- signs
    refine ⟨fun σ' H3 => ∃ (y8 : Option V) (q : Addr) (sg : List Int), σ' = [some (.ref s), some (.ref g), some (.ref p2), some (.ref q), none, y5, none, y7, y8, none, none] ∧ H3 q = some (.lst (sg.map V.int)) ∧ sg.length = w2 ∧ (∀ x ∈ sg, x = 1 ∨ x = -1) ∧ q ≠ s ∧ H q = none ∧ ExB s H2 H3 ∧ SrcAt H3 s (n + 109), ?_, ?_⟩
    · have h0 : ∃ a0 r0, as2[0]? = some a0 ∧ rows2[0]? = some r0 ∧ H2 a0 = some (.lst (r0.map V.int)) ∧ r0.length = w2 := by
        have hl1 : as2.length = m2 := by rw [Paired.length hT2.2, hm2]
        obtain ⟨a0, ha0⟩ : ∃ a0, as2[0]? = some a0 := ⟨_, List.getElem?_eq_getElem (by omega)⟩
        obtain ⟨r0, hr0, hh⟩ := paired_get hT2.2 ha0
        exact ⟨a0, r0, ha0, hr0, hh, (hok2 r0 (List.mem_of_getElem? hr0)).1⟩
      obtain ⟨a0, r0, ha0, hr0, hh0, hl0⟩ := h0
      have at0 : atI (as2.map V.ref) 0 = some (.ref a0) := atI_nat (j := 0) (by rw [List.getElem?_map, ha0]; rfl)
      refine lc_drawL (K := K) (s := s) (n := n + 101) (xs := r0) (fun x => x = 1 ∨ x = -1) (ev_op (ev_var rfl) ev_c (rv_ixL (SqL.of hT2.1) at0)) hh0 (nas2 a0 (List.mem_of_getElem? ha0)) (by omega) s2 (fun u => rfl) (fun i y H3 e3 hi s3 Q1 kq => ?_) (fun D ns H3 hD e3 s3 hD3 hl3 hP => ?_)
      · refine ⟨_, rfl, (by show 2 ≤ sizeLine; decide), fun l nl => ?_⟩
        have xl : Ex H3 (upd H3 l (.lst [.int 1, .int (-1)])) := Ex.new nl
        have nls : l ≠ s := s3.ne nl
        refine ⟨_, rfl, s, 2, _, rfl, s3.ex xl, by omega, by decide, (by unfold Bd; decide +kernel), fun f H4 f0 f1 e4 s4 => ?_⟩
        have hl4 := e4 _ _ nls (upd_same (H := H3) (a := l) (o := .lst [.int 1, .int (-1)]))
        have hf : f = 0 ∨ f = 1 := by omega
        rcases hf with rfl | rfl
        · exact ⟨l, _, _, .int 1, rfl, rfl, SqL.of hl4, rfl, kq 1 H4 (.inl rfl) ((ExB.of xl).trans e4) s4⟩
        · exact ⟨l, _, _, .int (-1), rfl, rfl, SqL.of hl4, rfl, kq (-1) H4 (.inr rfl) ((ExB.of xl).trans e4) s4⟩
      · exact ⟨_, D, ns, rfl, hD3, by omega, hP, s2.ne hD, fresh_B e2 hD s2.obj, e3, s3.le (by omega)⟩
    rintro σ' H3 ⟨y8, q, sg, rfl, hq, hql, hqs, nqs, nqH, e3, s3⟩
    have hT3 : Tab H3 p2 as2 rows2 := ⟨e3 _ _ np2s hT2.1, rows_but hT2.2 fun a ha o z => e3 a o (nas2 a ha) z⟩
    have e03 := e2.trans e3
    -- found
    refine ⟨Nat.zero_le _, fun p3 np3 => ?_⟩
    have x3 : Ex H3 (upd H3 p3 (.lst [])) := Ex.new np3
    have np3s : p3 ≠ s := s3.ne np3
    have np3H : H p3 = none := fresh_B e03 np3 s3.obj
    have ne3 : ∀ {b : Addr} {o : HO}, H3 b = some o → b ≠ p3 := fun h => ne_of_none h np3
    have qp3 := ne3 hq
    refine ⟨_, rfl, p2, rfl, ⟨_, SqL.of (x3 _ _ hT3.1)⟩, for_list (K := K) (a := p2) (xs := as2.map V.ref) (fun i σ H' => ∃ (y5 y6 y9 y10 : Option V) (as : List Addr) (rws : List (List Int)) (fs : List Int), σ = [some (.ref s), some (.ref g), some (.ref p2), some (.ref q), some (.ref p3), y5, y6, y7, y8, y9, y10] ∧ rws.length = i ∧ fs.length = i ∧ (∀ x ∈ fs, x = 1 ∨ x = -1) ∧ rws = List.zipWith (fun f r => List.zipWith (fun x y => f * x * y) r sg) fs (rows2.take i) ∧ NewTab H H' p3 as rws w2 c ∧ ExB s H H' ∧ SrcAt H' s (n + 109 + i) ∧
      Tab H' p2 as2 rows2 ∧ H' q = some (.lst (sg.map V.int))) ?_ (fun i σ H' _ ⟨_, _, _, _, _, _, _, _, _, _, _, _, _, _, _, t, _⟩ => SqL.of t.1) ?_ ?_⟩
    · exact ⟨_, _, _, _, [], [], [], rfl, rfl, rfl, fun x hx => (nomatch hx), rfl, NewTab.new np3H upd_same, e03.trans (ExB.of x3), (s3.ex x3).le (by omega), hT3.ex x3, x3 _ _ hq⟩
    · rintro i x σ H4 hi ⟨z5, z6, z9, z10, as, rws, fs, rfl, hl, hfl, hfs, hrw, hN, e4, s4, hT4, hq4⟩
      rw [List.getElem?_map] at hi
      obtain ⟨ai, hai, rfl⟩ := Option.map_eq_some_iff.mp hi
      obtain ⟨ri, hri, hti⟩ := paired_get hT4.2 hai
      have lri := hok2 ri (List.mem_of_getElem? hri)
      have i8 : i < m2 := by rw [← hm2]; exact (List.getElem?_eq_some_iff.mp hri).1
      have nai := nas2 ai (List.mem_of_getElem? hai)
      refine ⟨fun σ' H' => ∃ f : Int, (f = 1 ∨ f = -1) ∧ σ' = [some (.ref s), some (.ref g), some (.ref p2), some (.ref q), some (.ref p3), some (.ref ai), some (.int f), y7, y8, z9, z10] ∧ ExB s H4 H' ∧ SrcAt H' s (n + 109 + i + 1), ?_, ?_⟩
      · refine ⟨_, rfl, (by show 3 ≤ sizeLine; decide), fun l nl => ?_⟩
        have xl : Ex H4 (upd H4 l (.lst [.int 1, .int 1, .int (-1)])) := Ex.new nl
        have nls : l ≠ s := s4.ne nl
        refine ⟨_, rfl, s, 3, _, rfl, s4.ex xl, by omega, by decide, (by unfold Bd; decide +kernel), fun f H5 f0 f1 e5 s5 => ?_⟩
        have hl5 := e5 _ _ nls (upd_same (H := H4) (a := l) (o := .lst [.int 1, .int 1, .int (-1)]))
        have hf : f = 0 ∨ f = 1 ∨ f = 2 := by omega
        rcases hf with rfl | rfl | rfl
        · exact ⟨l, _, _, .int 1, rfl, rfl, SqL.of hl5, rfl, 1, .inl rfl, rfl, (ExB.of xl).trans e5, s5⟩
        · exact ⟨l, _, _, .int 1, rfl, rfl, SqL.of hl5, rfl, 1, .inl rfl, rfl, (ExB.of xl).trans e5, s5⟩
        · exact ⟨l, _, _, .int (-1), rfl, rfl, SqL.of hl5, rfl, -1, .inr rfl, rfl, (ExB.of xl).trans e5, s5⟩
      rintro σ' H5 ⟨f, hf, rfl, e5, s5⟩
      have N5 := hN.exB e5 hs.obj
      have hT5 : Tab H5 p2 as2 rows2 := ⟨e5 _ _ np2s hT4.1, rows_but hT4.2 fun a ha o z => e5 a o (nas2 a ha) z⟩
      have hq5 := e5 _ _ nqs hq4
      have hti5 := e5 _ _ nai hti
      have al : as.length = i := by rw [Paired.length N5.tab.2, hl]
      have bf : Bd 2 f := by
        rcases hf with rfl | rfl <;> (unfold Bd; decide)
      have small : ∀ {x : Int}, x.natAbs ≤ c → Bd 100 x := fun {x} h => Nat.lt_of_le_of_lt h (Nat.lt_of_le_of_lt hc30 (by decide +kernel))
      refine ⟨_, rfl, .inl ⟨rfl, _, SqL.of N5.tab.1⟩, ?_⟩
      refine el_zip (K := K) (f := fun x y => f * x * y) (xs := ri) (ys := sg) (ea_cons (ev_var rfl) (ea_cons (ev_var rfl) ea_nil)) (SqL.of hti5) (SqL.of hq5) (by omega) (by omega) (fun u v => rfl) (fun x y H1 hx hy _ => ev_op (ev_op (ev_var rfl) (ev_var rfl) (rv_I (bf.mulOk (small (lri.2 x hx))))) (ev_var rfl) (rv_I ((bf.mul (small (lri.2 x hx))).mulOk (show Bd 2 y by rcases hqs y hy with rfl | rfl <;> (unfold Bd; decide))))) H5 (Ex.refl _) _ fun r H6 nr e6 hr => ?_
      refine ⟨p3, _, _, rfl, rfl, e6 _ _ N5.tab.1, small1000 (by rw [List.length_map]; omega), ?_⟩
      refine ⟨_, _, _, _, as ++ [r], rws ++ [_], fs ++ [f], rfl, by rw [List.length_append, hl]; rfl, by rw [List.length_append, hfl]; rfl, (fun x hx => (List.mem_append.mp hx).elim (hfs x) fun z => by rw [List.mem_singleton.mp z]; exact hf), by rw [zw_snoc _ hfl hri, ← hrw], N5.app (noneB (e4.trans e5) s5.obj) e6 nr hr (by rw [List.length_zipWith]; omega) (fun y hy => ?_), ?_, ?_, ?_, ?_⟩
      · obtain ⟨u, v, hu, hv, rfl⟩ : ∃ u v, u ∈ ri ∧ v ∈ sg ∧ f * u * v = y := by
          obtain ⟨j, hj⟩ := List.getElem?_of_mem hy
          rw [List.getElem?_zipWith] at hj
          cases h3 : ri[j]? with
          | none => rw [h3] at hj; simp at hj
          | some u =>
            cases h4 : sg[j]? with
            | none => rw [h3, h4] at hj; simp at hj
            | some v =>
              rw [h3, h4] at hj
              exact ⟨u, v, List.mem_of_getElem? h3, List.mem_of_getElem? h4, Option.some.inj hj⟩
        have b1 := lri.2 u hu
        rcases hf with rfl | rfl <;> rcases hqs v hv with rfl | rfl <;> omega
      · refine fun b o nb h => ?_
        rw [upd_ne (ne_of_none h np3H)]
        exact e6 _ _ (e5 _ _ nb (e4 _ _ nb h))
      · obtain ⟨a1, a2, a3, a4, a5, a6, a7, a8⟩ := s5.ex e6
        exact ⟨a1, a2, a3, by rw [upd_ne np3s.symm]; exact a4, a5, a6, a7, by omega⟩
      · refine ⟨?_, rows_but hT5.2 fun a ha o z => ?_⟩
        · rw [upd_ne (ne3 hT3.1)]
          exact e6 _ _ hT5.1
        · obtain ⟨_, _, h3⟩ := paired_mem hT3.2 ha
          rw [upd_ne (ne3 h3)]
          exact e6 _ _ z
      · rw [upd_ne qp3]
        exact e6 _ _ hq5
    · rintro σ H4 ⟨z5, z6, z9, z10, as, rws, fs, rfl, hl, hfl, hfs, hrw, hN, e4, s4, _, _⟩
      refine ⟨_, rfl, ?_⟩
      rw [List.length_map] at hl hfl hrw s4
      have := Paired.length hT3.2
      rw [this, List.take_length] at hrw
      exact k as rws p3 H4 m2 w2 hmw ⟨rows1, rows2, hpr, htw, fs, sg, by omega, hql, hfs, hqs, hrw⟩ hN (by omega) e4 (s4.le (by omega))
-- DEF check_table

def sp_check_table (K : PySem.W.Frag) : Sp := fun vs H Q _ => ∃ (p : Addr) (as : List Addr) (rows : List (List Int)) (m w : Nat), vs = [.ref p] ∧ TabOk H p as rows m w ∧ ∀ H', Ex H H' → Q .non H'

theorem ok_check_table (T : Txt K mg) : FnOk P w K mg base CX0 4 T.f_check_table T.fd_check_table ["thing"] (sp_check_table K) := by
  refine Fun.ok T.F_check_table sc_check_table (fun vs H Q E h => ?_) (fun cdv A outer s H vs Q E hr h => ?_)
  · obtain ⟨_, _, _, _, _, rfl, _⟩ := h; rfl
  · refine ⟨_, (pss_one (ps_if (pt_not (pt_val (pe_call (ok_is_table T) hr (by rfl) T.g_is_table T.k_is_table T.b_is_table .nil pass0 (pa_cons (pv 0) pa_nil))))
        (pss_one ps_never)
        pss_nil)), ?_⟩
    obtain ⟨p, as, rows, m, w, rfl, hT, k⟩ := h
    exact ⟨_, rfl, p, as, rows, m, w, rfl, hT, fun H' e => ⟨true, rfl, iteF (k H' e)⟩⟩
-- DEF _law_net_drawn

def sp__law_net_drawn (K : PySem.W.Frag) : Sp := fun vs H Q _ => ∃ (s : Addr) (n : Int) (m w : Nat), vs = [.ref s, .int m, .int w] ∧ SrcAt H s n ∧ n ≤ 300000000 ∧ 1 ≤ m ∧ m ≤ 8 ∧ 1 ≤ w ∧ w ≤ 8 ∧
  ∀ (rs : List Addr) (rows : List (List Int)) (p : Addr) (H' : Hp), NewTab H H' p rs rows w 100 → rows.length = m → ExB s H H' → SrcAt H' s (n + 400) → Q (.ref p) H'

theorem ok__law_net_drawn (T : Txt K mg) : FnOk P w K mg base CX0 4 T.f__law_net_drawn T.fd__law_net_drawn ["_law_source", "_law_many", "_law_wide"] (sp__law_net_drawn K) := by
  refine Fun.ok T.F__law_net_drawn sc__law_net_drawn (fun vs H Q E h => ?_) (fun cdv A outer s H vs Q E hr h => ?_)
  · obtain ⟨_, _, _, _, rfl, _⟩ := h; rfl
  · refine ⟨_, (pss_cons (ps_setLc (i := 3) (own := [("_law_k", 4)]) (g := gName 4) (tt := tYes) rfl sc__law_net_drawn.nd rfl rfl (sw_true rfl rfl rfl (by decide +kernel)) (pi_range1 (by rfl) T.n_range (pa_cons (pv 2) pa_nil)) (blkOk_by (N := ["_law_source", "_law_many", "_law_wide", "_law_arcs", "_law_k"]) (sc := (defScope s__law_net_drawn)) (by decide +kernel)) (fun _ _ _ _ _ => pg_name (i := 4) sc__law_net_drawn.nd rfl (Or.inl rfl)) (fun _ _ _ _ _ => pts_nil) (fun _ _ _ _ _ => (pe_tup (pa_cons (pe_call (ok__law_next T) (hr.mono (by decide)) (by rfl) T.g__law_next T.k__law_next T.b__law_next .nil pass0 (pa_cons (pv 0) (pa_cons (pe_op op_add (pv 1) pe_int) pa_nil))) (pa_cons (pe_call (ok__law_next T) (hr.mono (by decide)) (by rfl) T.g__law_next T.k__law_next T.b__law_next .nil pass0 (pa_cons (pv 0) (pa_cons (pe_op op_add (pv 1) pe_int) pa_nil))) pa_nil)))))
      (pss_one (ps_ret (pe_call (ok__law_net T) (hr.mono (by decide)) (by rfl) T.g__law_net T.k__law_net T.b__law_net .nil pass0 (pa_cons (pe_call (ok__law_ends T) hr (by rfl) T.g__law_ends T.k__law_ends T.b__law_ends .nil pass0 (pa_cons (pv 0) (pa_cons (pv 1) pa_nil))) (pa_cons (pv 3) pa_nil)))))), ?_⟩
    obtain ⟨s, n, m, w, rfl, hs, hn, hm1, hm8, hw1, hw8, k⟩ := h
    refine ⟨_, rfl, _, rfl, by omega, by omega, fun D hD => ?_⟩
    have hDs : D ≠ s := hs.ne hD
    refine lc_range (lo := 0) (n := (w : Int).toNat) (fun i H' => ∃ (bs : List Addr) (qs : List (Int × Int)), H' D = some (.lst (bs.map V.ref)) ∧ EdgesAt H' bs qs ∧ qs.length = i ∧ ExB s H H' ∧ SrcAt H' s (n + 2 * i) ∧ ∀ e ∈ qs, 0 ≤ e.1 ∧ e.1 ≤ (m : Int) ∧ 0 ≤ e.2 ∧ e.2 ≤ (m : Int))
      ⟨[], [], upd_same, .nil, rfl, ExB.of (Ex.new hD), (hs.ex (Ex.new hD)).le (by omega), fun e he => by simp at he⟩ (fun i H1 hi p => ?_) (fun H1 p => ?_)
    · obtain ⟨bs, qs, h1, h2, h3, h4, h5, h6⟩ := p
      have bm : Bd 8000 ((m : Int) + 1) := by
        unfold Bd
        exact Nat.lt_of_lt_of_le (show ((m : Int) + 1).natAbs < 1024 by omega) (by decide +kernel)
      refine ⟨rfl, ?_⟩
      refine ⟨_, rfl, _, rfl, _, _, rfl, rfl, s, _, _, rfl, h5, by omega, by omega, bm, fun f H2 f0 f1 e2 s2 => ?_⟩
      refine ⟨_, rfl, _, rfl, _, _, rfl, rfl, s, _, _, rfl, s2, by omega, by omega, bm, fun g H3 g0 gl e3 s3 => ?_⟩
      refine ⟨(by show 2 ≤ sizeLine; decide), fun t nt => ?_⟩
      have xt : Ex H3 (upd H3 t (.tup [.int f, .int g])) := Ex.new nt
      have e13 := e2.trans e3
      have hD3 := e13 _ _ hDs h1
      have el : bs.length = i := by rw [Paired.length h2, h3]
      refine ⟨_, xt _ _ hD3, small1000 (by rw [List.length_map]; omega), bs ++ [t], qs ++ [(f, g)], ?_, ?_, ?_, ?_, ?_, ?_⟩
      · rw [upd_same, List.map_append]
        rfl
      · exact paired_imp (fun c d h => tups_U (xt _ _ hD3) _ _ h) (paired_snoc (EdgesAt.mono (fun c xs h => xt _ _ (tups_B h5 e13 _ _ h)) h2) (upd_same : upd H3 t (.tup [.int f, .int g]) t = some (.tup [.int f, .int g])))
      · rw [List.length_append, h3]
        rfl
      · refine fun b o nb h => ?_
        rw [upd_ne (ne_of_none h hD)]
        exact xt _ _ (e13 _ _ nb (h4 _ _ nb h))
      · obtain ⟨a1, a2, a3, a4, a5, a6, a7, a8⟩ := s3.ex xt
        exact ⟨a1, a2, a3, by rw [upd_ne hDs.symm]; exact a4, a5, a6, a7, by omega⟩
      · intro e he
        rcases List.mem_append.mp he with q | q
        · exact h6 e q
        · have : e = (f, g) := by simpa using q
          rw [this]
          exact ⟨f0, by omega, g0, by omega⟩
    · obtain ⟨bs, qs, h1, h2, h3, h4, h5, h6⟩ := p
      have h3' : qs.length = w := by rw [h3]; omega
      refine ⟨_, rfl, _, rfl, s, _, _, rfl, h5, by omega, by omega, by omega, fun as es p H2 l2 b2 c2 d2 e2 f2 g2' s2 => ?_⟩
      refine ⟨_, rfl, p, D, as, bs, es, qs, m, rfl, by omega, hm1, hm8, e2, d2, g2' _ _ hDs h1, EdgesAt.mono (tups_B h5 g2') h2, by omega, b2, h6, c2, fun rs rows p' H3 x1 x2 x3 x4 x5 x6 x7 x8 => ?_⟩
      have nt : NewTab H2 H3 p' rs rows w 100 := ⟨x1, x2, x3, x4, x6, fun r hr => by rw [← h3']; exact x8 r hr⟩
      exact k rs rows p' H3 (nt.back (h4.trans g2') s2.obj) x7 ((h4.trans g2').trans (ExB.of x5)) ((s2.ex x5).le (by omega))
-- DEF shape

def sp_shape (K : PySem.W.Frag) : Sp := fun vs H Q _ => ∃ (p : Addr) (as : List Addr) (rows : List (List Int)) (m w : Nat), vs = [.ref p] ∧ TabOk H p as rows m w ∧ ∀ t H', H t = none → Ex H H' → H' t = some (.tup [.int m, .int w]) → Q (.ref t) H'

theorem ok_shape (T : Txt K mg) : FnOk P w K mg base CX0 5 T.f_shape T.fd_shape ["table"] (sp_shape K) := by
  refine Fun.ok T.F_shape sc_shape (fun vs H Q E h => ?_) (fun cdv A outer s H vs Q E hr h => ?_)
  · obtain ⟨_, _, _, _, _, rfl, _⟩ := h; rfl
  · refine ⟨_, (pss_cons (ps_expr (pe_call (ok_check_table T) hr (by rfl) T.g_check_table T.k_check_table T.b_check_table .nil pass0 (pa_cons (pv 0) pa_nil)))
      (pss_one (ps_ret (pe_tup (pa_cons (pe_callB (id := "len") (r := rLenS K) call_len_seq (by rfl) T.n_len PySem.boot_len (pa_cons (pv 0) pa_nil)) (pa_cons (pe_callB (id := "len") (r := rLenS K) call_len_seq (by rfl) T.n_len PySem.boot_len (pa_cons (pe_ix (r := rIxL K) ix_list (pv 0) pe_int (fun _ _ => rfl)) pa_nil)) pa_nil)))))), ?_⟩
    obtain ⟨p, as, rows, m, w, rfl, hT, k⟩ := h
    refine ⟨_, rfl, p, as, rows, m, w, rfl, hT, fun H1 e1 => ?_⟩
    have hT1 := hT.ex e1
    obtain ⟨a0, r0, _, _, hh0, hl0, at0⟩ := hT1.row0
    refine s_retU (eu_tup (ea_cons (ev_is (ev_len (ev_var rfl) (SqL.of hT1.tab.1)) (by rw [List.length_map, hT.al])) (ea_cons (ev_is (ev_len (ev_op (ev_var rfl) ev_c (rv_ixL (SqL.of hT1.tab.1) at0)) (SqL.of hh0)) (by rw [List.length_map, hl0])) ea_nil)) (Nat.le_of_ble_eq_true rfl)) fun t H2 nt e2 ht => k t H2 (fresh_back e1 nt) (e1.trans e2) ht
-- DEF _law_table

def sp__law_table (K : PySem.W.Frag) : Sp := fun vs H Q _ => ∃ (s : Addr) (n : Int) (most : Nat), vs = [.ref s, .int most] ∧ SrcAt H s n ∧ n ≤ 100000000 ∧ 1 ≤ most ∧ most ≤ 8 ∧
  ∀ (rs : List Addr) (rows : List (List Int)) (p : Addr) (H' : Hp) (m w : Nat), 1 ≤ m → m ≤ most → 1 ≤ w → w ≤ most → NewTab H H' p rs rows w (10 ^ 30) → rows.length = m → ExB s H H' → SrcAt H' s (n + 1000) → Q (.ref p) H'

theorem ok__law_table (T : Txt K mg) : FnOk P w K mg base CX0 5 T.f__law_table T.fd__law_table ["_law_source", "_law_most"] (sp__law_table K) := by
  refine Fun.ok T.F__law_table sc__law_table (fun vs H Q E h => ?_) (fun cdv A outer s H vs Q E hr h => ?_)
  · obtain ⟨_, _, _, rfl, _⟩ := h; rfl
  · refine ⟨_, (pss_cut (ps_set (i := 2) sc__law_table.nd rfl (by first | exact Or.inl rfl | exact Or.inr rfl) (pe_op op_add pe_int (pe_call (ok__law_next T) (hr.mono (by decide)) (by rfl) T.g__law_next T.k__law_next T.b__law_next .nil pass0 (pa_cons (pv 0) (pa_cons (pv 1) pa_nil)))))
      (pss_cut (ps_set (i := 3) sc__law_table.nd rfl (by first | exact Or.inl rfl | exact Or.inr rfl) (pe_op op_add pe_int (pe_call (ok__law_next T) (hr.mono (by decide)) (by rfl) T.g__law_next T.k__law_next T.b__law_next .nil pass0 (pa_cons (pv 0) (pa_cons (pv 1) pa_nil)))))
      (pss_cut (ps_set (i := 4) sc__law_table.nd rfl (by first | exact Or.inl rfl | exact Or.inr rfl) (pe_call (ok__law_next T) (hr.mono (by decide)) (by rfl) T.g__law_next T.k__law_next T.b__law_next .nil pass0 (pa_cons (pv 0) (pa_cons pe_int pa_nil))))
      (pss_cut (ps_if (pt_cmpR op_lt (pv 4) pe_int (nomark _))
        (pss_one (ps_setLc (i := 5) (own := [("_law_row", 7)]) (g := gName 7) (tt := tYes) rfl sc__law_table.nd rfl rfl (sw_true rfl rfl rfl (by decide +kernel)) (pi_range1 (by rfl) T.n_range (pa_cons (pv 2) pa_nil)) (blkOk_by (N := ["_law_source", "_law_most", "_law_many", "_law_wide", "_law_kind", "_law_grid", "_law_k", "_law_row"]) (sc := (defScope s__law_table)) (by decide +kernel)) (fun _ _ _ _ _ => pg_name (i := 7) sc__law_table.nd rfl (Or.inl rfl)) (fun _ _ _ _ _ => pts_nil) (fun _ _ _ _ _ => (pe_lc (own := [("_law_k", 6)]) (g := gName 6) (tt := tYes) rfl sc__law_table.nd (pi_range1 (by rfl) T.n_range (pa_cons (pv 3) pa_nil)) (blkOk_by (N := ["_law_source", "_law_most", "_law_many", "_law_wide", "_law_kind", "_law_grid", "_law_k", "_law_row"]) (sc := (relS ({ kind := .function, names := [(".0", .local), ("_law_row", .local), ("range", .globalImplicit), ("_law_source", .free), ("_law_wide", .free)], isGenerator := false, isCoroutine := false } : Scope) (defScope s__law_table))) (by decide +kernel)) (fun _ _ _ _ _ => pg_name (i := 6) sc__law_table.nd rfl (Or.inl rfl)) (fun _ _ _ _ _ => pts_nil) (fun _ _ _ _ _ => (pe_op op_sub (pe_call (ok__law_next T) (hr.mono (by decide)) (by rfl) T.g__law_next T.k__law_next T.b__law_next .nil pass0 (pa_cons (pv 0) (pa_cons pe_int pa_nil))) pe_int))))))
        (pss_one (ps_if (pt_cmpR op_lt (pv 4) pe_int (nomark _))
            (pss_one (ps_set (i := 5) sc__law_table.nd rfl (by first | exact Or.inl rfl | exact Or.inr rfl) (pe_call (ok__law_net_drawn T) hr (by rfl) T.g__law_net_drawn T.k__law_net_drawn T.b__law_net_drawn .nil pass0 (pa_cons (pv 0) (pa_cons (pv 2) (pa_cons (pv 3) pa_nil))))))
            (pss_one (ps_set (i := 5) sc__law_table.nd rfl (by first | exact Or.inl rfl | exact Or.inr rfl) (pe_call (ok__law_stretches T) (hr.mono (by decide)) (by rfl) T.g__law_stretches T.k__law_stretches T.b__law_stretches .nil pass0 (pa_cons (pv 0) (pa_cons (pv 2) (pa_cons (pv 3) pa_nil)))))))))
      (pss_cut (ps_if (pt_cmpR op_eq (pe_call (ok__law_next T) (hr.mono (by decide)) (by rfl) T.g__law_next T.k__law_next T.b__law_next .nil pass0 (pa_cons (pv 0) (pa_cons pe_int pa_nil))) pe_int (nomark _))
        (pss_one (ps_set (i := 5) sc__law_table.nd rfl (by first | exact Or.inl rfl | exact Or.inr rfl) (pe_call (ok__law_swung T) (hr.mono (by decide)) (by rfl) T.g__law_swung T.k__law_swung T.b__law_swung .nil pass0 (pa_cons (pv 0) (pa_cons (pv 5) pa_nil)))))
        pss_nil)
      (pss_cons (ps_for PassesOwn.never rfl (pi_range1 (by rfl) T.n_range (pa_cons (pe_call (ok__law_one T) (hr.mono (by decide)) (by rfl) T.g__law_one T.k__law_one T.b__law_one .nil pass0 (pa_cons (pv 0) (pa_cons (pe_lst (pa_cons pe_int (pa_cons pe_int (pa_cons pe_int (pa_cons pe_int pa_nil))))) pa_nil))) pa_nil)) (pg_name (i := 6) sc__law_table.nd rfl (by first | exact Or.inl rfl | exact Or.inr rfl))
        (pss_cut (ps_set (i := 7) sc__law_table.nd rfl (by first | exact Or.inl rfl | exact Or.inr rfl) (pe_ix (r := rIxL K) ix_list (pv 5) (pe_call (ok__law_next T) (hr.mono (by decide)) (by rfl) T.g__law_next T.k__law_next T.b__law_next .nil pass0 (pa_cons (pv 0) (pa_cons (pe_callB (id := "len") (r := rLenS K) call_len_seq (by rfl) T.n_len PySem.boot_len (pa_cons (pv 5) pa_nil)) pa_nil))) (fun _ _ => rfl)))
          (pss_one (ps_asg (pe_call (ok__law_one T) (hr.mono (by decide)) (by rfl) T.g__law_one T.k__law_one T.b__law_one .nil pass0 (pa_cons (pv 0) (pa_cons (pe_lst (pa_cons pe_int (pa_cons (pe_un un_neg pe_int) (pa_cons pe_int (pa_cons pe_int (pa_cons (pe_un un_neg pe_int) (pa_cons pe_int (pa_cons pe_int (pa_cons (pe_un un_neg pe_int) (pa_cons (pe_op op_pow pe_int pe_int) pa_nil)))))))))) pa_nil))) (pg_sub (pv 7) (pe_call (ok__law_next T) (hr.mono (by decide)) (by rfl) T.g__law_next T.k__law_next T.b__law_next .nil pass0 (pa_cons (pv 0) (pa_cons (pe_callB (id := "len") (r := rLenS K) call_len_seq (by rfl) T.n_len PySem.boot_len (pa_cons (pv 7) pa_nil)) pa_nil))) set_list)))))
      (pss_one (ps_ret (pv 5))))))))), ?_⟩
    obtain ⟨s, n, most, rfl, hs, hn, hm1, hm8, k⟩ := h
    have bmost : Bd 8000 (most : Int) := by
      unfold Bd
      exact Nat.lt_of_lt_of_le (show ((most : Int)).natAbs < 1024 by omega) (by decide +kernel)
    -- many, wide, kind
    refine ⟨fun σ' H1 => ∃ m : Nat, σ' = [some (.ref s), some (.int most), some (.int m), none, none, none, none, none] ∧ 1 ≤ m ∧ m ≤ most ∧ ExB s H H1 ∧ SrcAt H1 s (n + 1), ?_, ?_⟩
    · refine ⟨_, rfl, _, rfl, s, _, n, rfl, hs, by omega, by omega, bmost, fun f H1 f0 f1 e1 s1 => ⟨_, _, rfl, rfl, (1 + f).toNat, ?_, by omega, by omega, e1, s1⟩⟩
      have : (((1 + f).toNat : Nat) : Int) = 1 + f := by omega
      rw [this]
      rfl
    rintro σ' H1 ⟨m, rfl, m1, m2, e1, s1⟩
    refine ⟨fun σ' H2 => ∃ w : Nat, σ' = [some (.ref s), some (.int most), some (.int m), some (.int w), none, none, none, none] ∧ 1 ≤ w ∧ w ≤ most ∧ ExB s H H2 ∧ SrcAt H2 s (n + 2), ?_, ?_⟩
    · refine ⟨_, rfl, _, rfl, s, _, _, rfl, s1, by omega, by omega, bmost, fun f H2 f0 f1 e2 s2 => ⟨_, _, rfl, rfl, (1 + f).toNat, ?_, by omega, by omega, e1.trans e2, s2.le (by omega)⟩⟩
      have : (((1 + f).toNat : Nat) : Int) = 1 + f := by omega
      rw [this]
      rfl
    rintro σ' H2 ⟨w, rfl, w1, w2, e2, s2⟩
    refine ⟨fun σ' H3 => ∃ f : Int, σ' = [some (.ref s), some (.int most), some (.int m), some (.int w), some (.int f), none, none, none] ∧ ExB s H H3 ∧ SrcAt H3 s (n + 3), ?_, ?_⟩
    · exact ⟨_, rfl, s, 8, _, rfl, s2, by omega, by decide, (by unfold Bd; decide +kernel), fun f H3 f0 f1 e3 s3 => ⟨f, rfl, e2.trans e3, s3.le (by omega)⟩⟩
    rintro σ' H3 ⟨f, rfl, e3, s3⟩
    clear e1 s1 e2 s2
    -- the table
    refine ⟨fun σ' H4 => ∃ (y6 y7 : Option V) (p : Addr) (as : List Addr) (rows : List (List Int)), σ' = [some (.ref s), some (.int most), some (.int m), some (.int w), some (.int f), some (.ref p), y6, y7] ∧ NewTab H H4 p as rows w 100 ∧ rows.length = m ∧ ExB s H H4 ∧ SrcAt H4 s (n + 403), ?_, ?_⟩
    · refine ⟨_, rfl, _, _, rfl, rfl, _, rfl, ?_⟩
      refine ite2 (fun _ => ?_) (fun _ => ?_)
      · -- drawn
        refine ⟨_, rfl, _, rfl, by omega, by omega, fun D hD => ?_⟩
        have hDs : D ≠ s := s3.ne hD
        have hDH : H D = none := fresh_B e3 hD s3.obj
        refine lc_range (lo := 0) (n := (m : Int).toNat) (fun i H' => ∃ as rows, NewTab H H' D as rows w 100 ∧ rows.length = i ∧ ExB s H H' ∧ SrcAt H' s (n + 3 + 10 * i)) ⟨[], [], NewTab.new hDH upd_same, rfl, e3.trans (ExB.of (Ex.new hD)), (s3.ex (Ex.new hD)).le (by omega)⟩ (fun i H4 hi p => ?_) (fun H4 p => ?_)
        · obtain ⟨as, rows, hN, hl, e4, s4⟩ := p
          have al : as.length = i := by rw [Paired.length hN.tab.2, hl]
          refine ⟨rfl, ?_⟩
          dsimp only [tYes]
          rw [if_pos rfl]
          refine lc_draw (s := s) (n := n + 3 + 10 * i) (m := w) (fun x => x.natAbs ≤ 100) (ea_cons (ev_var rfl) ea_nil) (by omega) s4 (fun u => rfl) (fun j H5 e5 hj s5 Q1 kq => ?_) (fun r ns H5 nr e5 s5 hr hln hP => ?_)
          · exact ⟨_, rfl, s, 3, _, rfl, s5, by omega, by decide, (by unfold Bd; decide +kernel), fun g H6 g0 g1 e6 s6 => ⟨_, _, rfl, rfl, kq (g - 1) H6 (by omega) e6 s6⟩⟩
          · have N5 := hN.exB e5 hs.obj
            have nr0 : H r = none := fresh_B e4 nr s4.obj
            have nrD : r ≠ D := fun z => by
              rw [z, hN.tab.1] at nr
              cases nr
            have nra : r ∉ as := fun ha => by
              obtain ⟨x, _, hx⟩ := paired_mem hN.tab.2 ha
              rw [nr] at hx
              cases hx
            refine ⟨_, N5.tab.1, small1000 (by rw [List.length_map]; omega), as ++ [r], rows ++ [ns], ?_, ?_, ?_, ?_⟩
            · refine ⟨hDH, fun a ha => ?_, ?_, ?_, ⟨?_, ?_⟩, fun x hx => ?_⟩
              · rcases List.mem_append.mp ha with q | q
                · exact hN.a0 a q
                · rw [show a = r by simpa using q]
                  exact nr0
              · refine List.nodup_append.mpr ⟨hN.nd, by simp, fun a ha b hb z => ?_⟩
                have : b = r := by simpa using hb
                exact nra (by rw [← this, ← z]; exact ha)
              · intro ha
                rcases List.mem_append.mp ha with q | q
                · exact hN.np q
                · exact nrD (by simpa using q : D = r).symm
              · rw [upd_same, List.map_append]
                rfl
              · refine paired_snoc (rows_but N5.tab.2 fun a ha o g => ?_) ?_
                · rw [upd_ne (fun z => hN.np (by rw [← z]; exact ha))]
                  exact g
                · rw [upd_ne nrD]
                  exact hr
              · rcases List.mem_append.mp hx with q | q
                · exact hN.ok x q
                · rw [show x = ns by simpa using q]
                  exact ⟨hln, hP⟩
            · rw [List.length_append, hl]
              rfl
            · refine fun b o nb h => ?_
              rw [upd_ne (ne_of_none h hDH)]
              exact e5 _ _ nb (e4 _ _ nb h)
            · obtain ⟨a1, a2, a3, a4, a5, a6, a7, a8⟩ := s5
              exact ⟨a1, a2, a3, by rw [upd_ne hDs.symm]; exact a4, a5, a6, a7, by omega⟩
        · obtain ⟨as, rows, hN, hl, e4, s4⟩ := p
          exact ⟨_, _, D, as, rows, rfl, hN, by omega, e4, s4.le (by omega)⟩
      · refine ⟨_, rfl, _, _, rfl, rfl, _, rfl, ?_⟩
        refine ite2 (fun _ => ?_) (fun _ => ?_)
        · refine ⟨_, rfl, _, rfl, _, rfl, s, _, m, w, rfl, s3, by omega, by omega, by omega, by omega, by omega, fun rs rows p H4 hN hl e4 s4 => ?_⟩
          exact ⟨_, _, p, rs, rows, rfl, hN.back e3 s3.obj, hl, e3.trans e4, s4.le (by omega)⟩
        · refine ⟨_, rfl, _, rfl, _, rfl, s, _, m, w, rfl, s3, by omega, by omega, by omega, by omega, by omega, fun rs rows p H4 hN hl e4 s4 => ?_⟩
          exact ⟨_, _, p, rs, rows, rfl, hN.back e3 s3.obj, hl, e3.trans e4, s4.le (by omega)⟩
    rintro σ' H4 ⟨y6, y7, p, as, rows, rfl, hN, hl, e4, s4⟩
    -- perhaps swung
    have nin : ∀ {a : Addr}, H a = none → a ≠ s := fun h => hs.ne h
    refine ⟨fun σ' H5 => ∃ (p : Addr) (as : List Addr) (rows : List (List Int)) (m' w' : Nat), σ' = [some (.ref s), some (.int most), some (.int m), some (.int w), some (.int f), some (.ref p), y6, y7] ∧ 1 ≤ m' ∧ m' ≤ most ∧ 1 ≤ w' ∧ w' ≤ most ∧ NewTab H H5 p as rows w' 100 ∧ rows.length = m' ∧ ExB s H H5 ∧ SrcAt H5 s (n + 604), ?_, ?_⟩
    · refine ⟨_, rfl, s, 2, _, rfl, s4, by omega, by decide, (by unfold Bd; decide +kernel), fun g H5 g0 g1 e5 s5 => ⟨rfl, _, rfl, ?_⟩⟩
      have N5 := hN.exB e5 hs.obj
      refine ite2 (fun _ => ?_) (fun _ => ?_)
      · refine ⟨_, rfl, _, rfl, s, p, _, as, rows, m, w, 100, rfl, s5, by omega, nin hN.p0, fun a ha => nin (hN.a0 a ha), N5.tab, hl, hN.ok, by decide, by omega, by omega, by omega, by omega, fun rs rows' p' H6 m' w' hmw _ hN' hl' e6 s6 => ?_⟩
        refine ⟨p', rs, rows', m', w', rfl, ?_, ?_, ?_, ?_, hN'.back (e4.trans e5) s5.obj, hl', (e4.trans e5).trans e6, s6.le (by omega)⟩ <;> rcases hmw with ⟨rfl, rfl⟩ | ⟨rfl, rfl⟩ <;> omega
      · exact ⟨p, as, rows, m, w, rfl, m1, m2, w1, w2, N5, hl, e4.trans e5, s5.le (by omega)⟩
    rintro σ' H5 ⟨p, as, rows, m', w', rfl, m1', m2', w1', w2', hN5, hl5, e5, s5⟩
    clear hN hl e4 s4
    have hN5 := hN5.mono (show 100 ≤ 10 ^ 30 by decide)
    -- other entries
    refine ⟨_, rfl, (by show 4 ≤ sizeLine; decide), fun l nl => ?_⟩
    have xl : Ex H5 (upd H5 l (.lst [.int 0, .int 0, .int 1, .int 2])) := Ex.new nl
    refine ⟨s, l, _, _, rfl, s5.ex xl, by omega, s5.ne nl, SqL.of upd_same, by decide, Nat.le_of_ble_eq_true rfl, fun v hv H6 e6 s6 => ?_⟩
    obtain ⟨c, rfl, hc0, hc2⟩ : ∃ c : Int, v = .int c ∧ 0 ≤ c ∧ c ≤ 2 := by
      simp only [List.mem_cons, List.not_mem_nil, or_false] at hv
      rcases hv with rfl | rfl | rfl | rfl
      · exact ⟨0, rfl, by decide, by decide⟩
      · exact ⟨0, rfl, by decide, by decide⟩
      · exact ⟨1, rfl, by decide, by decide⟩
      · exact ⟨2, rfl, by decide, by decide⟩
    have N6 := (hN5.ex xl).exB e6 hs.obj
    have e06 := (e5.trans (ExB.of xl)).trans e6
    clear xl nl
    refine ⟨_, rfl, by omega, by omega, for_range (lo := 0) (n := c.toNat) (fun i σ H' => ∃ (y6 y7 : Option V) (rows : List (List Int)), σ = [some (.ref s), some (.int most), some (.int m), some (.int w), some (.int f), some (.ref p), y6, y7] ∧ NewTab H H' p as rows w' (10 ^ 30) ∧ rows.length = m' ∧ ExB s H H' ∧ SrcAt H' s (n + 605 + 3 * i)) ⟨_, _, rows, rfl, N6, hl5, e06, s6.le (by omega)⟩ ?_ ?_⟩
    · rintro i σ H7 hi ⟨z6, z7, rows7, rfl, hN7, hl7, e7, s7⟩
      have al : as.length = m' := by rw [Paired.length hN7.tab.2, hl7]
      have i2 : i < 2 := by omega
      refine ⟨fun σ' H8 => ∃ (kk : Nat) (x : Addr) (row : List Int), σ' = [some (.ref s), some (.int most), some (.int m), some (.int w), some (.int f), some (.ref p), some (.int (0 + (i : Int))), some (.ref x)] ∧ as[kk]? = some x ∧ rows7[kk]? = some row ∧ ExB s H7 H8 ∧ SrcAt H8 s (n + 605 + 3 * i + 1), ?_, ?_⟩
      · refine ⟨_, rfl, _, rfl, _, rfl, p, _, rfl, .inl (SqL.of hN7.tab.1), s, _, _, rfl, s7, by omega, (by rw [List.length_map]; omega), ?_, fun g H8 g0 g1 e8 s8 => ?_⟩
        · unfold Bd
          exact Nat.lt_of_lt_of_le (show (((as.map V.ref).length : Nat) : Int).natAbs < 1024 by rw [List.length_map]; omega) (by decide +kernel)
        · rw [List.length_map] at g1
          obtain ⟨x, hx⟩ : ∃ x, as[g.toNat]? = some x := ⟨_, List.getElem?_eq_getElem (by omega)⟩
          obtain ⟨row, hrow, _⟩ := paired_get hN7.tab.2 hx
          have N8 := hN7.exB e8 hs.obj
          exact ⟨p, _, _, _, rfl, rfl, SqL.of N8.tab.1, at_of (j := g.toNat) (by omega) (by rw [List.getElem?_map, hx]; rfl), g.toNat, x, row, rfl, hx, hrow, e8, s8⟩
      rintro σ' H8 ⟨kk, x, row, rfl, hx, hrow, e8, s8⟩
      have N8 := hN7.exB e8 hs.obj
      have nxs : x ≠ s := nin (hN7.a0 x (List.mem_of_getElem? hx))
      have o := hN7.ok row (List.mem_of_getElem? hrow)
      have hxr : H8 x = some (.lst (row.map V.int)) := by
        obtain ⟨r', hr', hh⟩ := paired_get N8.tab.2 hx
        rw [hrow] at hr'
        rw [Option.some.inj hr']
        exact hh
      refine ⟨_, rfl, _, rfl, _, rfl, _, rfl, _, _, rfl, rfl, ⟨by decide, by decide, by decide⟩, (by show 9 ≤ sizeLine; decide), fun l nl => ?_⟩
      have xl : Ex H8 (upd H8 l (.lst [.int 1, .int (-1), .int 0, .int 1, .int (-1), .int 0, .int 2, .int (-3), .int (10 ^ (30 : Int).toNat)])) := Ex.new nl
      refine ⟨s, l, _, _, rfl, s8.ex xl, by omega, s8.ne nl, SqL.of upd_same, by decide, Nat.le_of_ble_eq_true rfl, fun v hv H9 e9 s9 => ?_⟩
      obtain ⟨y, rfl, hy⟩ : ∃ y : Int, v = .int y ∧ y.natAbs ≤ 10 ^ 30 := by
        simp only [List.mem_cons, List.not_mem_nil, or_false] at hv
        rcases hv with rfl | rfl | rfl | rfl | rfl | rfl | rfl | rfl | rfl <;> exact ⟨_, rfl, by decide +kernel⟩
      have x9 := e9 _ _ nxs (xl _ _ hxr)
      refine ⟨_, rfl, _, rfl, _, rfl, x, _, rfl, .inl (SqL.of x9), s, _, _, rfl, s9, by omega, (by rw [List.length_map, o.1]; omega), ?_, fun g HA g0 g1 eA sA => ?_⟩
      · unfold Bd
        exact Nat.lt_of_lt_of_le (show (((row.map V.int).length : Nat) : Int).natAbs < 1024 by rw [List.length_map, o.1]; omega) (by decide +kernel)
      · rw [List.length_map] at g1
        have e8A := (e8.trans (ExB.of xl)).trans (e9.trans eA)
        have NA := hN7.exB e8A hs.obj
        have ix : ixN (row.map V.int).length g = some g.toNat := by
          have := Evl.ixN_nat (n := (row.map V.int).length) (j := g.toNat) (by rw [List.length_map]; omega)
          rw [← this]
          congr 1
          omega
        refine ⟨x, _, g, g.toNat, rfl, rfl, eA _ _ nxs x9, ix, ?_⟩
        refine ⟨_, _, rows7.set kk (row.set g.toNat y), rfl, NA.set hx hrow hy, by rw [List.length_set]; exact hl7, ?_, ?_⟩
        · refine fun b o' nb h => ?_
          rw [upd_ne (ne_of_none h (hN7.a0 x (List.mem_of_getElem? hx)))]
          exact e8A _ _ nb (e7 _ _ nb h)
        · obtain ⟨a1, a2, a3, a4, a5, a6, a7, a8⟩ := sA
          exact ⟨a1, a2, a3, by rw [upd_ne nxs.symm]; exact a4, a5, a6, a7, by omega⟩
    · rintro σ H7 ⟨z6, z7, rows7, rfl, hN7, hl7, e7, s7⟩
      refine ⟨_, rfl, ?_⟩
      exact k as rows7 p H7 m' w' m1' m2' w1' w2' hN7 hl7 e7 (s7.le (by omega))
-- DEF determinant
def sp_determinant (K : PySem.W.Frag) : Sp := fun vs H Q _ => ∃ (p : Addr) (as : List Addr) (rows : List (List Int)) (m w b : Nat), vs = [.ref p] ∧ TabOk H p as rows m w ∧ 0 < b ∧ (∀ r ∈ rows, ∀ y ∈ r, Bd b y) ∧ (b + 1) * 2 ^ (m - 2) ≤ 9000 ∧
  (m = w ∧ ∀ (d : Int) H', ((d : Int) : Rat) = Dt.det m (Dt.mx rows) → Bd 40002 d → Ex H H' → Q (.int d) H')

theorem ok_determinant (T : Txt K mg) : FnOk P w K mg base CX0 6 T.f_determinant T.fd_determinant ["table"] (sp_determinant K) := by
  refine Fun.ok T.F_determinant sc_determinant (fun vs H Q E h => ?_) (fun cdv A outer s H vs Q E hr h => ?_)
  · obtain ⟨_, _, _, _, _, _, rfl, _⟩ := h; rfl
  · refine ⟨_, (pss_cons (ps_asg (pe_call (ok_shape T) hr (by rfl) T.g_shape T.k_shape T.b_shape .nil pass0 (pa_cons (pv 0) pa_nil)) (pg_tup rfl (pgs_cons (pg_name (i := 1) sc_determinant.nd rfl (by first | exact Or.inl rfl | exact Or.inr rfl)) (pgs_cons (pg_name (i := 2) sc_determinant.nd rfl (by first | exact Or.inl rfl | exact Or.inr rfl)) pgs_nil))))
      (pss_cons (ps_if (pt_cmpR op_ne (pv 1) (pv 2) (nomark _))
        (pss_one ps_never)
        pss_nil)
      (pss_one (ps_ret (pe_call (ok_square_value T) (hr.mono (by decide)) (by rfl) T.g_square_value T.k_square_value T.b_square_value .nil pass0 (pa_cons (pv 0) pa_nil)))))), ?_⟩
    obtain ⟨p, as, rows, m, w, b, rfl, hT, hb0, hb, hbits, k⟩ := h
    refine ⟨_, rfl, p, as, rows, m, w, rfl, hT, fun t H1 nt e1 ht => ?_⟩
    refine ⟨t, _, rfl, SqT.of ht, rfl, _, _, rfl, _, _, rfl, rfl, ?_⟩
    dsimp only
    refine q_when (σ := [some (.ref p), some (.int m), some (.int w)]) (H := H1) (b := !decide (V.int (m : Int) = V.int (w : Int))) (et_test (ev_op (ev_var (i := 1) rfl) (ev_var (i := 2) rfl) (rv_ne rfl))) (fun z H2 e2 => ?_) (fun z H2 e2 => ?_)
    · obtain ⟨c, _⟩ := k
      rw [decide_eq_true (by rw [c])] at z
      cases z
    · obtain ⟨c, k⟩ := k
      subst c
      exact ⟨_, rfl, p, as, rows, m, b, rfl, hT.ex (e1.trans e2), hb0, hb, hbits, fun d H3 hd bd e3 => k d H3 hd bd ((e1.trans e2).trans e3)⟩
-- DEF bad_square
theorem ev_min2 {ta tb : TE} {σ : L2.St} {H : Hp} {i j : Int} (ha : Ev ta σ H (.int i)) (hb : Ev tb σ H (.int j)) : Ev (tCB (fun xs H Q => ∃ i j, xs = [.int i, .int j] ∧ Q (.int (if j < i then j else i)) H) (tCons ta (tCons tb tNil))) σ H (.int (if j < i then j else i)) := fun H1 e Q q =>
  ha H1 e _ fun H2 e2 => hb H2 (e.trans e2) _ fun H3 e3 => ⟨i, j, rfl, q H3 (e2.trans e3)⟩

theorem e_pairUU {ta tb : TE} {σ : L2.St} {H : Hp} {xs ys : List V} (h1 : EvU ta σ H xs) (h2 : EvU tb σ H ys) (Q : VK) (k : ∀ p q t H1, H t = none → Ex H H1 → H1 p = some (.tup xs) → H1 q = some (.tup ys) → H1 t = some (.tup [.ref p, .ref q]) → Q (.ref t) H1) : tTup (tCons ta (tCons tb tNil)) σ H Q :=
  h1 H (Ex.refl H) _ fun p H1 np e1 hp => h2 H1 e1 _ fun q H2 nq e2 hq => ⟨(by show 2 ≤ sizeLine; decide), fun t nt => by
    have x2 := Ex.new (o := .tup [V.ref p, .ref q]) nt
    exact k p q t _ (fresh_back (e1.trans e2) nt) ((e1.trans e2).trans x2) (x2 _ _ (e2 _ _ hp)) (x2 _ _ hq) upd_same⟩
theorem s_ret3 {ta tb tc : TE} {D : Ends} {σ : L2.St} {H : Hp} {xs ys : List V} {v : V} (h1 : EvL ta σ H xs) (h2 : EvL tb σ H ys) (h3 : Ev tc σ H v) (k : ∀ p q t H1, H p = none → H q = none → p ≠ q → Ex H H1 → H1 p = some (.lst xs) → H1 q = some (.lst ys) → H1 t = some (.tup [.ref p, .ref q, v]) → D.rt (.ref t) H1) : tRet (tTup (tCons ta (tCons tb (tCons tc tNil)))) D σ H :=
  h1 H (Ex.refl H) _ fun p H1 np e1 hp => h2 H1 e1 _ fun q H2 nq e2 hq => h3 H2 (e1.trans e2) _ fun H3 e3 => ⟨(by show 3 ≤ sizeLine; decide), fun t nt => by
    have x2 := Ex.new (o := .tup [V.ref p, .ref q, v]) nt
    have pq : p ≠ q := fun z => by
      rw [← z, hp] at nq
      cases nq
    exact k p q t _ np (fresh_back e1 nq) pq (((e1.trans e2).trans e3).trans x2) (x2 _ _ (e3 _ _ (e2 _ _ hp))) (x2 _ _ (e3 _ _ hq)) upd_same⟩
theorem el_listT {K : PySem.W.Frag} {te : TE} {σ : L2.St} {H : Hp} {a : Addr} {xs : List V} (h : Ev te σ H (.ref a)) (hx : H a = some (.tup xs)) : EvL (tCB (rListS K) (tCons te tNil)) σ H xs := fun H1 e Q q =>
  h H1 e _ fun H2 e2 => ⟨a, xs, rfl, .inr (SqT.of ((e.trans e2) _ _ hx)), fun l nl => q l _ (fresh_back e2 nl) (e2.trans (Ex.new nl)) upd_same⟩
section
variable {K : PySem.W.Frag} {P : Program} {w : World} {H : Hp} {g : Addr} {L : DN.Tb} {o : HO}
mutual
theorem is_put (hg : H g = some (DN.O P w g L)) : ∀ {k : NestedKey} {v : V}, DN.Is K H k v → DN.Is K (upd H g o) k v
  | _, _, .num i => .num i
  | _, _, .tup a b => .tup (by
      rcases a with a | a
      · refine .inl ?_
        rcases a with a | ⟨ob, a⟩
        · exact .inl (by rw [upd_ne (fun z => by rw [z, hg] at a; cases a)]; exact a)
        · exact .inr ⟨ob, by rw [upd_ne (fun z => by rw [z, hg] at a; cases a)]; exact a⟩
      · exact .inr a) (all_put hg b)
theorem all_put (hg : H g = some (DN.O P w g L)) : ∀ {ks : List NestedKey} {vs : List V}, DN.All K H ks vs → DN.All K (upd H g o) ks vs
  | _, _, .nil => .nil
  | _, _, .cons a b => .cons (is_put hg a) (all_put hg b)
end
end
/-- the table holds the values of these squares -/
def Holds (R : List (List Int)) (L : DN.Tb) (xs : List (List Nat × List Nat)) : Prop := Paired (fun (e : NestedKey × Addr × Int) (x : List Nat × List Nat) => e.1 = keyS x.1 x.2 ∧ e.2.2 = Bs.val R x.1 x.2) L xs
theorem holds_in {R : List (List Int)} {x : List Nat × List Nat} : ∀ {L : DN.Tb} {xs : List (List Nat × List Nat)}, Holds R L xs → x ∈ xs → DN.find L (keyS x.1 x.2) = some (Bs.val R x.1 x.2)
  | _, _, .nil, h => nomatch h
  | e :: L, y :: xs, .cons ⟨h1, h2⟩ t, h => by
    unfold DN.find
    rw [List.find?_cons]
    by_cases c : e.1 = keyS x.1 x.2
    · rw [decide_eq_true c]
      obtain ⟨e1, e2⟩ := keyS_inj (h1.symm.trans c)
      show some e.2.2 = _
      rw [h2, e1, e2]
    · rw [decide_eq_false c]
      have hm : x ∈ xs := (List.mem_cons.mp h).resolve_left fun z => c (by rw [h1, z])
      exact holds_in t hm
theorem holds_out {R : List (List Int)} {x : List Nat × List Nat} : ∀ {L : DN.Tb} {xs : List (List Nat × List Nat)}, Holds R L xs → x ∉ xs → DN.find L (keyS x.1 x.2) = none
  | _, _, .nil, _ => rfl
  | e :: L, y :: xs, .cons ⟨h1, h2⟩ t, h => by
    unfold DN.find
    rw [List.find?_cons]
    have c : ¬ e.1 = keyS x.1 x.2 := fun c => by
      obtain ⟨e1, e2⟩ := keyS_inj (h1.symm.trans c)
      exact h (by rw [show x = y from Prod.ext e1.symm e2.symm]; exact List.mem_cons_self ..)
    rw [decide_eq_false c]
    exact holds_out t fun z => h (List.mem_cons_of_mem _ z)
def BadAt (R : List (List Int)) (H0 H : Hp) (v : V) : Option (List Nat × List Nat) → Prop
  | none => v = .non
  | some x => ∃ t a b, v = .ref t ∧ H t = some (.tup [.ref a, .ref b, .int (Bs.val R x.1 x.2)]) ∧ H a = some (.lst ((Sg.zs x.1).map V.int)) ∧ H b = some (.lst ((Sg.zs x.2).map V.int)) ∧ H0 a = none ∧ H0 b = none ∧ a ≠ b
theorem pickV_zs (n : Nat) (l : List Nat) (h : ∀ x ∈ l, x < n) : CbL.pickV ((List.range n).map fun (i : Nat) => V.int (i : Int)) l = (Sg.zs l).map V.int := by
  unfold CbL.pickV Sg.zs
  rw [List.map_map]
  refine List.map_congr_left fun x hx => ?_
  rw [List.getElem?_map, List.getElem?_range (h x hx)]
  rfl
theorem sqs_len (m w s : Nat) (h1 : m ≤ 8) (h2 : w ≤ 8) : ∀ i j, (Bs.upto m w s i j).length ≤ 66000 := fun i j => by
  have a1 : (Cb.all m s).length ≤ 256 := Nat.le_trans (Cb.all_count m s m 0 (by omega)) (Nat.le_trans (Nat.pow_le_pow_right (by decide) h1) (by decide))
  have a2 : (Cb.all w s).length ≤ 256 := Nat.le_trans (Cb.all_count w s w 0 (by omega)) (Nat.le_trans (Nat.pow_le_pow_right (by decide) h2) (by decide))
  unfold Bs.upto
  rw [List.length_append, List.length_map, List.length_take, List.length_flatMap]
  have e : (((Cb.all m s).take i).map fun rs => ((Cb.all w s).map fun cs => (rs, cs)).length) = List.replicate ((Cb.all m s).take i).length (Cb.all w s).length := by
    rw [List.eq_replicate_iff]
    refine ⟨by rw [List.length_map], fun b hb => ?_⟩
    obtain ⟨r, _, rfl⟩ := List.mem_map.mp hb
    rw [List.length_map]
  rw [e, List.sum_replicate_nat, List.length_take]
  have h3 : min i (Cb.all m s).length * (Cb.all w s).length ≤ 256 * 256 := Nat.mul_le_mul (by omega) a2
  omega

def sp_bad_square (K : PySem.W.Frag) : Sp := fun vs H Q _ => ∃ (p : Addr) (as : List Addr) (R : List (List Int)) (m wd : Nat), vs = [.ref p] ∧ TabOk H p as R m wd ∧ (∀ r ∈ R, ∀ y ∈ r, Bd 210 y) ∧ ∀ v H', Ex H H' → (BadAt R H H' v (Bs.bad R m wd) ∧ ∀ x, Bs.bad R m wd = some x → Bd 1800 (Bs.val R x.1 x.2)) → Q v H'

theorem ok_bad_square (T : Txt K mg) : FnOk P w K mg base CX0 6 T.f_bad_square T.fd_bad_square ["table"] (sp_bad_square K) := by
  refine Fun.ok T.F_bad_square sc_bad_square (fun vs H Q E h => ?_) (fun cdv A outer s H vs Q E hr h => ?_)
  · obtain ⟨_, _, _, _, _, rfl, _⟩ := h; rfl
  · refine ⟨_, (pss_cons (ps_asg (pe_call (ok_shape T) hr (by rfl) T.g_shape T.k_shape T.b_shape .nil pass0 (pa_cons (pv 0) pa_nil)) (pg_tup rfl (pgs_cons (pg_name (i := 1) sc_bad_square.nd rfl (by first | exact Or.inl rfl | exact Or.inr rfl)) (pgs_cons (pg_name (i := 2) sc_bad_square.nd rfl (by first | exact Or.inl rfl | exact Or.inr rfl)) pgs_nil))))
      (pss_cut (ps_set (i := 3) sc_bad_square.nd rfl (by first | exact Or.inl rfl | exact Or.inr rfl) (DN.pe_one hr (pe_tup (pa_cons (pe_tup pa_nil) (pa_cons (pe_tup pa_nil) pa_nil))) pe_int))
      (pss_cons (ps_for PassesOwn.never rfl (pi_range2 (by rfl) T.n_range (pa_cons pe_int (pa_cons (pe_op op_add (pe_callB (call_min2 rfl) (by rfl) T.n_min (by decide +kernel) (pa_cons (pv 1) (pa_cons (pv 2) pa_nil))) pe_int) pa_nil))) (pg_name (i := 4) sc_bad_square.nd rfl (by first | exact Or.inl rfl | exact Or.inr rfl))
        (pss_cons (ps_set (i := 5) sc_bad_square.nd rfl (by first | exact Or.inl rfl | exact Or.inr rfl) DN.pe_new)
          (pss_cons (ps_for PassesOwn.never rfl (CbL.pi_combR (by rfl) (by rfl) T.g_combinations (by rfl) T.n_range (pv 1) (pv 4)) (pg_name (i := 6) sc_bad_square.nd rfl (by first | exact Or.inl rfl | exact Or.inr rfl))
            (pss_one (ps_for PassesOwn.never rfl (CbL.pi_combR (by rfl) (by rfl) T.g_combinations (by rfl) T.n_range (pv 2) (pv 4)) (pg_name (i := 7) sc_bad_square.nd rfl (by first | exact Or.inl rfl | exact Or.inr rfl))
                (pss_cons (ps_set (i := 8) sc_bad_square.nd rfl (by first | exact Or.inl rfl | exact Or.inr rfl) (pe_call (ok_unfolded T) (hr.mono (by decide)) (by rfl) T.g_unfolded T.k_unfolded T.b_unfolded .nil pass0 (pa_cons (pv 0) (pa_cons (pv 6) (pa_cons (pv 7) (pa_cons (pv 3) pa_nil))))))
                  (pss_cons (ps_if (pt_val (pe_call (ok_is_bad T) (hr.mono (by decide)) (by rfl) T.g_is_bad T.k_is_bad T.b_is_bad .nil pass0 (pa_cons (pv 8) pa_nil)))
                    (pss_one (ps_ret (pe_tup (pa_cons (pe_callTy (T := "list") (r := rListS K) call_list_of (by rfl) T.n_list (by decide +kernel) (pa_cons (pv 6) pa_nil)) (pa_cons (pe_callTy (T := "list") (r := rListS K) call_list_of (by rfl) T.n_list (by decide +kernel) (pa_cons (pv 7) pa_nil)) (pa_cons (pv 8) pa_nil))))))
                    pss_nil)
                  (pss_one (DN.ps_put hr (pv 5) (pe_tup (pa_cons (pv 6) (pa_cons (pv 7) pa_nil))) (pv 8) rfl)))))))
          (pss_one (ps_set (i := 3) sc_bad_square.nd rfl (by first | exact Or.inl rfl | exact Or.inr rfl) (pv 5))))))
      (pss_one (ps_ret pe_non))))), ?_⟩
    obtain ⟨p, as, R, m, wd, rfl, hT, hb, k⟩ := h
    have hdm := hT.b
    have zl : ∀ ns : List Nat, ((Sg.zs ns).map V.int).length = ns.length := fun ns => by unfold Sg.zs; rw [List.length_map, List.length_map]
    refine ⟨_, rfl, p, as, R, m, wd, rfl, hT, fun ts H1 nts e1 hts => ?_⟩
    refine ⟨ts, _, rfl, SqT.of hts, rfl, _, _, rfl, _, _, rfl, rfl, ?_⟩
    refine ⟨fun σ' H' => ∃ (d : Addr) (L : DN.Tb), σ' = [some (.ref p), some (.int (m : Int)), some (.int (wd : Int)), some (.ref d), none, none, none, none, none] ∧ Ex H H' ∧ H' d = some (DN.O P w d L) ∧ H d = none ∧ DN.Keys K H' L ∧ Holds R L (Bs.sq m wd 0), ?_, ?_⟩
    · refine fun d nd => ?_
      have xd := Ex.new (o := DN.O P w d []) nd
      refine e_pairUU (σ := [some (.ref p), some (.int (m : Int)), some (.int (wd : Int)), none, none, none, none, none, none]) (eu_tup ea_nil (Nat.zero_le _)) (eu_tup ea_nil (Nat.zero_le _)) _ fun a b t H2 nt e2 ha hb2 ht => ?_
      have td : t ≠ d := fun z => by rw [z, upd_same] at nt; cases nt
      have hd2 := e2 _ _ (upd_same (H := H1) (a := d) (o := DN.O P w d []))
      have ik : DN.Is K H2 (keyS [] []) (.ref t) := is_key ht ha hb2
      refine ⟨t, keyS [] [], 1, rfl, rfl, hd2, ik, keyS_depth _ _, d, [(keyS [] [], t, 1)], rfl, Ex.mut ((e1.trans xd).trans e2) (fresh_back e1 nd), upd_same, fresh_back e1 nd, fun e he => ?_, .cons ⟨rfl, (Bs.val_nil R).symm⟩ .nil⟩
      rw [List.mem_singleton.mp he]
      exact ⟨is_put hd2 ik, keyS_depth _ _⟩
    rintro σ' H2 ⟨d, L, rfl, e2, hd2, nd, hK2, hH2⟩
    have ll : ∀ n : Nat, ((List.range n).map fun (i : Nat) => V.int (i : Int)).length = n := fun n => by rw [List.length_map, List.length_range]
    refine q_forR2 (lo := 1) (n := ((min m wd : Nat) : Int) + 1) (ea_cons ev_c (ea_cons (ev_op (ev_is (ev_min2 (ev_var (i := 1) rfl) (ev_var (i := 2) rfl)) ?_) ev_c rv_I0) ea_nil)) (by omega)
      (fun s σ' H' => ∃ (d : Addr) (L : DN.Tb) (y4 y5 y6 y7 y8 : Option V), σ' = [some (.ref p), some (.int (m : Int)), some (.int (wd : Int)), some (.ref d), y4, y5, y6, y7, y8] ∧ Ex H H' ∧ H' d = some (DN.O P w d L) ∧ H d = none ∧ DN.Keys K H' L ∧ Holds R L (Bs.sq m wd s) ∧ (∀ x ∈ Bs.sqs m wd s, Bs.isBad (Bs.val R x.1 x.2) = false) ∧ (∀ x ∈ Bs.sq m wd s, Bd (s * 222 + 1) (Bs.val R x.1 x.2))) (fun H3 e3 => ⟨d, L, _, _, _, _, _, rfl, e2.trans e3, e3 _ _ hd2, nd, hK2.ex e3, hH2, fun x hx => (nomatch hx), fun x hx => ?_⟩) (fun s σ' H3 hs hP => ?_) (fun σ' H3 hP => ?_)
    · exact congrArg V.int (by split <;> omega)
    · have hx : x ∈ [(([] : List Nat), ([] : List Nat))] := hx
      rw [List.mem_singleton.mp hx, Bs.val_nil]
      unfold Bd
      decide
    rotate_left
    · obtain ⟨d, L, y4, y5, y6, y7, y8, rfl, e3, _, _, _, _, hno, _⟩ := hP
      have en : (((min m wd : Nat) : Int) + 1 - 1).toNat = min m wd := by omega
      rw [en] at hno
      refine s_ret (v := .non) ev_c fun H4 e4 => k _ H4 (e3.trans e4) ?_
      have hn : Bs.bad R m wd = none := List.find?_eq_none.mpr fun x hx => by rw [hno x hx]; exact Bool.false_ne_true
      rw [hn]
      exact ⟨rfl, fun x z => nomatch z⟩
    obtain ⟨d, L, y4, y5, y6, y7, y8, rfl, e3, hd3, nd, hK3, hH3, hno, hbd⟩ := hP
    have hsm : s + 1 ≤ min m wd := by omega
    have hno0 := hno
    -- grown
    refine fun g ng => ?_
    have xg := Ex.new (o := DN.O P w g []) ng
    have gd : g ≠ d := fun z => by rw [z, hd3] at ng; cases ng
    have ng0 : H g = none := fresh_back e3 ng
    have esz : (1 : Int) + (s : Int) = ((s + 1 : Nat) : Int) := by push_cast; omega
    let Sst (L' : DN.Tb) (i j : Nat) (H' : Hp) : Prop := Ex H H' ∧ H' d = some (DN.O P w d L) ∧ H' g = some (DN.O P w g L') ∧ DN.Keys K H' L ∧ DN.Keys K H' L' ∧ Holds R L' (Bs.upto m wd (s + 1) i j) ∧ (∀ x ∈ Bs.upto m wd (s + 1) i j, Bs.isBad (Bs.val R x.1 x.2) = false) ∧ (∀ x ∈ Bs.upto m wd (s + 1) i j, Bd ((s + 1) * 222 + 1) (Bs.val R x.1 x.2))
    have hSex : ∀ {L' : DN.Tb} {i j : Nat} {G G' : Hp}, Sst L' i j G → Ex G G' → Sst L' i j G' := fun ⟨a1, a2, a3, a4, a5, a6, a7, a8⟩ e => ⟨a1.trans e, e _ _ a2, e _ _ a3, a4.ex e, a5.ex e, a6, a7, a8⟩
    refine ⟨_, rfl, m, rfl, by omega, _, rfl, s + 1, congrArg V.int esz, by omega, CbL.for_comb (xs := (List.range m).map fun (i : Nat) => V.int (i : Int)) (r := s + 1) (fun i σ' H' => ∃ (y6 y7 y8 : Option V) (L' : DN.Tb), σ' = [some (.ref p), some (.int (m : Int)), some (.int (wd : Int)), some (.ref d), some (.int (1 + (s : Int))), some (.ref g), y6, y7, y8] ∧ Sst L' i 0 H') ⟨_, _, _, [], rfl, e3.trans xg, xg _ _ hd3, upd_same, hK3.ex xg, fun e he => (nomatch he), by rw [Bs.upto_zero]; exact .nil, fun x hx => (by rw [Bs.upto_zero] at hx; exact nomatch hx), fun x hx => (by rw [Bs.upto_zero] at hx; exact nomatch hx)⟩ (fun i rs r σ' H4 hrs hP nr => ?_) (fun σ' H4 hP => ?_)⟩
    rotate_left
    · obtain ⟨y6, y7, y8, L', rfl, f1, f2, f3, f4, f5, f6, f7, f8⟩ := hP
      rw [ll, Bs.upto_all] at f6 f7 f8
      dsimp only
      refine s_asg (v := .ref g) (ev_var (i := 5) rfl) fun H5 e5 => ⟨g, L', _, _, _, _, _, rfl, f1.trans e5, e5 _ _ f3, ng0, f5.ex e5, f6, fun x hx => ?_, f8⟩
      rw [Bs.sqs_succ] at hx
      rcases List.mem_append.mp hx with h | h
      · exact hno x h
      · exact f7 x h
    obtain ⟨y6, y7, y8, L', rfl, hS4⟩ := hP
    rw [ll] at hrs
    obtain ⟨hr1, hr2, hr3⟩ := Cb.mem_all.mp (List.mem_of_getElem? hrs)
    obtain ⟨ahead, l, rfl, hah, hl⟩ := Bs.init_mem (List.mem_of_getElem? hrs)
    rw [pickV_zs m _ hr3]
    have xr := Ex.new (o := .tup ((Sg.zs (ahead ++ [l])).map V.int)) nr
    refine ⟨_, rfl, wd, rfl, by omega, _, rfl, s + 1, congrArg V.int esz, by omega, CbL.for_comb (xs := (List.range wd).map fun (i : Nat) => V.int (i : Int)) (r := s + 1) (fun j σ' H' => ∃ (y7 y8 : Option V) (L' : DN.Tb), σ' = [some (.ref p), some (.int (m : Int)), some (.int (wd : Int)), some (.ref d), some (.int (1 + (s : Int))), some (.ref g), some (.ref r), y7, y8] ∧ Sst L' i j H' ∧ H' r = some (.tup ((Sg.zs (ahead ++ [l])).map V.int))) ⟨_, _, L', rfl, hSex hS4 xr, upd_same⟩ (fun j cs c σ' H5 hcs hP nc => ?_) (fun σ' H5 hP => ?_)⟩
    rotate_left
    · obtain ⟨y7, y8, L2, rfl, hS5, _⟩ := hP
      rw [ll] at hS5
      obtain ⟨f1, f2, f3, f4, f5, f6, f7, f8⟩ := hS5
      rw [Bs.upto_full (List.getElem?_eq_some_iff.mp hrs).1] at f6 f7 f8
      exact ⟨_, _, _, L2, rfl, f1, f2, f3, f4, f5, f6, f7, f8⟩
    obtain ⟨y7, y8, L2, rfl, hS5, hr5⟩ := hP
    rw [ll] at hcs
    obtain ⟨hc1, hc2, hc3⟩ := Cb.mem_all.mp (List.mem_of_getElem? hcs)
    rw [pickV_zs wd _ hc3]
    have xc := Ex.new (o := .tup ((Sg.zs cs).map V.int)) nc
    have hS6 := hSex hS5 xc
    have hr6 := xc _ _ hr5
    have hc6 : upd H5 c (.tup ((Sg.zs cs).map V.int)) c = some (.tup ((Sg.zs cs).map V.int)) := upd_same
    generalize upd H5 c (.tup ((Sg.zs cs).map V.int)) = H6 at hS6 hr6 hc6
    obtain ⟨f1, f2, f3, f4, f5, f6, f7, f8⟩ := hS6
    have ahl : ahead.length = s := (Cb.mem_all.mp hah).1
    refine ⟨_, rfl, _, rfl, _, rfl, _, rfl, p, r, c, d, as, R, m, wd, ahead, l, cs, L, rfl, hT.ex f1, hb, hr6, hc6, by omega, by omega, hl, hc3, f2, f4, fun jj hjj => ?_, fun hbv H7 e7 => ?_⟩
    · have hm : (ahead, Bs.out cs jj) ∈ Bs.sq m wd s := Bs.mem_sq.mpr ⟨hah, Bs.out_mem (List.mem_of_getElem? hcs) (by omega)⟩
      exact ⟨holds_in hH3 hm, by rw [ahl]; exact hbd _ hm⟩
    dsimp only
    have sp := Bs.sq_split hrs hcs
    refine q_when (b := Bs.isBad (Bs.val R (ahead ++ [l]) cs)) (et_B (ev_fn (sp := sp_is_bad K) (ea_cons (ev_var (i := 8) rfl) ea_nil) fun H8 e8 Q8 q8 => ⟨_, rfl, q8⟩)) (fun z H8 e8 => ?_) (fun z H8 e8 => ?_)
    · have e68 := e7.trans e8
      refine s_ret3 (el_listT (ev_var (i := 6) rfl) (e68 _ _ hr6)) (el_listT (ev_var (i := 7) rfl) (e68 _ _ hc6)) (ev_var (i := 8) rfl) fun a b t H9 na nb ab e9 ha hb' ht => k _ H9 (f1.trans (e68.trans e9)) ?_
      have hbad : Bs.bad R m wd = some (ahead ++ [l], cs) := by
        obtain ⟨B1, hB1⟩ := Bs.sqs_split (m := m) (w := wd) (n := min m wd) (s := s) (by omega)
        obtain ⟨B2, hB2⟩ := sp
        unfold Bs.bad
        rw [hB1, hB2]
        have e : Bs.sqs m wd s ++ (Bs.upto m wd (s + 1) i j ++ (ahead ++ [l], cs) :: B2 ++ B1) = (Bs.sqs m wd s ++ Bs.upto m wd (s + 1) i j) ++ (ahead ++ [l], cs) :: (B2 ++ B1) := by simp [List.append_assoc]
        rw [e]
        refine Bs.find_split (fun y hy => ?_) z
        rcases List.mem_append.mp hy with h | h
        · exact hno0 y h
        · exact f7 y h
      rw [hbad]
      exact ⟨⟨t, a, b, rfl, ht, ha, hb', fresh_back (f1.trans e68) na, fresh_back (f1.trans e68) nb, ab⟩, fun x z => by
        cases z
        exact hbv.mono (by omega)⟩
    have e68 := e7.trans e8
    refine ⟨_, rfl, _, rfl, _, rfl, _, rfl, (by show 2 ≤ sizeLine; decide), fun b nb => ?_⟩
    have xb := Ex.new (o := .tup [V.ref r, .ref c]) nb
    have e6b := e68.trans xb
    have hg := e6b _ _ f3
    have ik : DN.Is K (upd H8 b (.tup [V.ref r, .ref c])) (keyS (ahead ++ [l]) cs) (.ref b) := is_key upd_same (e6b _ _ hr6) (e6b _ _ hc6)
    have nw := Bs.upto_new hrs hcs
    have lL : L2.length ≤ 66000 := by
      rw [Paired.length f6]
      exact sqs_len m wd (s + 1) (by omega) (by omega) i j
    refine ⟨g, b, L2, keyS (ahead ++ [l]) cs, Bs.val R (ahead ++ [l]) cs, rfl, rfl, rfl, hg, f5.ex e6b, ik, keyS_depth _ _, holds_out (x := (ahead ++ [l], cs)) f6 nw, by omega, ?_⟩
    refine ⟨_, _, L2 ++ [(keyS (ahead ++ [l]) cs, b, Bs.val R (ahead ++ [l]) cs)], rfl, ⟨Ex.mut (f1.trans e6b) ng0, ?_, upd_same, fun e he => ⟨is_put hg ((f4.ex e6b) e he).1, (f4 e he).2⟩, fun e he => ?_, ?_, ?_, ?_⟩, ?_⟩
    · rw [upd_ne gd.symm]
      exact e6b _ _ f2
    · rcases List.mem_append.mp he with h | h
      · exact ⟨is_put hg ((f5.ex e6b) e h).1, (f5 e h).2⟩
      · rw [List.mem_singleton.mp h]
        exact ⟨is_put hg ik, keyS_depth _ _⟩
    · rw [Bs.upto_succ hrs hcs]
      exact paired_snoc f6 ⟨rfl, rfl⟩
    · intro x hx
      rw [Bs.upto_succ hrs hcs] at hx
      rcases List.mem_append.mp hx with h | h
      · exact f7 x h
      · rw [List.mem_singleton.mp h]
        exact z
    · intro x hx
      rw [Bs.upto_succ hrs hcs] at hx
      rcases List.mem_append.mp hx with h | h
      · exact f8 x h
      · rw [List.mem_singleton.mp h]
        have e9 : cs.length = s + 1 := hc1
        rw [e9] at hbv
        exact hbv
    · rw [upd_ne (fun z => by rw [z, f3] at hr6; cases hr6)]
      exact e6b _ _ hr6
-- DEF init_NoPick

theorem ok_init_NoPick (T : Txt K mg) : FnOk P w K mg base CX0 1 T.f_init_NoPick T.fd_init_NoPick ["self", "at"] (spNP K) := by
  refine Fun.ok T.F_init_NoPick sc_init_NoPick (fun vs H Q E h => ?_) (fun cdv A outer s H vs Q E hr h => ?_)
  · obtain ⟨_, _, _, _, rfl, _⟩ := h; rfl
  · refine ⟨_, (pss_cons (ps_expr (pe_initA (by rfl) T.g_SignError T.rd_SignError T.ga_SignError T.fi_SignError (pa_cons (pv 0) (pa_cons (pe_joined (PJ.cons pe_str (PJ.cons (pe_fmt (pv 1)) PJ.nil))) pa_nil))))
      (pss_one (ps_ostA (pv 0) (pv 1)))), ?_⟩
    obtain ⟨a, C, CS, i, rfl, own, no, hi, ha, k⟩ := h
    have ht := int_text_small hi
    refine ⟨_, rfl, _, rfl, ?_, _, rfl, .inr ⟨i, rfl, hi, _, rfl, ?_, a, C, CS, [_], rfl, (by show 1 ≤ 1000; decide), own, ha, _, rfl, _, rfl, a, C, CS, rfl, own, no, ha, fun dx hd nd => k dx hd nd⟩⟩
    · rw [sizeLine_eq]
      decide +kernel
    · rw [sizeLine_eq, Str.length_append]
      have e1 : (Str.empty ++ ("no pick, at " : Str)).length = 12 := by decide +kernel
      rw [e1]
      omega
-- DEF _law_is_pick

/-- a value that holds no other -/
def Scal (x : V) : Prop := (∃ i, x = .int i) ∨ x = .non ∨ (∃ b, x = .bl b) ∨ ∃ t, x = .str t
theorem Scal.item {s : Addr} {H : Hp} {x : V} (h : Scal x) : ItemV s H x := by
  rcases h with ⟨i, rfl⟩ | rfl | ⟨b, rfl⟩ | ⟨t, rfl⟩
  · exact .inl ⟨i, rfl⟩
  · exact .inr ⟨_, by decide, .non⟩
  · exact .inr ⟨_, by decide, .bl b⟩
  · exact .inr ⟨_, by decide, .str t⟩
/-- one that may stand in a pick -/
def ScalL (x : V) : Prop := (∃ i, x = .int i) ∨ x = .non ∨ (∃ b, x = .bl b) ∨ x = .str "0"
theorem ScalL.to {x : V} (h : ScalL x) : Scal x := by
  rcases h with h | h | h | h
  · exact .inl h
  · exact .inr (.inl h)
  · exact .inr (.inr (.inl h))
  · exact .inr (.inr (.inr ⟨_, h⟩))
theorem scal_dp {K : PySem.W.Frag} {H : Hp} : ∀ xs : List V, (∀ x ∈ xs, ScalL x) → ∃ ds, DpAll K H xs ds ∧ PyData.canLayAll0 ds = true ∧ PyData.depthAll ds = 0 ∧ ds.length = xs.length
  | [], _ => ⟨[], .nil, rfl, rfl, rfl⟩
  | x :: r, h => by
    obtain ⟨ds, h1, h2, h3, h4⟩ := scal_dp (K := K) (H := H) r fun y hy => h y (List.mem_cons_of_mem _ hy)
    have : ∃ d, Dp K H x d ∧ d.canLay0 = true ∧ d.depth = 0 := by
      rcases h x (List.mem_cons_self ..) with ⟨i, rfl⟩ | rfl | ⟨b, rfl⟩ | rfl
      · exact ⟨_, .int i, rfl, rfl⟩
      · exact ⟨_, .non, rfl, rfl⟩
      · exact ⟨_, .bl b, rfl, rfl⟩
      · exact ⟨_, .str "0", by decide +kernel, rfl⟩
    obtain ⟨d, d1, d2, d3⟩ := this
    refine ⟨d :: ds, .cons d1 h1, ?_, ?_, by rw [List.length_cons, List.length_cons, h4]⟩
    · show (d.canLay0 && PyData.canLayAll0 ds) = true
      rw [d2, h2]
      rfl
    · show max d.depth (PyData.depthAll ds) = 0
      rw [d3, h3]
      rfl
/-- what may be handed in as a pick: a list of such values, or none -/
inductive PickS (s : Addr) (H : Hp) : V → Option (List V) → Prop
  | lst {a : Addr} {xs : List V} (h : H a = some (.lst xs)) (n : a ≠ s) (l : xs.length ≤ 20) (i : ∀ x ∈ xs, ScalL x) : PickS s H (.ref a) (some xs)
  | oth {v : V} {t : String} (h : Kd s H v t) (n : t ≠ "list") : PickS s H v none
theorem PickS.at_ {s : Addr} {H : Hp} {v : V} {p : Option (List V)} (h : PickS s H v p) : PickAt s H v p := by
  cases h with
  | lst h n l i => exact .lst h n l fun x hx => (i x hx).to.item
  | oth h n => exact .oth h n
theorem PickS.kp {s : Addr} {H H' : Hp} {v : V} {p : Option (List V)} (h : PickS s H v p) (e : Kp s H H') : PickS s H' v p := by
  cases h with
  | lst h n l i => exact .lst (e _ _ n h (fun _ z => by cases z)) n l i
  | oth h n => exact .oth (h.kp e) n
/-- what may be handed in as a square: a tuple of three, or something else -/
inductive ThS (s : Addr) (H : Hp) : V → Option (Option (List V) × Option (List V) × V) → Prop
  | oth {v : V} {t : String} (h : Kd s H v t) (n : t ≠ "tuple") : ThS s H v none
  | few {a : Addr} {xs : List V} (h : H a = some (.tup xs)) (n : a ≠ s) (l : xs.length ≠ 3) : ThS s H (.ref a) none
  | tri {a : Addr} {x y z : V} {p q : Option (List V)} (h : H a = some (.tup [x, y, z])) (n : a ≠ s) (hx : PickS s H x p) (hy : PickS s H y q) (hz : Scal z) : ThS s H (.ref a) (some (p, q, z))
theorem ThS.kp {s : Addr} {H H' : Hp} {v : V} {o : Option (Option (List V) × Option (List V) × V)} (h : ThS s H v o) (e : Kp s H H') : ThS s H' v o := by
  cases h with
  | oth h n => exact .oth (h.kp e) n
  | few h n l => exact .few (e _ _ n h (fun _ z => by cases z)) n l
  | tri h n hx hy hz => exact .tri (e _ _ n h (fun _ z => by cases z)) n (hx.kp e) (hy.kp e) hz
def natsOf (xs : List V) : List Nat := xs.map fun | .int i => i.toNat | _ => 0
def lenO : Option (List V) → Nat
  | some xs => xs.length
  | none => 0
def natsO : Option (List V) → List Nat
  | some xs => natsOf xs
  | none => []
def worthB (R : List (List Int)) (p q : Option (List V)) : V → Bool
  | .int v => Bs.isBad v && decide (Bs.val R (natsO p) (natsO q) = v)
  | _ => false
/-- whether it is a bad square -/
def dueB (R : List (List Int)) (m w : Nat) : Option (Option (List V) × Option (List V) × V) → Bool
  | none => false
  | some (p, q, z) => (firstOf p m 1).isNone && ((firstOf q w 1).isNone && (decide (lenO p = lenO q) && worthB R p q z))
theorem nats_ints : ∀ ns : List Int, (∀ x ∈ ns, 0 ≤ x) → ns = Sg.zs (natsOf (ns.map V.int)) := fun ns h => by
  unfold Sg.zs natsOf
  rw [List.map_map, List.map_map]
  have : ns.map (((fun (i : Nat) => (i : Int)) ∘ (fun | V.int i => i.toNat | _ => 0)) ∘ V.int) = ns.map id := List.map_congr_left fun x hx => by
    have := h x hx
    show ((x.toNat : Nat) : Int) = x
    omega
  rw [this, List.map_id]
/-- a right pick is one of places that rise -/
theorem pick_nats {s : Addr} {H : Hp} {v : V} {p : Option (List V)} {m : Nat} (h : PickS s H v p) (hf : firstOf p m 1 = none) : ∃ (a : Addr) (rs : List Nat), v = .ref a ∧ H a = some (.lst ((Sg.zs rs).map V.int)) ∧ a ≠ s ∧ natsO p = rs ∧ lenO p = rs.length ∧ rs ≠ [] ∧ rs.Pairwise (· < ·) ∧ ∀ x ∈ rs, x < m := by
  cases h with
  | oth h n => cases hf
  | lst h n l i =>
    rename_i a xs
    obtain ⟨l1, hs⟩ := first_none hf
    obtain ⟨ns, rfl, h1, h2⟩ := scan_ok hs
    have e := nats_ints ns fun x hx => (h1 x hx).1
    refine ⟨a, natsOf (ns.map V.int), rfl, by rw [← e]; exact h, n, rfl, ?_, fun z => ?_, ?_, fun x hx => ?_⟩
    · show (ns.map V.int).length = (natsOf (ns.map V.int)).length
      unfold natsOf
      rw [List.length_map, List.length_map, List.length_map]
    · rw [z] at e
      rw [e] at l1
      have : (0 : Nat) ≥ 1 := l1
      omega
    · have := h2
      rw [e] at this
      unfold Sg.zs at this
      rw [List.pairwise_map] at this
      exact this.imp fun h => by omega
    · have hx' : (x : Int) ∈ ns := by
        rw [e]
        unfold Sg.zs
        exact List.mem_map.mpr ⟨x, hx, rfl⟩
      have := (h1 _ hx').2.1
      omega

theorem shaped_scal {ds : List PyData} (h2 : PyData.canLayAll0 ds = true) (h3 : PyData.depthAll ds = 0) : SeqAt.shaped (.list ds) = true := shaped_list h2 (by omega)
theorem et_chain12 {te : TE} {σ : L2.St} {H : Hp} {b : Bool} (h : Ev te σ H (.bl b)) : EvT (tB te) σ H b := et_B h
def sp__law_is_pick (K : PySem.W.Frag) : Sp := fun vs H Q _ => ∃ (s : Addr) (v : V) (n : Int) (p : Option (List V)), vs = [v, .int n] ∧ PickS s H v p ∧ ∀ H', Ex H H' → Q (.bl (firstOf p n 1).isNone) H'

theorem ok__law_is_pick (T : Txt K mg) : FnOk P w K mg base CX0 1 T.f__law_is_pick T.fd__law_is_pick ["_law_pick", "_law_many"] (sp__law_is_pick K) := by
  refine Fun.ok T.F__law_is_pick sc__law_is_pick (fun vs H Q E h => ?_) (fun cdv A outer s H vs Q E hr h => ?_)
  · obtain ⟨_, _, _, _, rfl, _⟩ := h; rfl
  · refine ⟨_, (pss_cons (ps_if (PW.pt (pw_or (pt_not (pt_val (pe_callB (id := "isinstance") (r := rIsi K) call_isi (by rfl) T.n_isinstance (by decide +kernel) (pa_cons (pv 0) (pa_cons (pe_bltn (v := .ty "list") (by rfl) T.n_list (by decide +kernel) rfl) pa_nil))))) (pw_or1 (pt_cmpR (r := rEqD K) (op_eqD hr.units) (pv 0) (pe_lst pa_nil) (nomark _)))))
        (pss_one (ps_ret pe_bl))
        pss_nil)
      (pss_cons (ps_for PassesOwn.never rfl (pi_enum (by rfl) T.n_enumerate (pa_cons (pv 0) pa_nil)) (pg_tup rfl (pgs_cons (pg_name (i := 2) sc__law_is_pick.nd rfl (by first | exact Or.inl rfl | exact Or.inr rfl)) (pgs_cons (pg_name (i := 3) sc__law_is_pick.nd rfl (by first | exact Or.inl rfl | exact Or.inr rfl)) pgs_nil)))
        (pss_cons (ps_if (PW.pt (pw_or (pt_val (pe_callB (id := "isinstance") (r := rIsi K) call_isi (by rfl) T.n_isinstance (by decide +kernel) (pa_cons (pv 3) (pa_cons (pe_bltn (v := .ty "bool") (by rfl) T.n_bool (by decide +kernel) rfl) pa_nil)))) (pw_or (pt_not (pt_val (pe_callB (id := "isinstance") (r := rIsi K) call_isi (by rfl) T.n_isinstance (by decide +kernel) (pa_cons (pv 3) (pa_cons (pe_bltn (v := .ty "int") (by rfl) T.n_int (by decide +kernel) rfl) pa_nil))))) (pw_or1 (pt_not (pt_chain op_le op_lt pe_int (pv 3) (pv 1)))))))
            (pss_one (ps_ret pe_bl))
            pss_nil)
          (pss_one (ps_if (PW.pt (pw_and (pt_cmpR op_gt (pv 2) pe_int (nomark _)) (pw_and1 (pt_cmpR op_le (pv 3) (pe_ix (r := rIxL K) ix_list (pv 0) (pe_op op_sub (pv 2) pe_int) (fun _ _ => rfl)) (nomark _)))))
            (pss_one (ps_ret pe_bl))
            pss_nil))))
      (pss_one (ps_ret pe_bl)))), ?_⟩
    obtain ⟨s, v, n, p, rfl, hp, k⟩ := h
    cases hp with
    | oth hk nl =>
      rename_i t
      refine q_when (b := true) (et_is (et_or (a := true) (b := false) (et_not (et_B (ev_isK (t := t) (b := false) (ev_var (i := 0) rfl) ev_c hk (by rw [ty_list hk.ty]; exact congrArg some (beq_eq_false_iff_ne.mpr nl))))) (fun z => nomatch z)) rfl) (fun _ H1 e1 => ?_) (fun z => nomatch z)
      exact s_ret (v := .bl false) ev_c fun H2 e2 => k H2 (e1.trans e2)
    | lst ha na hl hi =>
      rename_i a xs
      obtain ⟨ds, d1, d2, d3, d4⟩ := scal_dp (K := K) (H := H) xs hi
      have isnil : Ev (tOp (rEqD K) (tVar 0) (tLst tNil)) [some (.ref a), some (.int n), none, none] H (.bl xs.isEmpty) := fun G e Q' q' => by
        refine ⟨_, rfl, Nat.zero_le _, fun z nz => ?_⟩
        have x1 : Ex G (upd G z (.lst [])) := Ex.new nz
        refine ⟨_, _, .lst (SqL.of ((e.trans x1) _ _ ha)) (dpAll_ex (e.trans x1) d1), .lst (SqL.of upd_same) .nil, shaped_scal d2 d3, rfl, ?_⟩
        rw [eqv_nil, show ds.isEmpty = xs.isEmpty by cases ds <;> cases xs <;> first | rfl | cases d4]
        exact q' _ x1
      cases xs with
      | nil =>
        refine q_when (b := true) (et_is (et_or (a := false) (b := true) (et_is (et_not (et_B (ev_isK (t := "list") (b := true) (ev_var (i := 0) rfl) ev_c (Kd.lst ha na) (by decide +kernel)))) rfl) (fun _ => et_test isnil)) rfl) (fun _ H1 e1 => ?_) (fun z => nomatch z)
        exact s_ret (v := .bl false) ev_c fun H2 e2 => k H2 (e1.trans e2)
      | cons x0 r0 =>
      refine q_when (b := false) (et_is (et_or (a := false) (b := false) (et_is (et_not (et_B (ev_isK (t := "list") (b := true) (ev_var (i := 0) rfl) ev_c (Kd.lst ha na) (by decide +kernel)))) rfl) (fun _ => et_test isnil)) rfl) (fun z => nomatch z) (fun _ H1 e1 => ?_)
      clear isnil d1 d2 d3 d4
      have c : ¬ (x0 :: r0).length < 1 := by rw [List.length_cons]; omega
      generalize hX : x0 :: r0 = xs at ha hl hi k c
      refine ⟨_, rfl, a, xs, rfl, SqL.of (e1 _ _ ha), ?_⟩
      refine for_enum (K := K) (a := a) (xs := xs) (fun i σ H' => ∃ (last : Int) (y2 y3 : Option V), σ = [some (.ref a), some (.int n), y2, y3] ∧ Ex H H' ∧ -1 ≤ last ∧ ((i = 0 ∧ last = -1) ∨ ∃ i', i = i' + 1 ∧ xs[i']? = some (.int last)) ∧ scan n (-1) xs 0 = scan n last (xs.drop i) i) ⟨-1, _, _, rfl, e1, by decide, .inl ⟨rfl, rfl⟩, rfl⟩ (fun i σ H' ⟨_, _, _, _, e, _⟩ => SqL.of (e _ _ ha)) ?_ ?_
      · rintro i x t σ H2 hx ⟨last, y3, y4, rfl, e2, hlast, hi0, hs⟩ nt
        have xt : Ex H2 (upd H2 t (.tup [.int (i : Nat), x])) := Ex.new nt
        refine ⟨t, _, rfl, SqT.of upd_same, rfl, _, _, rfl, _, _, rfl, rfl, ?_⟩
        have hdr : xs.drop i = x :: xs.drop (i + 1) := by
          obtain ⟨h1, h2⟩ := List.getElem?_eq_some_iff.mp hx
          rw [← h2]
          exact List.drop_eq_getElem_cons h1
        have bad : scan n (-1) xs 0 = some i → ∀ H3, Ex (upd H2 t (.tup [.int (i : Nat), x])) H3 → Q (.bl false) H3 := fun z H3 e3 => by
          have k2 := k H3 ((e2.trans xt).trans e3)
          rw [first_bad c z] at k2
          exact k2
        have hxi := (hi x (List.mem_of_getElem? hx)).to.item (s := s) (H := upd H2 t (.tup [.int (i : Nat), x]))
        rcases hxi with ⟨v, rfl⟩ | ⟨ty, nty, hk⟩
        · have isi : EvT (tB (tCB (rIsi K) (tCons (tVar 3) (tCons (tC (.ty "bool")) tNil)))) [some (.ref a), some (.int n), some (.int (i : Nat)), some (.int v)] (upd H2 t (.tup [.int (i : Nat), .int v])) false := et_B (ev_isK (n := "bool") (b := false) (t := "int") (ev_var (i := 3) rfl) ev_c (Kd.int (s := s) v) (by decide +kernel))
          have isj : EvT (tB (tCB (rIsi K) (tCons (tVar 3) (tCons (tC (.ty "int")) tNil)))) [some (.ref a), some (.int n), some (.int (i : Nat)), some (.int v)] (upd H2 t (.tup [.int (i : Nat), .int v])) true := et_B (ev_isK (n := "int") (b := true) (t := "int") (ev_var (i := 3) rfl) ev_c (Kd.int (s := s) v) (by decide +kernel))
          have ch : EvT (tTest (tChain (rI0 fun i j => .bl (decide (i ≤ j))) (rI0 fun i j => .bl (decide (i < j))) (tC (.int 0)) (tVar 3) (tVar 1))) [some (.ref a), some (.int n), some (.int (i : Nat)), some (.int v)] (upd H2 t (.tup [.int (i : Nat), .int v])) (decide (0 ≤ v) && decide (v < n)) := et_test (ev_chain ev_c (ev_var (i := 3) rfl) (ev_var (i := 1) rfl) rv_le rv_I0)
          by_cases c1 : 0 ≤ v ∧ v < n
          · refine q_when (b := false) (et_is (et_or isi fun _ => et_or (et_not isj) fun _ => et_not ch) (by rw [decide_eq_true c1.1, decide_eq_true c1.2]; rfl)) (fun z => nomatch z) (fun _ H3 e3 => ?_)
            have e03 := (e2.trans xt).trans e3
            have sn : last < v → scan n (-1) xs 0 = scan n v (xs.drop (i + 1)) (i + 1) := fun h => by
              rw [hs, hdr]
              exact if_pos ⟨c1.1, c1.2, h⟩
            rcases hi0 with ⟨rfl, rfl⟩ | ⟨i', rfl, hl⟩
            · refine s_when (b := false) (et_is (et_and (a := false) (b := false) (et_is (et_test (ev_op (ev_var (i := 2) rfl) ev_c rv_I0)) rfl) (fun z => nomatch z)) rfl) (fun z => nomatch z) fun _ H4 e4 => ?_
              exact ⟨v, _, _, rfl, e03.trans e4, by omega, .inr ⟨0, rfl, hx⟩, sn (by omega)⟩
            · have hpr : Ev (tOp (rIxL K) (tVar 0) (tOp (rI0 fun i j => .int (i - j)) (tVar 2) (tC (.int 1)))) [some (.ref a), some (.int n), some (.int ((i' + 1 : Nat) : Int)), some (.int v)] H3 (.int last) := ev_op (ev_var (i := 0) rfl) (ev_op (ev_var (i := 2) rfl) ev_c rv_I0) (rv_ixL (SqL.of (e03 _ _ ha)) (by rw [show (((i' + 1 : Nat) : Int) - 1) = (i' : Int) by omega]; exact atI_nat hl))
              refine s_when (b := decide (v ≤ last)) (et_is (et_and (a := true) (b := decide (v ≤ last)) (et_is (et_test (ev_op (ev_var (i := 2) rfl) ev_c rv_I0)) (decide_eq_true (by omega))) (fun _ => et_test (ev_op (ev_var (i := 3) rfl) hpr rv_le))) (Bool.true_and _)) (fun z H4 e4 => ?_) fun z H4 e4 => ?_
              · have z := of_decide_eq_true z
                exact s_ret (v := .bl false) ev_c fun H5 e5 => bad (by rw [hs, hdr]; exact if_neg (by omega)) H5 (e3.trans (e4.trans e5))
              · have z := of_decide_eq_false z
                exact ⟨v, _, _, rfl, e03.trans e4, by omega, .inr ⟨i' + 1, rfl, hx⟩, sn (by omega)⟩
          · refine q_when (b := true) (et_is (et_or isi fun _ => et_or (et_not isj) fun _ => et_not ch) ?_) (fun _ H3 e3 => ?_) (fun z => nomatch z)
            · by_cases c2 : 0 ≤ v
              · rw [decide_eq_true c2, decide_eq_false (show ¬ v < n from fun z => c1 ⟨c2, z⟩)]
                rfl
              · rw [decide_eq_false c2]
                rfl
            · exact s_ret (v := .bl false) ev_c fun H5 e5 => bad (by rw [hs, hdr]; exact if_neg fun z => c1 ⟨z.1, z.2.1⟩) H5 (e3.trans e5)
        · have bd := bad (by rw [hs, hdr]; exact scan_non hk nty)
          cases eb : (ty == "bool") with
          | true => exact q_when (b := true || false) (et_or (a := true) (b := false) (et_B (ev_isK (t := ty) (ev_var (i := 3) rfl) ev_c hk (by rw [ty_bool hk.ty, eb]))) fun z => nomatch z) (fun _ H3 e3 => s_ret (v := .bl false) ev_c fun H4 e4 => bd H4 (e3.trans e4)) (fun z => nomatch z)
          | false => exact q_when (b := false || (true || false)) (et_or (et_B (ev_isK (t := ty) (ev_var (i := 3) rfl) ev_c hk (by rw [ty_bool hk.ty, eb]))) fun _ => et_or (a := true) (b := false) (et_is (et_not (et_B (ev_isK (t := ty) (b := false) (ev_var (i := 3) rfl) ev_c hk (by rw [ty_int hk.ty, eb, beq_eq_false_iff_ne.mpr nty]; rfl)))) rfl) fun z => nomatch z) (fun _ H3 e3 => s_ret (v := .bl false) ev_c fun H4 e4 => bd H4 (e3.trans e4)) (fun z => nomatch z)
      · rintro σ H2 ⟨last, y3, y4, rfl, e2, _, _, hs⟩
        rw [List.drop_length] at hs
        have k2 := fun H3 (e3 : Ex H2 H3) => k H3 (e2.trans e3)
        rw [first_ok c hs] at k2
        have k3 : ∀ H3, Ex H2 H3 → Q (.bl true) H3 := k2
        dsimp only
        exact s_ret (v := .bl true) ev_c fun H3 e3 => k3 H3 e3
-- DEF is_place

def sp_is_place (K : PySem.W.Frag) : Sp := fun vs H Q _ => ∃ (x : V) (n : Int), vs = [x, .int n] ∧ ((∃ i, x = .int i ∧ ∀ H', Ex H H' → Q (.bl (decide (0 ≤ i) && decide (i < n))) H') ∨ ∃ s t, t ≠ "int" ∧ Kd s H x t ∧ ∀ H', Ex H H' → Q (.bl false) H')

theorem ok_is_place (T : Txt K mg) : FnOk P w K mg base CX0 2 T.f_is_place T.fd_is_place ["thing", "many"] (sp_is_place K) := by
  refine Fun.ok T.F_is_place sc_is_place (fun vs H Q E h => ?_) (fun cdv A outer s H vs Q E hr h => ?_)
  · obtain ⟨_, _, rfl, _⟩ := h; rfl
  · refine ⟨_, (pss_one (ps_ret (pe_and (pe_call (ok_is_whole T) hr (by rfl) T.g_is_whole T.k_is_whole T.b_is_whole .nil pass0 (pa_cons (pv 0) pa_nil)) (pe_one (pe_chain op_le op_lt pe_int (pv 0) (pv 1)))))), ?_⟩
    obtain ⟨x, n, rfl, ⟨i, rfl, k⟩ | ⟨s, t, nt, hk, k⟩⟩ := h
    · exact s_ret (ev_andV (a := true) (ev_fn (ea_cons (ev_var rfl) ea_nil) fun H3 e3 Q3 q3 => ⟨_, "int", rfl, .base (.int _), .inl rfl, q3 H3 (Ex.refl _)⟩) (fun _ => ev_chain ev_c (ev_var rfl) (ev_var rfl) rv_le rv_I0)) fun H' e => k H' e
    · refine s_ret (v := .bl (false && false)) (ev_andV (a := false) (ev_fn (ea_cons (ev_var rfl) ea_nil) fun H3 e3 Q3 q3 => ⟨x, t, rfl, (hk.kp (.of e3)).tyX, hk.ty, ?_⟩) (fun z => nomatch z)) fun H' e => k H' e
      rw [show (t == "int") = false from beq_eq_false_iff_ne.mpr nt]
      exact q3 H3 (Ex.refl _)
-- DEF _law_forged
theorem el_rev {K : PySem.W.Frag} {te : TE} {σ : L2.St} {H : Hp} {a : Addr} {xs : List V} (ha : Ev te σ H (.ref a)) (h : H a = some (.lst xs)) : EvL (tRevL K te) σ H xs.reverse := fun H1 e Q q =>
  ha H1 e _ fun H2 e2 => ⟨a, xs, rfl, SqL.of ((e.trans e2) _ _ h), fun l nl => q l _ (fresh_back e2 nl) (e2.trans (Ex.new nl)) upd_same⟩
theorem el_catVL {ta tb : TE} {σ : L2.St} {H : Hp} {a : Addr} {xs ys : List V} (ha : Ev ta σ H (.ref a)) (h : H a = some (.lst xs)) (hb : EvL tb σ H ys) (hz : xs.length + ys.length ≤ 100000) : EvL (tOp rCat ta tb) σ H (xs ++ ys) := fun H1 e Q q =>
  ha H1 e _ fun H2 e2 => hb H2 (e.trans e2) _ fun r H3 nr e3 hr => ⟨a, r, xs, ys, rfl, rfl, ((e.trans e2).trans e3) _ _ h, hr, sz_of hz, fun l nl => q l _ (fresh_back (e2.trans e3) nl) ((e2.trans e3).trans (Ex.new nl)) upd_same⟩

theorem ThS.not_ {N : Addr → Prop} {H : Hp} {a : Addr} {o : Option (Option (List V) × Option (List V) × V)} (h : ∀ d, N d → ThS d H (.ref a) o) : ¬ N a := fun z => by
  cases h a z with
  | oth hk _ => cases hk with
    | lst _ n => exact n rfl
    | tup _ n => exact n rfl
    | dct _ n => exact n rfl
  | few _ n _ => exact n rfl
  | tri _ n _ _ _ => exact n rfl
theorem PickS.not_ {N : Addr → Prop} {H : Hp} {a : Addr} {o : Option (List V)} (h : ∀ d, N d → PickS d H (.ref a) o) : ¬ N a := fun z => by
  cases h a z with
  | oth hk _ => cases hk with
    | lst _ n => exact n rfl
    | tup _ n => exact n rfl
    | dct _ n => exact n rfl
  | lst _ n _ _ => exact n rfl
theorem Kd.mono12 {N : Addr → Prop} {H H' : Hp} {v : V} {d : Addr} {t : String} (h : Kd d H v t) (na : ∀ a, v = .ref a → ¬ N a) (e : ∀ b o, ¬ N b → H b = some o → H' b = some o) : Kd d H' v t := by
  cases h with
  | non => exact .non
  | bl b => exact .bl b
  | int i => exact .int i
  | str x => exact .str x
  | lst h n => exact .lst (e _ _ (na _ rfl) h) n
  | tup h n => exact .tup (e _ _ (na _ rfl) h) n
  | dct h n => exact .dct (e _ _ (na _ rfl) h) n
theorem PickS.mono12 {N : Addr → Prop} {H H' : Hp} {v : V} {p : Option (List V)} (h : ∀ d, N d → PickS d H v p) (e : ∀ b o, ¬ N b → H b = some o → H' b = some o) : ∀ d, N d → PickS d H' v p := fun d hd => by
  have na : ∀ a, v = .ref a → ¬ N a := fun a z => PickS.not_ (H := H) (o := p) (fun d' hd' => by rw [← z]; exact h d' hd')
  cases h d hd with
  | lst h1 n l i => exact .lst (e _ _ (na _ rfl) h1) n l i
  | oth h1 n => exact .oth (h1.mono12 na e) n
theorem ThS.mono12 {N : Addr → Prop} {H H' : Hp} {v : V} {o : Option (Option (List V) × Option (List V) × V)} (h : ∀ d, N d → ThS d H v o) (e : ∀ b o, ¬ N b → H b = some o → H' b = some o) : ∀ d, N d → ThS d H' v o := fun d hd => by
  have na : ∀ a, v = .ref a → ¬ N a := fun a z => ThS.not_ (H := H) (o := o) (fun d' hd' => by rw [← z]; exact h d' hd')
  have hh := h
  cases h d hd with
  | oth h1 n => exact .oth (h1.mono12 na e) n
  | few h1 n l => exact .few (e _ _ (na _ rfl) h1) n l
  | tri h1 n hx hy hz =>
    rename_i a x y z p q
    have both : ∀ d', N d' → PickS d' H x p ∧ PickS d' H y q := fun d' hd' => by
      have h3 := hh d' hd'
      generalize hv : V.ref a = v' at h3
      generalize ho : (some (p, q, z) : Option (Option (List V) × Option (List V) × V)) = o' at h3
      cases h3 with
      | oth _ _ => cases ho
      | few _ _ _ => cases ho
      | tri h2 _ hx2 hy2 _ =>
        cases hv
        cases ho
        rw [h1] at h2
        cases h2
        exact ⟨hx2, hy2⟩
    exact .tri (e _ _ (na _ rfl) h1) n (PickS.mono12 (fun d' hd' => (both d' hd').1) e d hd) (PickS.mono12 (fun d' hd' => (both d' hd').2) e d hd) hz
def TeTh (N : Addr → Prop) (te : TE) (σ : L2.St) (H : Hp) : Prop := ∀ H1, Ex H H1 → ∀ Q : VK, (∀ v o H2, Ex H1 H2 → (∀ d, N d → ThS d H2 v o) → Q v H2) → te σ H1 Q
def TaTh (N : Addr → Prop) (ta : TA) (σ : L2.St) (H : Hp) (n : Nat) : Prop := ∀ H1, Ex H H1 → ∀ Q : List V → Hp → Prop, (∀ vs H2, Ex H1 H2 → vs.length = n → (∀ v ∈ vs, ∃ o, ∀ d, N d → ThS d H2 v o) → Q vs H2) → ta σ H1 Q
def TePk (N : Addr → Prop) (te : TE) (σ : L2.St) (H : Hp) : Prop := ∀ H1, Ex H H1 → ∀ Q : VK, (∀ v p H2, Ex H1 H2 → (∀ d, N d → PickS d H2 v p) → Q v H2) → te σ H1 Q
def TeSc (te : TE) (σ : L2.St) (H : Hp) : Prop := ∀ H1, Ex H H1 → ∀ Q : VK, (∀ v H2, Ex H1 H2 → Scal v → Q v H2) → te σ H1 Q
def Has (N : Addr → Prop) (H : Hp) : Prop := ∀ d, N d → ∃ o, H d = some o
theorem Has.ex {N : Addr → Prop} {H H' : Hp} (h : Has N H) (e : Ex H H') : Has N H' := fun d hd => by
  obtain ⟨o, ho⟩ := h d hd
  exact ⟨o, e _ _ ho⟩
theorem Has.ne {N : Addr → Prop} {H : Hp} {p : Addr} (h : Has N H) (hp : H p = none) : ∀ d, N d → p ≠ d := fun d hd z => by
  obtain ⟨o, ho⟩ := h d hd
  rw [← z, hp] at ho
  cases ho
section
variable {K : PySem.W.Frag} {N : Addr → Prop} {σ : L2.St} {H : Hp} {n : Nat}
theorem taNil : TaTh N tNil σ H 0 := fun H1 e Q q => q [] H1 (Ex.refl _) rfl fun v hv => nomatch hv
theorem taCons {te : TE} {ta : TA} (h : TeTh N te σ H) (t : TaTh N ta σ H n) : TaTh N (tCons te ta) σ H (n + 1) := fun H1 e Q q => h H1 e _ fun v o H2 e2 hv => t H2 (e.trans e2) _ fun vs H3 e3 l i => q (v :: vs) H3 (e2.trans e3) (by rw [List.length_cons, l]) fun x hx => by
  rcases List.mem_cons.mp hx with rfl | hx
  · exact ⟨o, fun d hd => (hv d hd).kp (.of e3)⟩
  · exact i x hx
theorem teTri {tx ty tz : TE} (hs : Has N H) (h1 : TePk N tx σ H) (h2 : TePk N ty σ H) (h3 : TeSc tz σ H) : TeTh N (tTup (tCons tx (tCons ty (tCons tz tNil)))) σ H := fun H1 e Q q =>
  h1 H1 e _ fun x p H2 e2 hx => h2 H2 (e.trans e2) _ fun y p' H3 e3 hy => h3 H3 ((e.trans e2).trans e3) _ fun z H4 e4 hz => ⟨(by show 3 ≤ sizeLine; decide), fun t nt => by
    have xt := Ex.new (o := .tup [x, y, z]) nt
    exact q (.ref t) _ _ (((e2.trans e3).trans e4).trans xt) fun d hd => .tri upd_same ((hs.ex (((e.trans e2).trans e3).trans e4)).ne nt d hd) ((hx d hd).kp (.of ((e3.trans e4).trans xt))) ((hy d hd).kp (.of (e4.trans xt))) hz⟩
theorem teTwo {tx ty : TE} {x y : V} (hs : Has N H) (h1 : Ev tx σ H x) (h2 : Ev ty σ H y) : TeTh N (tTup (tCons tx (tCons ty tNil))) σ H := fun H1 e Q q =>
  h1 H1 e _ fun H2 e2 => h2 H2 (e.trans e2) _ fun H3 e3 => ⟨(by show 2 ≤ sizeLine; decide), fun t nt => by
    have xt := Ex.new (o := .tup [x, y]) nt
    exact q (.ref t) none _ ((e2.trans e3).trans xt) fun d hd => .few upd_same ((hs.ex ((e.trans e2).trans e3)).ne nt d hd) (by simp)⟩
theorem teFour {tx ty tz tw : TE} {x y z w : V} (hs : Has N H) (h1 : Ev tx σ H x) (h2 : Ev ty σ H y) (h3 : Ev tz σ H z) (h4 : Ev tw σ H w) : TeTh N (tTup (tCons tx (tCons ty (tCons tz (tCons tw tNil))))) σ H := fun H1 e Q q =>
  h1 H1 e _ fun H2 e2 => h2 H2 (e.trans e2) _ fun H3 e3 => h3 H3 ((e.trans e2).trans e3) _ fun H4 e4 => h4 H4 (((e.trans e2).trans e3).trans e4) _ fun H5 e5 => ⟨(by show 4 ≤ sizeLine; decide), fun t nt => by
    have xt := Ex.new (o := .tup [x, y, z, w]) nt
    exact q (.ref t) none _ ((((e2.trans e3).trans e4).trans e5).trans xt) fun d hd => .few upd_same ((hs.ex ((((e.trans e2).trans e3).trans e4).trans e5)).ne nt d hd) (by simp)⟩
theorem teZero (hs : Has N H) : TeTh N (tTup tNil) σ H := fun H1 e Q q => ⟨Nat.zero_le _, fun t nt => q (.ref t) none _ (Ex.new nt) fun d hd => .few upd_same ((hs.ex e).ne nt d hd) (by simp)⟩
theorem teLst {te : TE} {xs : List V} (hs : Has N H) (h : EvL te σ H xs) : TeTh N te σ H := fun H1 e Q q => h H1 e _ fun p H2 np e2 hp => q (.ref p) none H2 e2 fun d hd => .oth (.lst hp ((hs.ex e).ne np d hd)) (by decide)
theorem teDict (hs : Has N H) : TeTh N tDNewK σ H := fun H1 e Q q p hp => q (.ref p) none _ (Ex.new hp) fun d hd => .oth (.dct upd_same ((hs.ex e).ne hp d hd)) (by decide)
theorem teKd {x : V} {t : String} (h : ∀ d H, Kd d H x t) (n : t ≠ "tuple") : TeTh N (tC x) σ H := fun H1 e Q q => q x none H1 (Ex.refl _) fun d _ => .oth (h d H1) n
theorem pkL {te : TE} {xs : List V} (hs : Has N H) (h : EvL te σ H xs) (l : xs.length ≤ 20) (i : ∀ x ∈ xs, ScalL x) : TePk N te σ H := fun H1 e Q q => h H1 e _ fun p H2 np e2 hp => q (.ref p) _ H2 e2 fun d hd => .lst hp ((hs.ex e).ne np d hd) l i
theorem pkV {j : Nat} {v : V} {p : Option (List V)} (h : σ[j]? = some (some v)) (hp : ∀ d, N d → PickS d H v p) : TePk N (tVar j) σ H := fun H1 e Q q => ⟨v, h, q v p H1 (Ex.refl _) fun d hd => (hp d hd).kp (.of e)⟩
theorem pkN : TePk N (tC .non) σ H := fun H1 e Q q => q .non none H1 (Ex.refl _) fun d _ => .oth .non (by decide)
theorem pkT {j : Nat} {a : Addr} {xs : List V} (hs : Has N H) (h : σ[j]? = some (some (.ref a))) (ha : H a = some (.lst xs)) : TePk N (tCB (fun us H Q => ∃ p ys, us = [V.ref p] ∧ ((SqL K H p ys ∧ ∀ l, H l = none → Q (.ref l) (upd H l (.tup ys))) ∨ (SqT K H p ys ∧ Q (.ref p) H))) (tCons (tVar j) tNil)) σ H := fun H1 e Q q =>
  ⟨_, h, a, xs, rfl, .inl ⟨SqL.of (e _ _ ha), fun l hl => q (.ref l) none _ (Ex.new hl) fun d hd => .oth (.tup upd_same ((hs.ex e).ne hl d hd)) (by decide)⟩⟩
theorem scV {j : Nat} {v : V} (h : σ[j]? = some (some v)) (hv : Scal v) : TeSc (tVar j) σ H := fun H1 e Q q => ⟨v, h, q v H1 (Ex.refl _) hv⟩
theorem scE {te : TE} {v : V} (h : Ev te σ H v) (hv : Scal v) : TeSc te σ H := fun H1 e Q q => h H1 e _ fun H2 e2 => q v H2 e2 hv
/-- some + [..] -/
theorem th_cat {ta : TA} {j k : Nat} {L : Addr} {xs : List V} {Q : VK} (hj : σ[j]? = some (some (.ref L))) (hL : H L = some (.lst xs)) (hx : ∀ x ∈ xs, ∃ o, ∀ d, N d → ThS d H x o) (lx : xs.length = n) (n1 : n + k ≤ 1000) (ht : TaTh N ta σ H k) (q : ∀ D ys H2, Ex H H2 → H2 D = some (.lst ys) → ys.length = n + k → (∀ y ∈ ys, ∃ o, ∀ d, N d → ThS d H2 y o) → Q (.ref D) H2) : tOp rCat (tVar j) (tLst ta) σ H Q :=
  ⟨_, hj, ht H (Ex.refl _) _ fun vs H1 e1 l i => ⟨by rw [l]; exact Nat.le_of_lt (small1000 (by omega)), fun M nM => by
    have xM := Ex.new (o := .lst vs) nM
    refine ⟨L, M, xs, vs, rfl, rfl, (e1.trans xM) _ _ hL, upd_same, by rw [lx, l]; exact Nat.le_of_lt (small1000 n1), fun D nD => ?_⟩
    have xD := Ex.new (o := .lst (xs ++ vs)) nD
    refine q D (xs ++ vs) _ ((e1.trans xM).trans xD) upd_same (by rw [List.length_append, lx, l]) fun y hy => ?_
    rcases List.mem_append.mp hy with h | h
    · obtain ⟨o, ho⟩ := hx y h
      exact ⟨o, fun d hd => (ho d hd).kp (.of ((e1.trans xM).trans xD))⟩
    · obtain ⟨o, ho⟩ := i y h
      exact ⟨o, fun d hd => (ho d hd).kp (.of (xM.trans xD))⟩⟩⟩
end
theorem asg_ix12 {K : PySem.W.Frag} {ta tb : TE} {g : TG} {D : Ends} {σ : L2.St} {H : Hp} (h : ta σ H fun v H1 => tb σ H1 fun u H2 => rIxL K v u H2 (fun x H3 => g x σ H3 D.nx)) : tAsg (tOp (rIxL K) ta tb) g D σ H := h
theorem log_bd12 {v : Int} (h : Bd 1800 v) : v.natAbs.log2 < 1920 := by
  by_cases c : v.natAbs = 0
  · rw [c]
    decide
  · exact (Nat.log2_lt c).mpr (Nat.lt_of_lt_of_le h (Nat.pow_le_pow_right (by decide) (by decide)))
theorem scS12 {σ : L2.St} {H : Hp} {j : Nat} {v : Int} (h : σ[j]? = some (some (.int v))) (lg : v.natAbs.log2 < 1920) : TeSc (tCB (fun xs H Q => ∃ i, xs = [V.int i] ∧ i.natAbs.log2 < 1920 ∧ Q (.str (toString i)) H) (tCons (tVar j) tNil)) σ H := fun H1 e Q q => ⟨_, h, v, rfl, lg, q _ H1 (Ex.refl _) (.inr (.inr (.inr ⟨_, rfl⟩)))⟩
theorem at_mem12 {xs : List V} {f : Int} (h0 : 0 ≤ f) (h1 : f < (xs.length : Nat)) : ∃ x, atI xs f = some x ∧ x ∈ xs := by
  have hl : f.toNat < xs.length := by omega
  refine ⟨xs[f.toNat], ?_, List.getElem_mem _⟩
  have := atI_nat (xs := xs) (j := f.toNat) (List.getElem?_eq_getElem hl)
  rwa [show ((f.toNat : Nat) : Int) = f by omega] at this
theorem mul2 {v : Int} (h : Bd 1800 v) : CMulW 2 v := (show Bd 10 2 from by unfold Bd; decide).mulOk h
theorem el_sl12 {K : PySem.W.Frag} {te : TE} {tl th : TO} {σ : L2.St} {H : Hp} {a : Addr} {xs : List V} {lo hi : Option Int} (h : Ev te σ H (.ref a)) (h1 : EvO tl σ H lo) (h2 : EvO th σ H hi) (hs : H a = some (.lst xs)) : EvL (tSl (rSlL K) te tl th) σ H (cutV xs lo hi) := fun H1 e Q q =>
  h H1 e _ fun H2 e2 => h1 H2 (e.trans e2) _ fun H3 e3 => h2 H3 ((e.trans e2).trans e3) _ fun H4 e4 => by
    have e14 := (e2.trans e3).trans e4
    have ha := (e.trans e14) _ _ hs
    exact ⟨a, xs, rfl, SqL.of ha, fun p np => q p _ (fresh_back e14 np) (e14.trans (Ex.new np)) upd_same⟩
theorem cut_sub12 {xs : List V} {lo hi : Option Int} : (cutV xs lo hi).length ≤ xs.length ∧ ∀ x ∈ cutV xs lo hi, x ∈ xs := ⟨by unfold cutV; rw [List.length_take, List.length_drop]; omega, fun x h => List.mem_of_mem_drop (List.mem_of_mem_take h)⟩

def sp__law_forged (K : PySem.W.Frag) : Sp := fun vs H Q _ => ∃ (s D t a b : Addr) (n v : Int) (rs cs : List Nat), vs = [.ref s, .ref t] ∧ SrcAt H s n ∧ n ≤ 400000000 ∧ (∃ o, H D = some o) ∧ D ≠ s ∧ t ≠ D ∧ a ≠ D ∧ b ≠ D ∧ H t = some (.tup [.ref a, .ref b, .int v]) ∧ H a = some (.lst ((Sg.zs rs).map V.int)) ∧ H b = some (.lst ((Sg.zs cs).map V.int)) ∧ rs ≠ [] ∧ cs.length = rs.length ∧ rs.length ≤ 8 ∧ Bd 1800 v ∧ t ≠ s ∧ a ≠ s ∧ b ≠ s ∧
  ∀ x o H', (∀ d, (d = s ∨ d = D) → ThS d H' x o) → ExB s H H' → SrcAt H' s (n + 10) → Q x H'

theorem ok__law_forged (T : Txt K mg) : FnOk P w K mg base CX0 2 T.f__law_forged T.fd__law_forged ["_law_source", "_law_some_thing"] (sp__law_forged K) := by
  refine Fun.ok T.F__law_forged sc__law_forged (fun vs H Q E h => ?_) (fun cdv A outer s H vs Q E hr h => ?_)
  · obtain ⟨_, _, _, _, _, _, _, _, _, rfl, _⟩ := h; rfl
  · refine ⟨_, (pss_cons (ps_asg (pv 1) (pg_tup rfl (pgs_cons (pg_name (i := 2) sc__law_forged.nd rfl (by first | exact Or.inl rfl | exact Or.inr rfl)) (pgs_cons (pg_name (i := 3) sc__law_forged.nd rfl (by first | exact Or.inl rfl | exact Or.inr rfl)) (pgs_cons (pg_name (i := 4) sc__law_forged.nd rfl (by first | exact Or.inl rfl | exact Or.inr rfl)) pgs_nil)))))
      (pss_cut (ps_set (i := 5) sc__law_forged.nd rfl (by first | exact Or.inl rfl | exact Or.inr rfl) (pe_call (ok__law_next T) hr (by rfl) T.g__law_next T.k__law_next T.b__law_next .nil pass0 (pa_cons (pv 0) (pa_cons (pe_callB (id := "len") (r := rLenS K) call_len_seq (by rfl) T.n_len PySem.boot_len (pa_cons (pv 2) pa_nil)) pa_nil))))
      (pss_cut (ps_set (i := 6) sc__law_forged.nd rfl (by first | exact Or.inl rfl | exact Or.inr rfl) (pe_ix (r := rIxL K) ix_list (pe_lst (pa_cons (pe_op op_add (pe_ix (r := rIxL K) ix_list (pv 2) (pv 5) (fun _ _ => rfl)) pe_int) (pa_cons (pe_un un_neg pe_int) (pa_cons pe_bl (pa_cons pe_non (pa_cons pe_str (pa_cons pe_int (pa_cons (pe_op op_sub (pe_ix (r := rIxL K) ix_list (pv 2) (pv 5) (fun _ _ => rfl)) pe_int) pa_nil)))))))) (pe_call (ok__law_next T) hr (by rfl) T.g__law_next T.k__law_next T.b__law_next .nil pass0 (pa_cons (pv 0) (pa_cons pe_int pa_nil))) (fun _ _ => rfl)))
      (pss_cut (ps_set (i := 7) sc__law_forged.nd rfl (by first | exact Or.inl rfl | exact Or.inr rfl) (pe_lst (pa_cons (pe_tup (pa_cons (pv 2) (pa_cons (pv 3) (pa_cons (pe_op op_add (pv 4) (pe_ix (r := rIxL K) ix_list (pe_lst (pa_cons pe_int (pa_cons (pe_un un_neg pe_int) (pa_cons (pe_op op_sub pe_int (pe_op op_mulW pe_int (pv 4))) pa_nil)))) (pe_call (ok__law_next T) hr (by rfl) T.g__law_next T.k__law_next T.b__law_next .nil pass0 (pa_cons (pv 0) (pa_cons pe_int pa_nil))) (fun _ _ => rfl))) pa_nil)))) (pa_cons (pe_tup (pa_cons (pv 3) (pa_cons (pv 2) (pa_cons (pv 4) pa_nil)))) pa_nil))))
      (pss_cut (ps_set (i := 7) sc__law_forged.nd rfl (by first | exact Or.inl rfl | exact Or.inr rfl) (pe_op op_cat (pv 7) (pe_lst (pa_cons (pe_tup (pa_cons (pe_op op_cat (pe_op op_cat (pe_slice (r := rSlL K) sl_list (pv 2) po_none (po_some (pv 5))) (pe_lst (pa_cons (pv 6) pa_nil))) (pe_slice (r := rSlL K) sl_list (pv 2) (po_some (pe_op op_add (pv 5) pe_int)) po_none)) (pa_cons (pv 3) (pa_cons (pv 4) pa_nil)))) (pa_cons (pe_tup (pa_cons (pv 2) (pa_cons (pe_op op_cat (pe_slice (r := rSlL K) sl_list (pv 3) po_none (po_some (pv 5))) (pe_lst (pa_cons (pv 6) pa_nil))) (pa_cons (pv 4) pa_nil)))) pa_nil)))))
      (pss_cut (ps_set (i := 7) sc__law_forged.nd rfl (by first | exact Or.inl rfl | exact Or.inr rfl) (pe_op op_cat (pv 7) (pe_lst (pa_cons (pe_tup (pa_cons (pe_revL (pv 2)) (pa_cons (pv 3) (pa_cons (pv 4) pa_nil)))) (pa_cons (pe_tup (pa_cons (pe_op op_cat (pv 2) (pe_slice (r := rSlL K) sl_list (pv 2) (po_some (pe_un un_neg pe_int)) po_none)) (pa_cons (pe_op op_cat (pv 3) (pe_slice (r := rSlL K) sl_list (pv 3) (po_some (pe_un un_neg pe_int)) po_none)) (pa_cons (pv 4) pa_nil)))) (pa_cons (pe_callTy (T := "list") (r := rListS K) call_list_of (by rfl) T.n_list (by decide +kernel) (pa_cons (pv 1) pa_nil)) pa_nil))))))
      (pss_cut (ps_set (i := 7) sc__law_forged.nd rfl (by first | exact Or.inl rfl | exact Or.inr rfl) (pe_op op_cat (pv 7) (pe_lst (pa_cons (pe_tup (pa_cons (pv 2) (pa_cons (pv 3) pa_nil))) (pa_cons (pe_tup (pa_cons (pv 2) (pa_cons (pv 3) (pa_cons (pv 4) (pa_cons pe_int pa_nil))))) (pa_cons (pe_tup (pa_cons (pe_callTy (T := "tuple") call_tuple_of (by rfl) T.n_tuple (by decide +kernel) (pa_cons (pv 2) pa_nil)) (pa_cons (pv 3) (pa_cons (pv 4) pa_nil)))) (pa_cons (pe_tup (pa_cons (pv 2) (pa_cons pe_non (pa_cons (pv 4) pa_nil)))) pa_nil)))))))
      (pss_cut (ps_set (i := 7) sc__law_forged.nd rfl (by first | exact Or.inl rfl | exact Or.inr rfl) (pe_op op_cat (pv 7) (pe_lst (pa_cons (pe_tup (pa_cons (pv 2) (pa_cons (pv 3) (pa_cons (pe_callTy (T := "str") call_str_int (by rfl) T.n_str (by decide +kernel) (pa_cons (pv 4) pa_nil)) pa_nil)))) (pa_cons (pe_tup (pa_cons (pv 2) (pa_cons (pv 3) (pa_cons pe_non pa_nil)))) (pa_cons pe_non (pa_cons pe_bl (pa_cons pe_str (pa_cons pe_dnewK (pa_cons (pe_lst pa_nil) (pa_cons (pe_tup pa_nil) pa_nil)))))))))))
      (pss_one (ps_ret (pe_ix (r := rIxL K) ix_list (pv 7) (pe_call (ok__law_next T) hr (by rfl) T.g__law_next T.k__law_next T.b__law_next .nil pass0 (pa_cons (pv 0) (pa_cons pe_int pa_nil))) (fun _ _ => rfl)))))))))))), ?_⟩
    obtain ⟨s, D, t, a, b, n, v, rs, cs, rfl, hs, hn, ⟨oD, hD⟩, nDs, ntD, naD, nbD, ht, ha, hb, r0, hl, l8, bv, nts, nas, nbs, k⟩ := h
    have na : ∀ d, (d = s ∨ d = D) → a ≠ d := fun d hd => by rcases hd with rfl | rfl <;> assumption
    have nb : ∀ d, (d = s ∨ d = D) → b ≠ d := fun d hd => by rcases hd with rfl | rfl <;> assumption
    have has : ∀ {G : Hp} {m : Int}, SrcAt G s m → ExB s H G → Has (fun d => d = s ∨ d = D) G := fun {G m} h e d hd => by
      rcases hd with rfl | rfl
      · exact h.obj
      · exact ⟨oD, e _ _ nDs hD⟩
    refine ⟨_, rfl, t, _, rfl, SqT.of ht, rfl, _, _, rfl, _, _, rfl, _, _, rfl, rfl, ?_⟩
    have zl1 : ((Sg.zs rs).map V.int).length = rs.length := by unfold Sg.zs; rw [List.length_map, List.length_map]
    have zl2 : ((Sg.zs cs).map V.int).length = rs.length := by unfold Sg.zs; rw [List.length_map, List.length_map, hl]
    have r1 : 1 ≤ rs.length := List.length_pos_iff.mpr r0
    have zi : ∀ (l : List Nat) (x : V), x ∈ (Sg.zs l).map V.int → ScalL x := fun l x hx => by
      obtain ⟨i, _, rfl⟩ := List.mem_map.mp hx
      exact .inl ⟨i, rfl⟩
    refine ⟨fun σ' H' => ∃ at_ : Nat, σ' = [some (.ref s), some (.ref t), some (.ref a), some (.ref b), some (.int v), some (.int at_), none, none] ∧ at_ < rs.length ∧ ExB s H H' ∧ SrcAt H' s (n + 1), ?_, ?_⟩
    · refine ⟨_, rfl, ?_⟩
      refine (ev_is (ev_len (K := K) (ev_var (i := 2) rfl) (SqL.of ha)) (show V.int (((Sg.zs rs).map V.int).length : Nat) = .int (rs.length : Nat) by rw [zl1])) H (Ex.refl _) _ fun H1 e1 => ?_
      refine ⟨s, _, n, rfl, hs.ex e1, by omega, by omega, ?_, fun f H2 f0 f1 e2 s2 => ⟨f.toNat, by rw [show ((f.toNat : Nat) : Int) = f by omega]; rfl, by omega, (ExB.of e1).trans e2, s2⟩⟩
      unfold Bd
      exact Nat.lt_of_lt_of_le (show (rs.length : Int).natAbs < 1024 by omega) (by decide +kernel)
    rintro _ H1 ⟨at_, rfl, hat, e1, s1⟩
    have ha1 := e1 _ _ nas ha
    have hb1 := e1 _ _ nbs hb
    have ht1 := e1 _ _ nts ht
    obtain ⟨row, hrow⟩ : ∃ r : Int, atI ((Sg.zs rs).map V.int) (at_ : Int) = some (.int r) := by
      obtain ⟨x, h1, h2⟩ := at_mem12 (xs := (Sg.zs rs).map V.int) (f := (at_ : Int)) (by omega) (by rw [zl1]; omega)
      obtain ⟨i, _, rfl⟩ := List.mem_map.mp h2
      exact ⟨i, h1⟩
    have erow : Ev (tOp (rIxL K) (tVar 2) (tVar 5)) [some (.ref s), some (.ref t), some (.ref a), some (.ref b), some (.int v), some (.int at_), none, none] H1 (.int row) := ev_op (ev_var (i := 2) rfl) (ev_var (i := 5) rfl) (rv_ixL (SqL.of ha1) hrow)
    refine ⟨fun σ' H' => ∃ other : V, σ' = [some (.ref s), some (.ref t), some (.ref a), some (.ref b), some (.int v), some (.int at_), some other, none] ∧ ScalL other ∧ ExB s H H' ∧ SrcAt H' s (n + 1 + 1), ?_, ?_⟩
    · refine asg_ix12 ?_
      refine (el_lst (ea_cons (ev_op erow ev_c rv_I0) (ea_cons (ev_un (x := .int 1) ev_c ru_neg) (ea_cons ev_c (ea_cons ev_c (ea_cons ev_c (ea_cons ev_c (ea_cons (ev_op erow ev_c rv_I0) ea_nil))))))) (Nat.le_of_ble_eq_true rfl)) H1 (Ex.refl _) _ fun L H2 nL e2 hL => ?_
      have s2 := s1.ex e2
      refine ⟨_, rfl, s, 7, _, rfl, s2, by omega, by decide, (by unfold Bd; decide +kernel), fun f H3 f0 f1 e3 s3 => ?_⟩
      obtain ⟨x, hx, hm⟩ := at_mem12 (xs := [V.int (row + 1), .int (-1), .bl true, .non, .str "0", .int 0, .int (row - 1)]) f0 f1
      refine ⟨L, _, f, x, rfl, rfl, SqL.of (e3 _ _ (s1.ne nL) hL), hx, x, rfl, ?_, e1.trans ((ExB.of e2).trans e3), s3⟩
      simp only [List.mem_cons, List.not_mem_nil, or_false] at hm
      rcases hm with rfl | rfl | rfl | rfl | rfl | rfl | rfl
      · exact .inl ⟨_, rfl⟩
      · exact .inl ⟨_, rfl⟩
      · exact .inr (.inr (.inl ⟨_, rfl⟩))
      · exact .inr (.inl rfl)
      · exact .inr (.inr (.inr rfl))
      · exact .inl ⟨_, rfl⟩
      · exact .inl ⟨_, rfl⟩
    clear erow
    rintro _ H2 ⟨other, rfl, ho, e2, s2⟩
    clear ha1 hb1 ht1 e1 s1
    have ha2 := e2 _ _ nas ha
    have hb2 := e2 _ _ nbs hb
    have ht2 := e2 _ _ nts ht
    have pk1 : ∀ {G : Hp}, G a = some (.lst ((Sg.zs rs).map V.int)) → ∀ d, (d = s ∨ d = D) → PickS d G (.ref a) (some ((Sg.zs rs).map V.int)) := fun h d hd => .lst h (na d hd) (by rw [zl1]; omega) (zi rs)
    have pk2 : ∀ {G : Hp}, G b = some (.lst ((Sg.zs cs).map V.int)) → ∀ d, (d = s ∨ d = D) → PickS d G (.ref b) (some ((Sg.zs cs).map V.int)) := fun h d hd => .lst h (nb d hd) (by rw [zl2]; omega) (zi cs)
    -- two
    refine ⟨fun σ' H' => ∃ (L : Addr) (xs : List V), σ' = [some (.ref s), some (.ref t), some (.ref a), some (.ref b), some (.int v), some (.int at_), some other, some (.ref L)] ∧ H' L = some (.lst xs) ∧ xs.length = 2 ∧ (∀ x ∈ xs, ∃ o, ∀ d, (d = s ∨ d = D) → ThS d H' x o) ∧ ExB s H2 H' ∧ SrcAt H' s (n + 1 + 1 + 1) ∧ L ≠ s, ?_, ?_⟩
    · refine ⟨_, rfl, _, rfl, _, rfl, ?_⟩
      refine (el_lst (ea_cons ev_c (ea_cons (ev_un (x := .int 1) ev_c ru_neg) (ea_cons (ev_op ev_c (ev_op ev_c (ev_var (i := 4) rfl) (rv_I (mul2 bv))) rv_I0) ea_nil))) (Nat.le_of_ble_eq_true rfl)) H2 (Ex.refl _) _ fun L H3 nL e3 hL => ?_
      have s3 := s2.ex e3
      refine ⟨_, rfl, s, 3, _, rfl, s3, by omega, by decide, (by unfold Bd; decide +kernel), fun f H4 f0 f1 e4 s4 => ?_⟩
      obtain ⟨x, hx, hm⟩ := at_mem12 (xs := [V.int 1, .int (-1), .int (0 - 2 * v)]) f0 f1
      obtain ⟨d, rfl⟩ : ∃ d : Int, x = .int d := by
        simp only [List.mem_cons, List.not_mem_nil, or_false] at hm
        rcases hm with rfl | rfl | rfl <;> exact ⟨_, rfl⟩
      refine ⟨L, _, f, _, rfl, rfl, SqL.of (e4 _ _ (s2.ne nL) hL), hx, _, _, rfl, rfl, (by show 3 ≤ sizeLine; decide), fun t1 nt1 => ?_⟩
      have x1 := Ex.new (o := .tup [V.ref a, .ref b, .int (v + d)]) nt1
      have e24 := (ExB.of e3).trans e4
      refine ⟨_, rfl, _, rfl, _, rfl, (by show 3 ≤ sizeLine; decide), fun t2 nt2 => ⟨(by show 2 ≤ sizeLine; decide), fun L2 nL2 => ?_⟩⟩
      have x2 := Ex.new (o := .tup [V.ref b, .ref a, .int v]) nt2
      have x3 := Ex.new (o := .lst [V.ref t1, .ref t2]) nL2
      refine ⟨L2, _, rfl, upd_same, rfl, fun x hx => ?_, e24.trans (ExB.of (x1.trans (x2.trans x3))), s4.ex (x1.trans (x2.trans x3)), ((s4.ex x1).ex x2).ne nL2⟩
      have hA := (x1.trans (x2.trans x3)) _ _ (e24 _ _ nas ha2)
      have hB := (x1.trans (x2.trans x3)) _ _ (e24 _ _ nbs hb2)
      have f4 := has s4 (e2.trans e24)
      rcases List.mem_cons.mp hx with rfl | hx
      · exact ⟨_, fun d hd => .tri ((x2.trans x3) _ _ upd_same) (f4.ne nt1 d hd) (pk1 hA d hd) (pk2 hB d hd) (.inl ⟨_, rfl⟩)⟩
      · rw [List.mem_singleton.mp hx]
        exact ⟨_, fun d hd => .tri (x3 _ _ upd_same) ((f4.ex x1).ne nt2 d hd) (pk2 hB d hd) (pk1 hA d hd) (.inl ⟨_, rfl⟩)⟩
    rintro _ H3 ⟨L, xs, rfl, hL, lx, hx, e3, s3, nL⟩
    have ha3 := e3 _ _ nas ha2
    have hb3 := e3 _ _ nbs hb2
    have ht3 := e3 _ _ nts ht2
    have P1 := pk1 ha3
    have P2 := pk2 hb3
    have e03 := e2.trans e3
    have z3 := has s3 e03
    clear ha2 hb2 ht2 e2 e3 s2
    have sv : Scal (V.int v) := .inl ⟨v, rfl⟩
    -- four
    have q1 := cut_sub12 (xs := (Sg.zs rs).map V.int) (lo := none) (hi := some (at_ : Int))
    have q2 := cut_sub12 (xs := (Sg.zs rs).map V.int) (lo := some ((at_ : Int) + 1)) (hi := none)
    have q3 := cut_sub12 (xs := (Sg.zs cs).map V.int) (lo := none) (hi := some (at_ : Int))
    refine ⟨fun σ' H' => ∃ (L : Addr) (xs : List V), σ' = [some (.ref s), some (.ref t), some (.ref a), some (.ref b), some (.int v), some (.int at_), some other, some (.ref L)] ∧ H' L = some (.lst xs) ∧ xs.length = 4 ∧ (∀ x ∈ xs, ∃ o, ∀ d, (d = s ∨ d = D) → ThS d H' x o) ∧ Ex H3 H', ?_, ?_⟩
    · refine th_cat (n := 2) (k := 2) (j := 7) rfl hL hx lx (by omega) (taCons (teTri z3 (pkL z3 (ec_cat (ec_cat (el_sl12 (K := K) (lo := none) (hi := some at_) (ev_var (i := 2) rfl) eo_none (eo_some (ev_var (i := 5) rfl)) ha3) (el_lst (ea_cons (ev_var (i := 6) rfl) ea_nil) (Nat.le_of_ble_eq_true rfl)) (by have := (cut_sub12 (xs := (Sg.zs rs).map V.int) (lo := none) (hi := some at_)).1; simp only [List.length_cons, List.length_nil]; omega)) (el_sl12 (K := K) (lo := some ((at_ : Int) + 1)) (hi := none) (ev_var (i := 2) rfl) (eo_some (ev_op (ev_var (i := 5) rfl) ev_c rv_I0)) eo_none ha3) ?_) ?_ ?_) (pkV (v := .ref b) rfl P2) (scV rfl sv)) (taCons (teTri z3 (pkV (v := .ref a) rfl P1) (pkL z3 (ec_cat (el_sl12 (K := K) (lo := none) (hi := some at_) (ev_var (i := 3) rfl) eo_none (eo_some (ev_var (i := 5) rfl)) hb3) (el_lst (ea_cons (ev_var (i := 6) rfl) ea_nil) (Nat.le_of_ble_eq_true rfl)) ?_) ?_ ?_) (scV rfl sv)) taNil)) fun D' ys H4 e4 h1 h2 h3 => ⟨D', ys, rfl, h1, h2, h3, e4⟩
      · simp only [List.length_append, List.length_cons, List.length_nil]
        omega
      · simp only [List.length_append, List.length_cons, List.length_nil]
        omega
      · intro x hx
        rcases List.mem_append.mp hx with h | h
        · rcases List.mem_append.mp h with h | h
          · exact zi rs _ (q1.2 _ h)
          · rw [List.mem_singleton.mp h]
            exact ho
        · exact zi rs _ (q2.2 _ h)
      · simp only [List.length_cons, List.length_nil]
        omega
      · simp only [List.length_append, List.length_cons, List.length_nil]
        omega
      · intro x hx
        rcases List.mem_append.mp hx with h | h
        · exact zi cs _ (q3.2 _ h)
        · rw [List.mem_singleton.mp h]
          exact ho
    rintro _ H4 ⟨L, xs, rfl, hL, lx, hx, e4⟩
    have ha4 := e4 _ _ ha3
    have hb4 := e4 _ _ hb3
    have ht4 := e4 _ _ ht3
    have P1 := fun d hd => (P1 d hd).kp (Kp.of e4)
    have P2 := fun d hd => (P2 d hd).kp (Kp.of e4)
    have z4 := z3.ex e4
    have s4 := s3.ex e4
    have e04 := e03.trans (ExB.of e4)
    clear ha3 hb3 ht3 s3 e03 q1 q2 q3
    -- seven
    have q1 := cut_sub12 (xs := (Sg.zs rs).map V.int) (lo := some (-1)) (hi := none)
    have q2 := cut_sub12 (xs := (Sg.zs cs).map V.int) (lo := some (-1)) (hi := none)
    refine ⟨fun σ' H' => ∃ (L : Addr) (xs : List V), σ' = [some (.ref s), some (.ref t), some (.ref a), some (.ref b), some (.int v), some (.int at_), some other, some (.ref L)] ∧ H' L = some (.lst xs) ∧ xs.length = 7 ∧ (∀ x ∈ xs, ∃ o, ∀ d, (d = s ∨ d = D) → ThS d H' x o) ∧ Ex H4 H', ?_, ?_⟩
    · refine th_cat (n := 4) (k := 3) (j := 7) rfl hL hx lx (by omega) (taCons (teTri z4 (pkL z4 (el_rev (K := K) (ev_var (i := 2) rfl) ha4) (by rw [List.length_reverse]; omega) (fun x hx => zi rs x (List.mem_reverse.mp hx))) (pkV (v := .ref b) rfl P2) (scV (v := .int v) rfl sv)) (taCons (teTri z4 (pkL z4 (el_catVL (ev_var (i := 2) rfl) ha4 (el_sl12 (K := K) (lo := some (-1)) (hi := none) (ev_var (i := 2) rfl) (eo_some (ev_un (x := .int 1) ev_c ru_neg)) eo_none ha4) (by omega)) (by rw [List.length_append]; omega) (fun x hx => (List.mem_append.mp hx).elim (zi rs x) fun h => zi rs x (q1.2 _ h))) (pkL z4 (el_catVL (ev_var (i := 3) rfl) hb4 (el_sl12 (K := K) (lo := some (-1)) (hi := none) (ev_var (i := 3) rfl) (eo_some (ev_un (x := .int 1) ev_c ru_neg)) eo_none hb4) (by omega)) (by rw [List.length_append]; omega) (fun x hx => (List.mem_append.mp hx).elim (zi cs x) fun h => zi cs x (q2.2 _ h))) (scV (v := .int v) rfl sv)) (taCons (teLst z4 (el_listT (K := K) (ev_var (i := 1) rfl) ht4)) taNil))) fun D' ys H5 e5 h1 h2 h3 => ⟨D', ys, rfl, h1, h2, h3, e5⟩
    rintro _ H5 ⟨L, xs, rfl, hL, lx, hx, e5⟩
    have ha5 := e5 _ _ ha4
    have P1 := fun d hd => (P1 d hd).kp (Kp.of e5)
    have P2 := fun d hd => (P2 d hd).kp (Kp.of e5)
    have z5 := z4.ex e5
    have s5 := s4.ex e5
    have e05 := e04.trans (ExB.of e5)
    clear ha4 hb4 ht4 s4 e04 q1 q2
    -- eleven
    refine ⟨fun σ' H' => ∃ (L : Addr) (xs : List V), σ' = [some (.ref s), some (.ref t), some (.ref a), some (.ref b), some (.int v), some (.int at_), some other, some (.ref L)] ∧ H' L = some (.lst xs) ∧ xs.length = 11 ∧ (∀ x ∈ xs, ∃ o, ∀ d, (d = s ∨ d = D) → ThS d H' x o) ∧ Ex H5 H', ?_, ?_⟩
    · refine th_cat (n := 7) (k := 4) (j := 7) rfl hL hx lx (by omega) (taCons (teTwo (x := .ref a) (y := .ref b) z5 (ev_var (i := 2) rfl) (ev_var (i := 3) rfl)) (taCons (teFour (x := .ref a) (y := .ref b) (z := .int v) z5 (ev_var (i := 2) rfl) (ev_var (i := 3) rfl) (ev_var (i := 4) rfl) ev_c) (taCons (teTri z5 (pkT (K := K) (j := 2) z5 rfl ha5) (pkV (v := .ref b) rfl P2) (scV (v := .int v) rfl sv)) (taCons (teTri z5 (pkV (v := .ref a) rfl P1) pkN (scV (v := .int v) rfl sv)) taNil)))) fun D' ys H6 e6 h1 h2 h3 => ⟨D', ys, rfl, h1, h2, h3, e6⟩
    rintro _ H6 ⟨L, xs, rfl, hL, lx, hx, e6⟩
    have P1 := fun d hd => (P1 d hd).kp (Kp.of e6)
    have P2 := fun d hd => (P2 d hd).kp (Kp.of e6)
    have z6 := z5.ex e6
    have s6 := s5.ex e6
    have e06 := e05.trans (ExB.of e6)
    clear ha5 s5 e05
    -- nineteen
    have lg : v.natAbs.log2 < 1920 := log_bd12 bv
    refine ⟨fun σ' H' => ∃ (L : Addr) (xs : List V), σ' = [some (.ref s), some (.ref t), some (.ref a), some (.ref b), some (.int v), some (.int at_), some other, some (.ref L)] ∧ H' L = some (.lst xs) ∧ xs.length = 19 ∧ (∀ x ∈ xs, ∃ o, ∀ d, (d = s ∨ d = D) → ThS d H' x o) ∧ Ex H6 H', ?_, ?_⟩
    · refine th_cat (n := 11) (k := 8) (j := 7) rfl hL hx lx (by omega) (taCons (teTri z6 (pkV (v := .ref a) rfl P1) (pkV (v := .ref b) rfl P2) (scS12 (j := 4) rfl lg)) (taCons (teTri z6 (pkV (v := .ref a) rfl P1) (pkV (v := .ref b) rfl P2) (scE ev_c (.inr (.inl rfl)))) (taCons (teKd (fun _ _ => .non) (by decide)) (taCons (teKd (fun _ _ => .bl true) (by decide)) (taCons (teKd (fun _ _ => .str _) (by decide)) (taCons (teDict z6) (taCons (teLst (xs := []) z6 (el_lst ea_nil (Nat.le_of_ble_eq_true rfl))) (taCons (teZero z6) taNil)))))))) fun D' ys H7 e7 h1 h2 h3 => ⟨D', ys, rfl, h1, h2, h3, e7⟩
    rintro _ H7 ⟨L, xs, rfl, hL, lx, hx, e7⟩
    refine ⟨_, rfl, _, rfl, s, 19, _, rfl, s6.ex e7, by omega, by decide, (by unfold Bd; decide +kernel), fun f H8 f0 f1 e8 s8 => ?_⟩
    obtain ⟨x, hat2, hm⟩ := at_mem12 (xs := xs) (f := f) f0 (by rw [lx]; omega)
    obtain ⟨o, hO⟩ := hx x hm
    have nLs : L ≠ s := fun z => by
      obtain ⟨_, _, _, h1, _⟩ := s6.ex e7
      rw [z, h1] at hL
      have := congrArg (fun q => match q with | some (HO.lst l) => l.length | _ => 0) hL
      have l3 : (3 : Nat) = xs.length := this
      omega
    exact ⟨L, _, f, x, rfl, rfl, SqL.of (e8 _ _ nLs hL), hat2, k x o H8 (ThS.mono12 hO fun b o nb h => e8 b o (fun z => nb (.inl z)) h) (e06.trans ((ExB.of e7).trans e8)) (s8.le (by omega))⟩
-- DEF check_places

def sp_check_places (C : Addr) : Sp := fun vs H Q E => ∃ (s : Addr) (v : V) (n : Int) (p : Option (List V)), vs = [v, .int n] ∧ PickAt s H v p ∧ (match firstOf p n 0 with | none => ∀ H', Ex H H' → Q .non H' | some i => RaiseNP C H i E)

theorem ok_check_places (T : Txt K mg) : FnOk P w K mg base (L2.CX P w) 3 T.f_check_places T.fd_check_places ["thing", "many"] (sp_check_places T.f_NoPick) := by
  refine Fun.okX T.F_check_places sc_check_places (fun vs H Q E h => ?_) (fun cdv A outer s H vs Q E hr h => ?_)
  · obtain ⟨_, _, _, _, rfl, _⟩ := h; rfl
  · refine ⟨_, (pss_cons (ps_if (pt_not (pt_val (pe_callB (id := "isinstance") (r := rIsi K) call_isi (by rfl) T.n_isinstance (by decide +kernel) (pa_cons (pv 0) (pa_cons (pe_bltn (v := .ty "list") (by rfl) T.n_list (by decide +kernel) rfl) pa_nil)))))
        (pss_one (ps_raise rfl (takes_of rfl rfl rfl rfl) (pmk_ownA T.own_NoPick T.i_NoPick T.ty_NoPick (ok_init_NoPick T) (hr.mono (by decide)) T.b_init_NoPick pass0 (by rfl) T.g_NoPick (pa_cons (pe_un un_neg pe_int) pa_nil))))
        pss_nil)
      (pss_cons (ps_set (i := 2) sc_check_places.nd rfl (by first | exact Or.inl rfl | exact Or.inr rfl) (pe_un un_neg pe_int))
      (pss_one (ps_for (passes_of rfl) rfl (pi_enum (by rfl) T.n_enumerate (pa_cons (pv 0) pa_nil)) (pg_tup rfl (pgs_cons (pg_name (i := 3) sc_check_places.nd rfl (by first | exact Or.inl rfl | exact Or.inr rfl)) (pgs_cons (pg_name (i := 4) sc_check_places.nd rfl (by first | exact Or.inl rfl | exact Or.inr rfl)) pgs_nil)))
        (pss_cons (ps_if (PW.pt (pw_or (pt_not (pt_val (pe_call (ok_is_place T) hr (by rfl) T.g_is_place T.k_is_place T.b_is_place .nil pass0 (pa_cons (pv 4) (pa_cons (pv 1) pa_nil))))) (pw_or1 (pt_cmpR op_le (pv 4) (pv 2) (nomark _)))))
            (pss_one (ps_raise rfl (takes_of rfl rfl rfl rfl) (pmk_ownA T.own_NoPick T.i_NoPick T.ty_NoPick (ok_init_NoPick T) (hr.mono (by decide)) T.b_init_NoPick pass0 (by rfl) T.g_NoPick (pa_cons (pv 3) pa_nil))))
            pss_nil)
          (pss_one (ps_set (i := 2) sc_check_places.nd rfl (by first | exact Or.inl rfl | exact Or.inr rfl) (pv 4)))))))), ?_⟩
    obtain ⟨s, v, n, p, rfl, hp, k⟩ := h
    cases hp with
    | oth hk nl =>
      rename_i t
      refine q_when (b := true) (et_is (et_not (et_B (ev_isK (t := t) (b := false) (ev_var rfl) ev_c hk (by rw [ty_list hk.ty]; exact congrArg some (beq_eq_false_iff_ne.mpr nl))))) rfl) (fun _ H1 e1 => ?_) (fun z => nomatch z)
      exact ⟨_, rfl, np_made T.own_NoPick T.no_NoPick (by decide) (RaiseNP.ex k e1)⟩
    | lst ha na hl hi =>
      rename_i a xs
      refine q_when (b := false) (et_is (et_not (et_B (ev_isK (t := "list") (b := true) (ev_var rfl) ev_c (Kd.lst ha na) (by decide +kernel)))) rfl) (fun z => nomatch z) (fun _ H1 e1 => ?_)
      refine ⟨1, rfl, ?_⟩
      have e1a := e1
      refine ⟨_, rfl, a, xs, rfl, SqL.of (e1 _ _ ha), ?_⟩
      refine for_enum (K := K) (a := a) (xs := xs) (fun i σ H' => ∃ (last : Int) (y3 y4 : Option V), σ = [some (.ref a), some (.int n), some (.int last), y3, y4] ∧ Ex H H' ∧ -1 ≤ last ∧ scan n (-1) xs 0 = scan n last (xs.drop i) i) ⟨-1, _, _, rfl, e1, by decide, rfl⟩ (fun i σ H' ⟨_, _, _, _, e, _⟩ => SqL.of (e _ _ ha)) ?_ ?_
      · rintro i x t σ H2 hx ⟨last, y3, y4, rfl, e2, hlast, hs⟩ nt
        have xt : Ex H2 (upd H2 t (.tup [.int (i : Nat), x])) := Ex.new nt
        refine ⟨t, _, rfl, SqT.of upd_same, rfl, _, _, rfl, _, _, rfl, rfl, ?_⟩
        have hdr : xs.drop i = x :: xs.drop (i + 1) := by
          obtain ⟨h1, h2⟩ := List.getElem?_eq_some_iff.mp hx
          rw [← h2]
          exact List.drop_eq_getElem_cons h1
        have hlt := (List.getElem?_eq_some_iff.mp hx).1
        have bad : scan n (-1) xs 0 = some i → RaiseNP T.f_NoPick H i E := fun z => by
          have k2 := k
          rw [first_bad (Nat.not_lt_zero _) z] at k2
          exact k2
        have hxi := (hi x (List.mem_of_getElem? hx)).kp (.of (e2.trans xt))
        rcases hxi with ⟨v, rfl⟩ | ⟨ty, nty, hk⟩
        · by_cases c : 0 ≤ v ∧ v < n ∧ last < v
          · refine q_when (b := false) (et_is (et_or (et_not (et_B (ev_fn (sp := sp_is_place K) (ea_cons (ev_var rfl) (ea_cons (ev_var rfl) ea_nil)) fun H3 e3 Q3 q3 => ⟨_, n, rfl, .inl ⟨v, rfl, q3⟩⟩))) (fun _ => et_test (ev_op (ev_var rfl) (ev_var rfl) rv_le))) ?_) (fun z => nomatch z) (fun _ H3 e3 => ?_)
            · rw [decide_eq_true c.1, decide_eq_true c.2.1, decide_eq_false (show ¬ v ≤ last by omega)]
              rfl
            · refine ⟨_, rfl, v, _, _, rfl, (e2.trans xt).trans e3, by omega, ?_⟩
              rw [hs, hdr]
              exact if_pos c
          · refine q_when (b := true) (et_is (et_or (et_not (et_B (ev_fn (sp := sp_is_place K) (ea_cons (ev_var rfl) (ea_cons (ev_var rfl) ea_nil)) fun H3 e3 Q3 q3 => ⟨_, n, rfl, .inl ⟨v, rfl, q3⟩⟩))) (fun _ => et_test (ev_op (ev_var rfl) (ev_var rfl) rv_le))) ?_) (fun _ H3 e3 => ?_) (fun z => nomatch z)
            · by_cases c1 : 0 ≤ v
              · by_cases c2 : v < n
                · rw [decide_eq_true c1, decide_eq_true c2, decide_eq_true (show v ≤ last by omega)]
                  rfl
                · rw [decide_eq_false c2, Bool.and_false]
                  rfl
              · rw [decide_eq_false c1]
                rfl
            · exact ⟨_, rfl, np_made T.own_NoPick T.no_NoPick (log_small (by omega) (by omega)) ((bad (by rw [hs, hdr]; exact if_neg c)).ex ((e2.trans xt).trans e3))⟩
        · refine q_when (b := true) (et_is (et_or (a := true) (b := false) (et_not (et_B (ev_fn (z := .bl false) (sp := sp_is_place K) (ea_cons (ev_var rfl) (ea_cons (ev_var rfl) ea_nil)) fun H3 e3 Q3 q3 => ⟨_, n, rfl, .inr ⟨_, _, nty, hk.kp (.of e3), q3⟩⟩))) (fun z => nomatch z)) rfl) (fun _ H3 e3 => ?_) (fun z => nomatch z)
          exact ⟨_, rfl, np_made T.own_NoPick T.no_NoPick (log_small (by omega) (by omega)) ((bad (by rw [hs, hdr]; exact scan_non hk nty)).ex ((e2.trans xt).trans e3))⟩
      · rintro σ H2 ⟨last, y3, y4, rfl, e2, _, hs⟩
        rw [List.drop_length] at hs
        have k2 := k
        rw [first_ok (Nat.not_lt_zero _) hs] at k2
        exact k2 H2 e2
-- DEF check_pick

def sp_check_pick (C : Addr) : Sp := fun vs H Q E => ∃ (s : Addr) (v : V) (n : Int) (p : Option (List V)), vs = [v, .int n] ∧ PickAt s H v p ∧ (match firstOf p n 1 with | none => ∀ H', Ex H H' → Q .non H' | some i => RaiseNP C H i E)

theorem ok_check_pick (T : Txt K mg) : FnOk P w K mg base (L2.CX P w) 4 T.f_check_pick T.fd_check_pick ["thing", "many"] (sp_check_pick T.f_NoPick) := by
  refine Fun.okX T.F_check_pick sc_check_pick (fun vs H Q E h => ?_) (fun cdv A outer s H vs Q E hr h => ?_)
  · obtain ⟨_, _, _, _, rfl, _⟩ := h; rfl
  · refine ⟨_, (pss_cons (ps_expr (pe_call (ok_check_places T) hr (by rfl) T.g_check_places T.k_check_places T.b_check_places .nil (passes_call (takes_of rfl rfl rfl rfl) (fun _ _ _ _ h => h)) (pa_cons (pv 0) (pa_cons (pv 1) pa_nil))))
      (pss_one (ps_if (pt_not (pt_truth (pv 0) (by intro _; rfl)))
        (pss_one (ps_raise rfl (takes_of rfl rfl rfl rfl) (pmk_ownA T.own_NoPick T.i_NoPick T.ty_NoPick (ok_init_NoPick T) (hr.mono (by decide)) T.b_init_NoPick pass0 (by rfl) T.g_NoPick (pa_cons (pe_un un_neg pe_int) pa_nil))))
        pss_nil))), ?_⟩
    obtain ⟨s, v, n, p, rfl, hp, k⟩ := h
    refine ⟨_, rfl, _, rfl, s, v, n, p, rfl, hp, ?_⟩
    cases p with
    | none => exact k
    | some xs =>
      cases e : scan n (-1) xs 0 with
      | some i =>
        rw [first_bad (Nat.not_lt_zero _) e]
        have c : ¬ xs.length < 1 := fun c => by
          have := scan_lt e
          omega
        rw [first_bad c e] at k
        exact k
      | none =>
        rw [first_ok (Nat.not_lt_zero _) e]
        intro H1 e1
        cases hp with
        | lst ha na hl hi =>
          refine ⟨_, rfl, !xs.isEmpty, .inl ⟨_, SqL.of (e1 _ _ ha), rfl⟩, ?_⟩
          cases xs with
          | nil =>
            rw [first_few (show ([] : List V).length < 1 by decide)] at k
            exact iteT ⟨1, rfl, np_made T.own_NoPick T.no_NoPick (by decide) (RaiseNP.ex k e1)⟩
          | cons x r =>
            rw [first_ok (by simp) e] at k
            exact iteF (k H1 e1)
-- DEF is_pick

def sp_is_pick (K : PySem.W.Frag) : Sp := fun vs H Q _ => ∃ (s : Addr) (v : V) (n : Int) (p : Option (List V)), vs = [v, .int n] ∧ PickAt s H v p ∧ ∀ H', Ex H H' → Q (.bl (firstOf p n 1).isNone) H'

theorem ok_is_pick (T : Txt K mg) : FnOk P w K mg base CX0 5 T.f_is_pick T.fd_is_pick ["thing", "many"] (sp_is_pick K) := by
  refine Fun.ok T.F_is_pick sc_is_pick (fun vs H Q E h => ?_) (fun cdv A outer s H vs Q E hr h => ?_)
  · obtain ⟨_, _, _, _, rfl, _⟩ := h; rfl
  · refine ⟨_, (pss_cons (ps_try_only rfl rfl ⟨by rfl, by decide, .inl T.g_NoPick⟩ LamX.takes0 (fun W pn xe tk _ => (pss_one (ps_expr (pe_callS (ok_check_pick T) hr (by rfl) T.g_check_pick T.k_check_pick T.b_check_pick (passAt tk) (pa_cons (pv 0) (pa_cons (pv 1) pa_nil)))))) (fun a oe cls d pn hz hf => (pss_one (ps_ret pe_bl))))
      (pss_one (ps_ret pe_bl))), ?_⟩
    obtain ⟨s, v, n, p, rfl, hp, k⟩ := h
    refine ⟨_, rfl, _, rfl, s, v, n, p, rfl, hp, ?_⟩
    cases f : firstOf p n 1 with
    | some i =>
      rw [f] at k
      intro d H1 e1 hd
      refine ⟨true, T.exo_NoPick, fun _ a ha => ?_, fun z => nomatch z⟩
      exact k H1 e1
    | none =>
      rw [f] at k
      intro H1 e1
      exact k H1 e1
-- DEF piece

theorem scan_rise {n : Int} : ∀ {ns : List Int} {last : Int} {k : Nat}, (∀ x ∈ ns, 0 ≤ x ∧ x < n ∧ last < x) → ns.Pairwise (· < ·) → scan n last (ns.map V.int) k = none
  | [], _, _, _, _ => rfl
  | v :: r, last, k, h, p => by
    show (if 0 ≤ v ∧ v < n ∧ last < v then scan n v (r.map V.int) (k + 1) else some k) = none
    rw [if_pos (h v (List.mem_cons_self ..))]
    obtain ⟨p1, p2⟩ := List.pairwise_cons.mp p
    exact scan_rise (fun x hx => ⟨(h x (List.mem_cons_of_mem _ hx)).1, (h x (List.mem_cons_of_mem _ hx)).2.1, p1 x hx⟩) p2
theorem first_rise {n : Int} {ns : List Int} (h : Rising n ns) (h0 : ns ≠ []) : firstOf (some (ns.map V.int)) n 1 = none := by
  have hl := List.length_pos_iff.mpr h0
  refine first_ok (by rw [List.length_map]; omega) (scan_rise (fun x hx => ?_) h.2)
  have := h.1 x hx
  omega
theorem rise_first {n : Int} {ns : List Int} (h : firstOf (some (ns.map V.int)) n 1 = none) : ns.Pairwise (· < ·) := by
  obtain ⟨ms, e, _, h2⟩ := scan_ok (first_none h).2
  have : ns = ms := by
    have inj : ∀ {a b : List Int}, a.map V.int = b.map V.int → a = b := by
      intro a
      induction a with
      | nil => intro b e; cases b with
        | nil => rfl
        | cons y r => cases e
      | cons x q ih => intro b e; cases b with
        | nil => cases e
        | cons y r =>
          rw [List.map_cons, List.map_cons] at e
          injection e with e1 e2
          injection e1 with e1
          rw [e1, ih e2]
    exact inj e
  rw [this]
  exact h2
theorem pick_ints {H : Hp} {a : Addr} {ns : List Int} (h : H a = some (.lst (ns.map V.int))) (l : ns.length ≤ 20) : PickAt (a + 1) H (.ref a) (some (ns.map V.int)) :=
  .lst h (fun z => absurd z (Nat.ne_of_lt (Nat.lt_succ_self a))) (by rw [List.length_map]; exact l) fun x hx => by
    obtain ⟨i, _, rfl⟩ := List.mem_map.mp hx
    exact .inl ⟨i, rfl⟩

def pieceOf (rows : List (List Int)) (ris cis : List Int) : List (List Int) := ris.map fun i => cis.map fun j => (rows[i.toNat]?.getD [])[j.toNat]?.getD 0
def sp_piece (K : PySem.W.Frag) : Sp := fun vs H Q _ => ∃ (p pr pc : Addr) (as : List Addr) (rows : List (List Int)) (m w : Nat) (ris cis : List Int), vs = [.ref p, .ref pr, .ref pc] ∧ TabOk H p as rows m w ∧ H pr = some (.lst (ris.map V.int)) ∧ Rising m ris ∧ ris ≠ [] ∧ H pc = some (.lst (cis.map V.int)) ∧ Rising w cis ∧ cis ≠ [] ∧ ris.length ≤ 8 ∧ cis.length ≤ 8 ∧
  ∀ q bs H', H q = none → (∀ a ∈ bs, H a = none) → bs.Nodup → q ∉ bs → Ex H H' → Tab H' q bs (pieceOf rows ris cis) → Q (.ref q) H'

theorem ok_piece (T : Txt K mg) : FnOk P w K mg base CX0 6 T.f_piece T.fd_piece ["table", "rows", "columns"] (sp_piece K) := by
  refine Fun.ok T.F_piece sc_piece (fun vs H Q E h => ?_) (fun cdv A outer s H vs Q E hr h => ?_)
  · obtain ⟨_, _, _, _, _, _, _, _, _, rfl, _⟩ := h; rfl
  · refine ⟨_, (pss_cons (ps_asg (pe_call (ok_shape T) hr (by rfl) T.g_shape T.k_shape T.b_shape .nil pass0 (pa_cons (pv 0) pa_nil)) (pg_tup rfl (pgs_cons (pg_name (i := 3) sc_piece.nd rfl (by first | exact Or.inl rfl | exact Or.inr rfl)) (pgs_cons (pg_name (i := 4) sc_piece.nd rfl (by first | exact Or.inl rfl | exact Or.inr rfl)) pgs_nil))))
      (pss_cons (ps_expr (pe_call (ok_check_pick T) (hr.mono (by decide)) (by rfl) T.g_check_pick T.k_check_pick T.b_check_pick .nil passL (pa_cons (pv 1) (pa_cons (pv 3) pa_nil))))
      (pss_cons (ps_expr (pe_call (ok_check_pick T) (hr.mono (by decide)) (by rfl) T.g_check_pick T.k_check_pick T.b_check_pick .nil passL (pa_cons (pv 2) (pa_cons (pv 4) pa_nil))))
      (pss_one (ps_ret (pe_lc (own := [("row", 5)]) (wi := iList K _) (g := gName 5) (tt := tYes) rfl sc_piece.nd (pi_list (pv 1)) (blkOk_by (N := ["table", "rows", "columns", "many", "wide", "row", "column"]) (sc := (defScope s_piece)) (by decide +kernel)) (fun _ _ _ _ _ => pg_name (i := 5) sc_piece.nd rfl (Or.inr rfl)) (fun _ _ _ _ _ => pts_nil) (fun _ _ _ _ _ => (pe_lc (own := [("column", 6)]) (wi := iList K _) (g := gName 6) (tt := tYes) rfl sc_piece.nd (pi_list (pv 2)) (blkOk_by (N := ["table", "rows", "columns", "many", "wide", "row", "column"]) (sc := (relS ({ kind := .function, names := [(".0", .local), ("row", .cell), ("columns", .free), ("table", .free)], isGenerator := false, isCoroutine := false } : Scope) (defScope s_piece))) (by decide +kernel)) (fun _ _ _ _ _ => pg_name (i := 6) sc_piece.nd rfl (Or.inl rfl)) (fun _ _ _ _ _ => pts_nil) (fun _ _ _ _ _ => (pe_ix (r := rIxL K) ix_list (pe_ix (r := rIxL K) ix_list (pv 0) (pv 5) (fun _ _ => rfl)) (pv 6) (fun _ _ => rfl))))))))))), ?_⟩
    obtain ⟨p, pr, pc, as, rows, m, w, ris, cis, rfl, hT, hr, hR, hrn, hc, hC, hcn, hr8, hc8, k⟩ := h
    refine ⟨_, rfl, p, as, rows, m, w, rfl, hT, fun t H1 nt e1 ht => ?_⟩
    refine ⟨t, _, rfl, SqT.of ht, rfl, _, _, rfl, _, _, rfl, rfl, ?_⟩
    refine ⟨_, rfl, _, rfl, pr + 1, .ref pr, m, some (ris.map V.int), rfl, pick_ints (e1 _ _ hr) (by omega), ?_⟩
    rw [first_rise hR hrn]
    intro H2 e2
    have e12 := e1.trans e2
    refine ⟨_, rfl, _, rfl, pc + 1, .ref pc, w, some (cis.map V.int), rfl, pick_ints (e12 _ _ hc) (by omega), ?_⟩
    rw [first_rise hC hcn]
    intro H3 e3
    have e13 := e12.trans e3
    have hT3 := hT.ex e13
    refine lc_rowsL (K := K) (ys := ris) (fun i => cis.map fun j => (rows[i.toNat]?.getD [])[j.toNat]?.getD 0) rfl (e13 _ _ hr) (by omega) (fun u => rfl) (fun i H4 hi e4 => ?_) (fun q bs H4 nq nbs nd nqb e4 ht => ?_)
    · refine el_mapI (K := K) (qs := cis) (fun j => (rows[i.toNat]?.getD [])[j.toNat]?.getD 0) rfl ((e13.trans e4) _ _ hc) (by omega) (fun u => rfl) fun j H5 hj e5 => ?_
      have bi := hR.1 i hi
      have bj := hC.1 j hj
      have hT5 := hT3.ex (e4.trans e5)
      obtain ⟨a, r, ha, hr', hh, hl⟩ := hT5.row bi.1 bi.2
      rw [hr']
      exact ev_op (ev_op (ev_var rfl) (ev_var rfl) (rv_ixL (SqL.of hT5.tab.1) ha)) (ev_var rfl) (rv_ixL (SqL.of hh) (atI_rowI bj.1 (by omega)))
    · exact k q bs H4 (fresh_back e13 nq) (fun a ha => fresh_back e13 (nbs a ha)) nd nqb (e13.trans e4) ht
-- DEF is_bad_square
theorem dec_nat {x y : Nat} : decide (V.int (x : Int) = V.int (y : Int)) = decide (x = y) := by
  by_cases c : x = y
  · subst c
    rw [decide_eq_true rfl, decide_eq_true rfl]
  · rw [decide_eq_false c, decide_eq_false (fun z => c (by have := V.int.inj z; omega))]
theorem at_bd {B : Nat} {rows : List (List Int)} {a b : Nat} (h : ∀ r ∈ rows, ∀ y ∈ r, Bd B y) : Bd B (Dt.at_ rows a b) := by
  unfold Dt.at_
  cases e : rows[a]? with
  | none => exact bd_zero
  | some r =>
    show Bd B (r[b]?.getD 0)
    cases e2 : r[b]? with
    | none => exact bd_zero
    | some y => exact h r (List.mem_of_getElem? e) y (List.mem_of_getElem? e2)
theorem rising_zs {m : Nat} {rs : List Nat} (u : rs.Pairwise (· < ·)) (h : ∀ x ∈ rs, x < m) : Rising (m : Int) (Sg.zs rs) := ⟨fun x hx => by
  obtain ⟨i, hi, rfl⟩ := List.mem_map.mp hx
  have := h i hi
  omega, by
  unfold Sg.zs
  exact List.pairwise_map.mpr (u.imp fun h => by omega)⟩
theorem zs_ne {rs : List Nat} (h : rs ≠ []) : Sg.zs rs ≠ [] := fun z => h (List.map_eq_nil_iff.mp z)
theorem zs_len (rs : List Nat) : (Sg.zs rs).length = rs.length := by unfold Sg.zs; rw [List.length_map]
theorem piece_sub (R : List (List Int)) (rs cs : List Nat) : pieceOf R (Sg.zs rs) (Sg.zs cs) = Bs.sub R rs cs := by
  unfold pieceOf Bs.sub Sg.zs
  rw [List.map_map]
  refine List.map_congr_left fun i _ => ?_
  show (cs.map fun (i : Nat) => (i : Int)).map _ = _
  rw [List.map_map]
  rfl
theorem sub_len (R : List (List Int)) (rs cs : List Nat) : (Bs.sub R rs cs).length = rs.length := by unfold Bs.sub; rw [List.length_map]
theorem sub_wid (R : List (List Int)) (rs cs : List Nat) : ∀ r ∈ Bs.sub R rs cs, r.length = cs.length := fun r hr => by
  unfold Bs.sub at hr
  obtain ⟨i, _, rfl⟩ := List.mem_map.mp hr
  rw [List.length_map]
theorem sub_bd {R : List (List Int)} {rs cs : List Nat} {B : Nat} (h : ∀ r ∈ R, ∀ y ∈ r, Bd B y) : ∀ r ∈ Bs.sub R rs cs, ∀ y ∈ r, Bd B y := fun r hr y hy => by
  unfold Bs.sub at hr
  obtain ⟨i, _, rfl⟩ := List.mem_map.mp hr
  obtain ⟨j, _, rfl⟩ := List.mem_map.mp hy
  exact at_bd h

theorem ty_tup12 {t : String} (h : tyOk t) : kitB t "tuple" = some (t == "tuple") := by
  rcases h with rfl | rfl | rfl | rfl | rfl | rfl | rfl <;> decide +kernel
def sp_is_bad_square (K : PySem.W.Frag) : Sp := fun vs H Q _ => ∃ (s p : Addr) (v : V) (as : List Addr) (R : List (List Int)) (m wd : Nat) (o : Option (Option (List V) × Option (List V) × V)), vs = [.ref p, v] ∧ TabOk H p as R m wd ∧ m ≤ 6 ∧ (∀ r ∈ R, ∀ y ∈ r, Bd 100 y) ∧ ThS s H v o ∧ ∀ H', Ex H H' → Q (.bl (dueB R m wd o)) H'

theorem ok_is_bad_square (T : Txt K mg) : FnOk P w K mg base CX0 7 T.f_is_bad_square T.fd_is_bad_square ["table", "thing"] (sp_is_bad_square K) := by
  refine Fun.ok T.F_is_bad_square sc_is_bad_square (fun vs H Q E h => ?_) (fun cdv A outer s H vs Q E hr h => ?_)
  · obtain ⟨_, _, _, _, _, _, _, _, rfl, _⟩ := h; rfl
  · refine ⟨_, (pss_cons (ps_asg (pe_call (ok_shape T) (hr.mono (by decide)) (by rfl) T.g_shape T.k_shape T.b_shape .nil pass0 (pa_cons (pv 0) pa_nil)) (pg_tup rfl (pgs_cons (pg_name (i := 2) sc_is_bad_square.nd rfl (by first | exact Or.inl rfl | exact Or.inr rfl)) (pgs_cons (pg_name (i := 3) sc_is_bad_square.nd rfl (by first | exact Or.inl rfl | exact Or.inr rfl)) pgs_nil))))
      (pss_cons (ps_if (PW.pt (pw_or (pt_not (pt_val (pe_callB (id := "isinstance") (r := rIsi K) call_isi (by rfl) T.n_isinstance (by decide +kernel) (pa_cons (pv 1) (pa_cons (pe_bltn (v := .ty "tuple") (by rfl) T.n_tuple (by decide +kernel) rfl) pa_nil))))) (pw_or1 (pt_cmpR op_ne (pe_callB (id := "len") (r := rLenS K) call_len_seq (by rfl) T.n_len PySem.boot_len (pa_cons (pv 1) pa_nil)) pe_int (nomark _)))))
        (pss_one (ps_ret pe_bl))
        pss_nil)
      (pss_cons (ps_asg (pv 1) (pg_tup rfl (pgs_cons (pg_name (i := 4) sc_is_bad_square.nd rfl (by first | exact Or.inl rfl | exact Or.inr rfl)) (pgs_cons (pg_name (i := 5) sc_is_bad_square.nd rfl (by first | exact Or.inl rfl | exact Or.inr rfl)) (pgs_cons (pg_name (i := 6) sc_is_bad_square.nd rfl (by first | exact Or.inl rfl | exact Or.inr rfl)) pgs_nil)))))
      (pss_cons (ps_if (PW.pt (pw_or (pt_not (pt_val (pe_call (ok_is_pick T) (hr.mono (by decide)) (by rfl) T.g_is_pick T.k_is_pick T.b_is_pick .nil pass0 (pa_cons (pv 4) (pa_cons (pv 2) pa_nil))))) (pw_or (pt_not (pt_val (pe_call (ok_is_pick T) (hr.mono (by decide)) (by rfl) T.g_is_pick T.k_is_pick T.b_is_pick .nil pass0 (pa_cons (pv 5) (pa_cons (pv 3) pa_nil))))) (pw_or1 (pt_cmpR op_ne (pe_callB (id := "len") (r := rLenS K) call_len_seq (by rfl) T.n_len PySem.boot_len (pa_cons (pv 4) pa_nil)) (pe_callB (id := "len") (r := rLenS K) call_len_seq (by rfl) T.n_len PySem.boot_len (pa_cons (pv 5) pa_nil)) (nomark _))))))
        (pss_one (ps_ret pe_bl))
        pss_nil)
      (pss_cons (ps_if (PW.pt (pw_or (pt_not (pt_val (pe_call (ok_is_whole T) (hr.mono (by decide)) (by rfl) T.g_is_whole T.k_is_whole T.b_is_whole .nil pass0 (pa_cons (pv 6) pa_nil)))) (pw_or1 (pt_not (pt_val (pe_call (ok_is_bad T) (hr.mono (by decide)) (by rfl) T.g_is_bad T.k_is_bad T.b_is_bad .nil pass0 (pa_cons (pv 6) pa_nil)))))))
        (pss_one (ps_ret pe_bl))
        pss_nil)
      (pss_one (ps_ret (pe_cmpR op_eq (pe_call (ok_determinant T) hr (by rfl) T.g_determinant T.k_determinant T.b_determinant .nil pass0 (pa_cons (pe_call (ok_piece T) hr (by rfl) T.g_piece T.k_piece T.b_piece .nil pass0 (pa_cons (pv 0) (pa_cons (pv 4) (pa_cons (pv 5) pa_nil)))) pa_nil)) (pv 6) (nomark _))))))))), ?_⟩
    obtain ⟨s, p, v, as, R, m, wd, o, rfl, hT, hm6, hb, ho, k⟩ := h
    have hd := hT.b
    refine ⟨_, rfl, p, as, R, m, wd, rfl, hT, fun u H1 nu e1 hu => ?_⟩
    refine ⟨u, _, rfl, SqT.of hu, rfl, _, _, rfl, _, _, rfl, rfl, ?_⟩
    have ho1 := ho.kp (.of e1)
    cases ho1 with
    | oth hk nt =>
      rename_i t
      refine q_when (b := true) (et_is (et_or (a := true) (b := false) (et_not (et_B (ev_isK (t := t) (b := false) (ev_var (i := 1) rfl) ev_c hk (by rw [ty_tup12 hk.ty]; exact congrArg some (beq_eq_false_iff_ne.mpr nt))))) (fun z => nomatch z)) rfl) (fun _ H2 e2 => ?_) (fun z => nomatch z)
      exact s_ret (v := .bl false) ev_c fun H3 e3 => k H3 (e1.trans (e2.trans e3))
    | few h n l =>
      rename_i t xs
      refine q_when (b := true) (et_is (et_or (a := false) (b := true) (et_is (et_not (et_B (b := true) (ev_isi (t := "tuple") (b := true) (ev_var (i := 1) rfl) ev_c (fun H1 e => .base (.tup (e _ _ h))) (by decide +kernel)))) rfl) (fun _ => et_is (et_test (ev_op (ev_lenTu (ev_var (i := 1) rfl) (SqT.of h)) ev_c (rv_ne rfl))) (by rw [show (V.int 3) = V.int ((3 : Nat) : Int) from rfl, dec_nat, decide_eq_false l]; rfl))) rfl) (fun _ H2 e2 => ?_) (fun z => nomatch z)
      exact s_ret (v := .bl false) ev_c fun H3 e3 => k H3 (e1.trans (e2.trans e3))
    | tri h n hx hy hz =>
      rename_i t x y z p1 p2
      refine q_when (b := false) (et_is (et_or (a := false) (b := false) (et_is (et_not (et_B (b := true) (ev_isi (t := "tuple") (b := true) (ev_var (i := 1) rfl) ev_c (fun H1 e => .base (.tup (e _ _ h))) (by decide +kernel)))) rfl) (fun _ => et_is (et_test (ev_op (ev_lenTu (ev_var (i := 1) rfl) (SqT.of h)) ev_c (rv_ne rfl))) rfl)) rfl) (fun z => nomatch z) fun _ H2 e2 => ?_
      refine ⟨_, rfl, t, _, rfl, SqT.of (e2 _ _ h), rfl, _, _, rfl, _, _, rfl, _, _, rfl, rfl, ?_⟩
      have e12 := e1.trans e2
      have hx2 := hx.kp (.of e2)
      have hy2 := hy.kp (.of e2)
      have isp1 : ∀ {j : Nat} {σ : L2.St}, σ[j]? = some (some x) → σ[2]? = some (some (.int m)) → Ev (tCall (sp_is_pick K) [] E0 (tCons (tVar j) (tCons (tVar 2) tNil))) σ H2 (.bl (firstOf p1 m 1).isNone) := fun h1 h2 => ev_fn (sp := sp_is_pick K) (ea_cons (ev_var h1) (ea_cons (ev_var h2) ea_nil)) fun H3 e3 Q3 q3 => ⟨s, _, m, p1, rfl, (hx2.kp (.of e3)).at_, q3⟩
      have isp2 : ∀ {j : Nat} {σ : L2.St}, σ[j]? = some (some y) → σ[3]? = some (some (.int wd)) → Ev (tCall (sp_is_pick K) [] E0 (tCons (tVar j) (tCons (tVar 3) tNil))) σ H2 (.bl (firstOf p2 wd 1).isNone) := fun h1 h2 => ev_fn (sp := sp_is_pick K) (ea_cons (ev_var h1) (ea_cons (ev_var h2) ea_nil)) fun H3 e3 Q3 q3 => ⟨s, _, wd, p2, rfl, (hy2.kp (.of e3)).at_, q3⟩
      cases f1 : firstOf p1 m 1 with
      | some i =>
        refine q_when (b := true) (et_is (et_or (a := true) (b := false) (et_is (et_not (et_B (isp1 (j := 4) rfl rfl))) (by rw [f1]; rfl)) (fun z => nomatch z)) rfl) (fun _ H3 e3 => ?_) (fun z => nomatch z)
        have : dueB R m wd (some (p1, p2, z)) = false := by
          show ((firstOf p1 m 1).isNone && ((firstOf p2 wd 1).isNone && (decide (lenO p1 = lenO p2) && worthB R p1 p2 z))) = false
          rw [f1]
          rfl
        rw [this] at k
        exact s_ret (v := .bl false) ev_c fun H4 e4 => k H4 (e12.trans (e3.trans e4))
      | none =>
        cases f2 : firstOf p2 wd 1 with
        | some i =>
          refine q_when (b := true) (et_is (et_or (a := false) (b := true) (et_is (et_not (et_B (isp1 (j := 4) rfl rfl))) (by rw [f1]; rfl)) (fun _ => et_or (a := true) (b := false) (et_is (et_not (et_B (isp2 (j := 5) rfl rfl))) (by rw [f2]; rfl)) (fun z => nomatch z))) rfl) (fun _ H3 e3 => ?_) (fun z => nomatch z)
          have : dueB R m wd (some (p1, p2, z)) = false := by
            show ((firstOf p1 m 1).isNone && ((firstOf p2 wd 1).isNone && (decide (lenO p1 = lenO p2) && worthB R p1 p2 z))) = false
            rw [f1, f2]
            rfl
          rw [this] at k
          exact s_ret (v := .bl false) ev_c fun H4 e4 => k H4 (e12.trans (e3.trans e4))
        | none =>
          obtain ⟨a, rs, rfl, ha, na, e1n, e1l, r0, ur, mr⟩ := pick_nats hx2 f1
          obtain ⟨b, cs, rfl, hbb, nb, e2n, e2l, c0, uc, mc⟩ := pick_nats hy2 f2
          have due : dueB R m wd (some (p1, p2, z)) = (decide (rs.length = cs.length) && worthB R p1 p2 z) := by
            show ((firstOf p1 m 1).isNone && ((firstOf p2 wd 1).isNone && (decide (lenO p1 = lenO p2) && worthB R p1 p2 z))) = _
            rw [f1, f2, e1l, e2l]
            rfl
          rw [due] at k
          refine q_when (b := !decide (rs.length = cs.length)) (et_is (et_or (a := false) (b := !decide (rs.length = cs.length)) (et_is (et_not (et_B (isp1 (j := 4) rfl rfl))) (by rw [f1]; rfl)) (fun _ => et_or (a := false) (b := !decide (rs.length = cs.length)) (et_is (et_not (et_B (isp2 (j := 5) rfl rfl))) (by rw [f2]; rfl)) (fun _ => et_is (et_test (ev_op (ev_len (ev_var (i := 4) rfl) (SqL.of ha)) (ev_len (ev_var (i := 5) rfl) (SqL.of hbb)) (rv_ne rfl))) (by rw [dec_nat, List.length_map, List.length_map, zs_len, zs_len])))) (by simp)) (fun hz' H3 e3 => ?_) fun hz' H3 e3 => ?_
          · rw [Bool.not_eq_true'] at hz'
            rw [hz'] at k
            exact s_ret (v := .bl false) ev_c fun H4 e4 => k H4 (e12.trans (e3.trans e4))
          rw [Bool.not_eq_false'] at hz'
          rw [hz'] at k
          have hl := (of_decide_eq_true hz').symm
          have rl := Tu.len_lt ur mr
          have cl := Tu.len_lt uc mc
          have r1 : 1 ≤ rs.length := List.length_pos_iff.mpr r0
          have Rr := rising_zs ur mr
          have Rc := rising_zs uc mc
          rcases hz with ⟨v, rfl⟩ | nz
          · have wB : worthB R p1 p2 (.int v) = (Bs.isBad v && decide (Bs.val R rs cs = v)) := by
              show (Bs.isBad v && decide (Bs.val R (natsO p1) (natsO p2) = v)) = _
              rw [e1n, e2n]
            rw [wB] at k
            refine q_when (σ := [some (.ref p), some (.ref t), some (.int m), some (.int wd), some (.ref a), some (.ref b), some (.int v)]) (b := !Bs.isBad v) (et_is (et_or (a := false) (b := !Bs.isBad v) (et_is (et_not (et_B (b := true) (fun H4 e4 Q4 q4 => ⟨_, rfl, _, "int", rfl, .base (.int _), .inl rfl, q4 H4 (Ex.refl _)⟩))) rfl) (fun _ => et_is (et_not (et_B (b := Bs.isBad v) (ev_fn (sp := sp_is_bad K) (ea_cons (ev_var (i := 6) rfl) ea_nil) fun H4 e4 Q4 q4 => ⟨_, rfl, fun H5 e5 => q4 H5 e5⟩))) rfl)) rfl) (fun z H4 e4 => ?_) fun z H4 e4 => ?_
            · rw [Bool.not_eq_true'] at z
              rw [z] at k
              exact s_ret (v := .bl false) ev_c fun H5 e5 => k H5 (e12.trans (e3.trans (e4.trans e5)))
            rw [Bool.not_eq_false'] at z
            rw [z] at k
            have e24 := e3.trans e4
            have e14 := e12.trans e24
            refine s_ret (v := .bl (decide (Bs.val R rs cs = v))) (fun H5 e5 Q5 q5 => ?_) fun H5 e5 => k H5 (e14.trans e5)
            refine ⟨_, rfl, _, rfl, _, rfl, p, a, b, as, R, m, wd, Sg.zs rs, Sg.zs cs, rfl, hT.ex (e14.trans e5), (e24.trans e5) _ _ ha, Rr, zs_ne r0, (e24.trans e5) _ _ hbb, Rc, zs_ne c0, by rw [zs_len]; omega, by rw [zs_len]; omega, fun q1 qs H6 nq nqs nd nqq e6 h6 => ?_⟩
            rw [piece_sub] at h6
            have pw : (100 + 1) * 2 ^ (rs.length - 2) ≤ 9000 := by
              have : 2 ^ (rs.length - 2) ≤ 2 ^ 4 := Nat.pow_le_pow_right (by decide) (by omega)
              omega
            refine ⟨q1, qs, Bs.sub R rs cs, rs.length, rs.length, 100, rfl, ⟨h6, sub_len R rs cs, fun r hr => by rw [sub_wid R rs cs r hr, hl], by omega, by omega, by omega, by omega⟩, by decide, sub_bd hb, pw, rfl, fun d H7 hdet _ e7 => ?_⟩
            refine ⟨_, rfl, rfl, ?_⟩
            have : d = Bs.val R rs cs := by
              have h1 := Bs.val_eq R hl
              rw [← hdet] at h1
              exact (Rat.intCast_inj.mp h1).symm
            rw [this, show decide (V.int (Bs.val R rs cs) = V.int v) = decide (Bs.val R rs cs = v) from decide_eq_decide.mpr ⟨fun z => by injection z, fun z => by rw [z]⟩]
            exact q5 H7 (e6.trans e7)
          · have hk : ∃ ty, ty ≠ "int" ∧ tyOk ty ∧ (∀ H', TyX K H' z (.type ty)) ∧ worthB R p1 p2 z = false := by
              rcases nz with rfl | ⟨b, rfl⟩ | ⟨t, rfl⟩
              · exact ⟨"NoneType", by decide, by simp [tyOk], fun _ => .base .non, rfl⟩
              · exact ⟨"bool", by decide, by simp [tyOk], fun _ => .base (.bl b), rfl⟩
              · exact ⟨"str", by decide, by simp [tyOk], fun _ => .base (.str t), rfl⟩
            obtain ⟨ty, n1, n2, n3, n4⟩ := hk
            rw [n4] at k
            refine q_when (σ := [some (.ref p), some (.ref t), some (.int m), some (.int wd), some (.ref a), some (.ref b), some z]) (b := true) (et_is (et_or (a := true) (b := false) (et_is (et_not (et_B (b := false) (fun H4 e4 Q4 q4 => ⟨_, rfl, _, ty, rfl, n3 _, n2, ?_⟩))) rfl) (fun z => nomatch z)) rfl) (fun z H4 e4 => ?_) fun z => nomatch z
            · rw [show (ty == "int") = false from beq_eq_false_iff_ne.mpr n1]
              exact q4 H4 (Ex.refl _)
            · exact s_ret (v := .bl false) ev_c fun H5 e5 => k H5 (e12.trans (e3.trans (e4.trans e5)))
-- DEF _law_expanded
theorem at_row_ {rows : List (List Int)} {i : Nat} {r : List Int} (h : rows[i]? = some r) (b : Nat) : Dt.at_ rows i b = r[b]?.getD 0 := by
  unfold Dt.at_
  rw [h]
  rfl
theorem get_i {ns : List Int} {i : Nat} {y : Int} (h : ns[i]? = some y) : ns[i]?.getD 0 = y := by rw [h]; rfl
theorem mem_i {ns : List Int} {j : Nat} (h : j < ns.length) : ns[j]?.getD 0 ∈ ns := by
  rw [List.getElem?_eq_getElem h]
  exact List.getElem_mem _

theorem six_at {n j : Nat} (hj : j < n) (h8 : n ≤ 8) : HT.sIx n n (some (j : Int)) = j := by
  have hn : n = 1 ∨ n = 2 ∨ n = 3 ∨ n = 4 ∨ n = 5 ∨ n = 6 ∨ n = 7 ∨ n = 8 := by omega
  have hm : j = 0 ∨ j = 1 ∨ j = 2 ∨ j = 3 ∨ j = 4 ∨ j = 5 ∨ j = 6 ∨ j = 7 := by omega
  rcases hn with rfl | rfl | rfl | rfl | rfl | rfl | rfl | rfl <;> rcases hm with rfl | rfl | rfl | rfl | rfl | rfl | rfl | rfl <;> first | rfl | omega
theorem six_at1 {n j : Nat} (hj : j < n) (h8 : n ≤ 8) : HT.sIx n 0 (some ((j : Int) + 1)) = j + 1 := by
  have hn : n = 1 ∨ n = 2 ∨ n = 3 ∨ n = 4 ∨ n = 5 ∨ n = 6 ∨ n = 7 ∨ n = 8 := by omega
  have hm : j = 0 ∨ j = 1 ∨ j = 2 ∨ j = 3 ∨ j = 4 ∨ j = 5 ∨ j = 6 ∨ j = 7 := by omega
  rcases hn with rfl | rfl | rfl | rfl | rfl | rfl | rfl | rfl <;> rcases hm with rfl | rfl | rfl | rfl | rfl | rfl | rfl | rfl <;> first | rfl | omega
theorem lc_rowsE {K : PySem.W.Frag} {tl te : TE} {vs : List Nat} {j : Nat} {σ : L2.St} {Hz : Hp} {Q : VK} {as0 : List Addr} {rows : List (List Int)} (F : List Int → List Int) (hl : EvL tl σ Hz (as0.map V.ref)) (ht0 : RowsAt Hz as0 rows) (hm : rows.length ≤ 1000) (hw : ∀ u, wipe ((wipe σ vs).set j (some u)) vs = wipe σ vs)
    (he : ∀ c r H1, r ∈ rows → H1 c = some (.lst (r.map V.int)) → Ex Hz H1 → EvL te ((wipe σ vs).set j (some (.ref c))) H1 ((F r).map V.int))
    (k : ∀ p as H2, Hz p = none → (∀ a ∈ as, Hz a = none) → as.Nodup → p ∉ as → Ex Hz H2 → Tab H2 p as (rows.map F) → Q (.ref p) H2) : tLc (iList K tl) (gName j) tYes te vs σ Hz Q := by
  refine hl Hz (Ex.refl Hz) _ fun a H na e0 ha => ⟨a, rfl, ⟨_, SqL.of ha⟩, fun D hD => ?_⟩
  have ht : Tab H a as0 rows := ⟨ha, ht0.ex e0⟩
  replace he : ∀ c r H1, r ∈ rows → H c = some (.lst (r.map V.int)) → Ex H H1 → EvL te ((wipe σ vs).set j (some (.ref c))) H1 ((F r).map V.int) := fun c r H1 hr hc e1 => he c r H1 hr (e1 _ _ hc) (e0.trans e1)
  replace k : ∀ p as H2, H p = none → (∀ a ∈ as, H a = none) → as.Nodup → p ∉ as → Ex H H2 → Tab H2 p as (rows.map F) → Q (.ref p) H2 := fun p as H2 np nas nd npas e t => k p as H2 (fresh_back e0 np) (fun a ha => fresh_back e0 (nas a ha)) nd npas (e0.trans e) t
  refine lc_list (K := K) (a := a) (xs := as0.map V.ref) (fun i H' => ∃ as, Ex H H' ∧ H' D = some (.lst (as.map V.ref)) ∧ RowsAt H' as ((rows.take i).map F) ∧ (∀ a ∈ as, H a = none) ∧ as.Nodup ∧ D ∉ as) ⟨[], Ex.new hD, upd_same, .nil, fun a ha => by simp at ha, List.nodup_nil, by simp⟩ (fun i H' _ ⟨_, p1, _⟩ => SqL.of (p1 _ _ ht.1)) (fun i x H' gx p => ?_) (fun H' p => ?_)
  · obtain ⟨as, p1, p2, p3, p4, p5, p6⟩ := p
    rw [List.getElem?_map] at gx
    obtain ⟨c0, hc0, rfl⟩ := Option.map_eq_some_iff.mp gx
    obtain ⟨y, hy, hh⟩ := paired_get ht.2 hc0
    have hi := (List.getElem?_eq_some_iff.mp hy).1
    have el : as.length = i := by rw [Paired.length p3, List.length_map, List.length_take]; omega
    refine ⟨hw _, ?_⟩
    show te _ H' _
    refine he c0 y H' (List.mem_of_getElem? hy) hh p1 H' (Ex.refl _) _ fun r H4 nr e4 hr => ?_
    have nrD : r ≠ D := fun z => by
      rw [z, p2] at nr
      cases nr
    refine ⟨_, e4 _ _ p2, ?_, as ++ [r], Ex.mut (p1.trans e4) hD, ?_, ?_, ?_, ?_, ?_⟩
    · rw [List.length_map, el]
      exact small1000 (by omega)
    · rw [upd_same, List.map_append]
      rfl
    · rw [take_snoc hy, List.map_append]
      refine paired_snoc (rows_but p3 fun b hb o g => ?_) ?_
      · rw [upd_ne (fun z => p6 (by rw [← z]; exact hb))]
        exact e4 _ _ g
      · rw [upd_ne nrD]
        exact hr
    · intro b hb
      rcases List.mem_append.mp hb with h | h
      · exact p4 b h
      · rw [show b = r by simpa using h]
        exact fresh_back p1 nr
    · refine List.nodup_append.mpr ⟨p5, by simp, fun b hb c hc z => ?_⟩
      have : c = r := by simpa using hc
      have hb' : r ∈ as := by rw [← this, ← z]; exact hb
      obtain ⟨x, _, hx'⟩ := paired_mem p3 hb'
      rw [nr] at hx'
      cases hx'
    · intro hb
      rcases List.mem_append.mp hb with h | h
      · exact p6 h
      · exact nrD (by simpa using h : D = r).symm
  · obtain ⟨as, p1, p2, p3, p4, p5, p6⟩ := p
    rw [List.length_map, Paired.length ht.2, List.take_length] at p3
    exact k D as H' hD p4 p5 p6 p1 ⟨p2, p3⟩
theorem cut_outV (ns : List Int) {j : Nat} (hj : j < ns.length) (h8 : ns.length ≤ 8) : cutV (ns.map V.int) none (some (j : Int)) ++ cutV (ns.map V.int) (some ((j : Int) + 1)) none = (ns.take j ++ ns.drop (j + 1)).map V.int := by
  have e0 : HT.sIx (ns.map V.int).length 0 none = 0 := rfl
  have e1 : HT.sIx (ns.map V.int).length (ns.map V.int).length none = (ns.map V.int).length := rfl
  have e2 : HT.sIx (ns.map V.int).length (ns.map V.int).length (some (j : Int)) = j := by
    rw [List.length_map]
    exact six_at hj h8
  have e3 : HT.sIx (ns.map V.int).length 0 (some ((j : Int) + 1)) = j + 1 := by
    rw [List.length_map]
    exact six_at1 hj h8
  unfold cutV
  rw [e0, e1, e2, e3, List.drop_zero, Nat.sub_zero, List.map_append, List.map_take, List.map_drop]
  congr 1
  exact List.take_of_length_le (by rw [List.length_drop, List.length_map]; exact Nat.le_refl _)
theorem paired_drop {α β : Type} {R : α → β → Prop} : ∀ {xs : List α} {ys : List β} (n : Nat), Paired R xs ys → Paired R (xs.drop n) (ys.drop n)
  | _, _, 0, h => h
  | _, _, n + 1, .nil => by rw [List.drop_nil, List.drop_nil]; exact .nil
  | _, _, n + 1, .cons a t => paired_drop n t
theorem sign_at {i j : Nat} : atI [V.int 1, .int (-1)] (((i : Int) + (j : Int)) % 2) = some (.int (Dt.sgn2 i j)) := by
  have h : (((i : Int) + (j : Int)) % 2) = (((i + j) % 2 : Nat) : Int) := by omega
  rw [h]
  unfold Dt.sgn2
  rcases (show (i + j) % 2 = 0 ∨ (i + j) % 2 = 1 by omega) with g | g
  · rw [g, if_pos rfl]
    rfl
  · rw [g, if_neg (by decide)]
    rfl

theorem sign_at1 {j : Nat} : atI [V.int 1, .int (-1)] ((j : Int) % 2) = some (.int (Dt.sgn2 0 j)) := by
  have h := sign_at (i := 0) (j := j)
  rw [show ((0 : Nat) : Int) + (j : Int) = (j : Int) by omega] at h
  exact h
theorem sgn0 (j : Nat) : ((Dt.sgn2 0 j : Int) : Rat) = Dt.sg j := by
  rw [Dt.sgn2_eq]
  show 1 * Dt.sg j = _
  exact Rat.one_mul _
theorem bd_sgn2 (i j : Nat) : Bd 1 (Dt.sgn2 i j) := by unfold Dt.sgn2; split <;> unfold Bd <;> decide
theorem rest0 (R : List (List Int)) (j : Nat) : Dt.restT R 0 j = (R.drop 1).map fun r => r.take j ++ r.drop (j + 1) := rfl
theorem minor_rest {R : List (List Int)} {n j : Nat} (hl : R.length = n + 1) (hw : ∀ r ∈ R, r.length = n + 1) (hj : j < n + 1) : Dt.det n (Dt.minor (Dt.mx R) j) = Dt.det n (Dt.mx (Dt.restT R 0 j)) := Dt.det_congr fun a b ha hb => by
  show ((Dt.at_ R (a + 1) (Dt.skip j b) : Int) : Rat) = ((Dt.at_ (Dt.restT R 0 j) a b : Int) : Rat)
  have e := Dt.rest_at hl hw (i := 0) (by omega) hj a b (by unfold Dt.skip; split <;> omega)
  rw [e, show Dt.skip 0 a = a + 1 from Dt.skip_ge (Nat.zero_le _)]
theorem cut_drop1 (l : List Addr) (h : 1 ≤ l.length) (h8 : l.length ≤ 8) : cutV (l.map V.ref) (some 1) none = (l.drop 1).map V.ref := by
  have e1 : HT.sIx (l.map V.ref).length (l.map V.ref).length none = (l.map V.ref).length := rfl
  have e3 : HT.sIx (l.map V.ref).length 0 (some (1 : Int)) = 1 := by
    rw [List.length_map]
    exact six_at1 (j := 0) (by omega) h8
  unfold cutV
  rw [e1, e3, List.map_drop]
  exact List.take_of_length_le (by rw [List.length_drop]; exact Nat.le_refl _)


def sp__law_expanded (K : PySem.W.Frag) (N : Nat) : Sp := fun vs H Q _ => ∃ (p : Addr) (as : List Addr) (rows : List (List Int)) (n b : Nat), vs = [.ref p] ∧ TabOk H p as rows n n ∧ n ≤ N ∧ (0 < b ∧ b ≤ 200) ∧ (∀ r ∈ rows, ∀ y ∈ r, Bd b y) ∧
  ∀ (d : Int) H', ((d : Int) : Rat) = Dt.det n (Dt.mx rows) → Bd (n * (b + 12)) d → Ex H H' → Q (.int d) H'
theorem zero__law_expanded {K : PySem.W.Frag} {vs : List V} {H : Hp} {Q : VK} {E : XK} (h : sp__law_expanded K 0 vs H Q E) : False := by
  obtain ⟨_, _, _, _, _, _, h, hn, _⟩ := h
  have := h.b
  omega

theorem okr__law_expanded (T : Txt K mg) : ∀ n : Nat, FnOk P w K mg base CX0 (n + 1) T.f__law_expanded T.fd__law_expanded ["_law_grid"] (sp__law_expanded K n)
  | 0 => ⟨fun vs H Q E h => (zero__law_expanded h).elim, fun A outer s H args us vs Q E hr e0 hb r h => (zero__law_expanded h).elim⟩
  | n + 1 => by
    have ih := okr__law_expanded T n
    refine Fun.ok T.F__law_expanded sc__law_expanded (fun vs H Q E h => ?_) (fun cdv A outer s H vs Q E hr h => ?_)
    · obtain ⟨_, _, _, _, _, rfl, _⟩ := h; rfl
    · refine ⟨_, (pss_cons (ps_if (pt_cmpR op_eq (pe_callB (id := "len") (r := rLenS K) call_len_seq (by rfl) T.n_len PySem.boot_len (pa_cons (pv 0) pa_nil)) pe_int (nomark _))
        (pss_one (ps_ret (pe_ix (r := rIxL K) ix_list (pe_ix (r := rIxL K) ix_list (pv 0) pe_int (fun _ _ => rfl)) pe_int (fun _ _ => rfl))))
        pss_nil)
      (pss_cons (ps_set (i := 1) sc__law_expanded.nd rfl (by first | exact Or.inl rfl | exact Or.inr rfl) pe_int)
      (pss_cut (ps_for PassesOwn.never rfl (pi_enum (by rfl) T.n_enumerate (pa_cons (pe_ix (r := rIxL K) ix_list (pv 0) pe_int (fun _ _ => rfl)) pa_nil)) (pg_tup rfl (pgs_cons (pg_name (i := 2) sc__law_expanded.nd rfl (by first | exact Or.inl rfl | exact Or.inr rfl)) (pgs_cons (pg_name (i := 3) sc__law_expanded.nd rfl (by first | exact Or.inl rfl | exact Or.inr rfl)) pgs_nil)))
        (pss_one (ps_if (pt_cmpR op_ne (pv 3) pe_int (nomark _))
            (pss_cut (ps_setLc (i := 4) (own := [("_law_row", 5)]) (wi := iList K _) (g := gName 5) (tt := tYes) rfl sc__law_expanded.nd rfl rfl (sw_true rfl rfl rfl (by decide +kernel)) (pi_list (pe_slice (r := rSlL K) sl_list (pv 0) (po_some pe_int) po_none)) (blkOk_by (N := ["_law_grid", "_law_worth", "_law_j", "_law_entry", "_law_rest", "_law_row"]) (sc := (defScope s__law_expanded)) (by decide +kernel)) (fun _ _ _ _ _ => pg_name (i := 5) sc__law_expanded.nd rfl (Or.inl rfl)) (fun _ _ _ _ _ => pts_nil) (fun _ _ _ _ _ => (pe_op op_cat (pe_slice (r := rSlL K) sl_list (pv 5) po_none (po_some (pv 2))) (pe_slice (r := rSlL K) sl_list (pv 5) (po_some (pe_op op_add (pv 2) pe_int)) po_none))))
              (pss_one (ps_set (i := 1) sc__law_expanded.nd rfl (by first | exact Or.inl rfl | exact Or.inr rfl) (pe_op op_add (pv 1) (pe_op op_mulW (pe_op op_mulW (pe_ix (r := rIxL K) ix_list (pe_lst (pa_cons pe_int (pa_cons (pe_un un_neg pe_int) pa_nil))) (pe_op op_mod (pv 2) pe_int) (fun _ _ => rfl)) (pv 3)) (pe_call ih hr (by rfl) T.g__law_expanded T.k__law_expanded T.b__law_expanded .nil pass0 (pa_cons (pv 4) pa_nil)))))))
            pss_nil)))
      (pss_one (ps_ret (pv 1)))))), ?_⟩
      obtain ⟨p, as, rows, m, b, rfl, hT, hn, hbb, hb, k⟩ := h
      have hd := hT.b
      obtain ⟨n', rfl⟩ : ∃ n', m = n' + 1 := ⟨m - 1, by omega⟩
      obtain ⟨a0, r0, ha0, hr0, hh0, hl0, at0⟩ := hT.row0
      have b0 : ∀ y ∈ r0, Bd b y := hb _ (List.mem_of_getElem? hr0)
      refine q_when (b := decide (n' + 1 = 1)) (et_is (et_test (ev_op (ev_is (ev_len (ev_var (i := 0) rfl) (SqL.of hT.tab.1)) (by rw [List.length_map, hT.al])) ev_c (rv_eq rfl))) (dec_nat (x := n' + 1) (y := 1))) (fun z H1 e1 => ?_) (fun z H1 e1 => ?_)
      · have z := of_decide_eq_true z
        obtain rfl : n' = 0 := by omega
        refine s_ret (v := .int (Dt.at_ rows 0 0)) (ev_op (ev_op (ev_var (i := 0) rfl) ev_c (rv_ixL (SqL.of (hT.ex e1).tab.1) at0)) ev_c (rv_ixL (SqL.of (e1 _ _ hh0)) (by rw [at_row_ hr0]; exact atI_row (kk := 0) (by omega)))) fun H2 e2 => k _ H2 ?_ ?_ (e1.trans e2)
        · rw [Dt.det_one]
          rfl
        · rw [at_row_ hr0]
          exact (b0 _ (mem_i (by omega))).mono (by omega)
      have z := of_decide_eq_false z
      refine q_asg (v := .int 0) ev_c fun H2 e2 => ?_
      have hT2 := hT.ex (e1.trans e2)
      refine ⟨fun σ' H' => ∃ (wth : Int) (y2 y3 y4 : Option V), σ' = [some (.ref p), some (.int wth), y2, y3, y4, none] ∧ Ex H2 H' ∧ ((wth : Int) : Rat) = Dt.det (n' + 1) (Dt.mx rows) ∧ Bd (n' * (b + 12) + b + 4 + (n' + 1)) wth, ?_, ?_⟩
      rotate_left
      · rintro σ' H3 ⟨wth, y2, y3, y4, rfl, e3, h1, h2⟩
        refine s_ret (ev_var rfl) fun H4 e4 => k wth H4 h1 (h2.mono ?_) ((e1.trans e2).trans (e3.trans e4))
        rw [Nat.add_mul]
        omega
      have e3 : Ex H2 H2 := Ex.refl _
      have hh3 := (e1.trans e2) _ _ hh0
      refine ⟨_, rfl, p, _, 0, _, rfl, rfl, SqL.of hT2.tab.1, at0, a0, _, rfl, SqL.of hh3, ?_⟩
      refine for_enum (K := K) (a := a0) (xs := r0.map V.int) (fun i σ H' => ∃ (wth : Int) (y2 y3 y4 : Option V), σ = [some (.ref p), some (.int wth), y2, y3, y4, none] ∧ Ex H2 H' ∧ ((wth : Int) : Rat) = Dt.sm i (fun j => Dt.sg j * Dt.mx rows 0 j * Dt.det n' (Dt.minor (Dt.mx rows) j)) ∧ Bd (n' * (b + 12) + b + 4 + i) wth) ⟨0, _, _, _, rfl, Ex.refl _, rfl, bd_zero⟩ (fun i σ H' ⟨_, _, _, _, _, e, _⟩ => SqL.of (e _ _ hh3)) ?_ ?_
      rotate_left
      · rintro σ H4 ⟨wth, y2, y3, y4, rfl, e4, h1, h2⟩
        rw [List.length_map, hl0] at h1 h2
        exact ⟨wth, y2, y3, y4, rfl, e3.trans e4, h1, h2⟩
      rintro i x t σ H4 hx ⟨wth, y2, y3, y4, rfl, e4, h1, h2⟩ nt
      rw [List.getElem?_map] at hx
      obtain ⟨e, he, rfl⟩ := Option.map_eq_some_iff.mp hx
      have hi := (List.getElem?_eq_some_iff.mp he).1
      have xt := Ex.new (o := .tup [V.int (i : Nat), .int e]) nt
      refine ⟨t, _, rfl, SqT.of upd_same, rfl, _, _, rfl, _, _, rfl, rfl, ?_⟩
      have me : Dt.mx rows 0 i = ((e : Int) : Rat) := by
        show ((Dt.at_ rows 0 i : Int) : Rat) = _
        rw [at_row_ hr0, get_i he]
      have e5 := e4.trans xt
      have step : Dt.sm (i + 1) (fun j => Dt.sg j * Dt.mx rows 0 j * Dt.det n' (Dt.minor (Dt.mx rows) j)) = ((wth : Int) : Rat) + Dt.sg i * ((e : Int) : Rat) * Dt.det n' (Dt.minor (Dt.mx rows) i) := by
        show Dt.sm i _ + Dt.sg i * Dt.mx rows 0 i * _ = _
        rw [← h1, me]
      refine s_when (b := !decide (e = 0)) (et_is (et_test (ev_op (ev_var (i := 3) rfl) ev_c (rv_ne rfl))) ?_) (fun c H5 e6 => ?_) (fun c H5 e6 => ?_)
      · congr 1
        exact decide_eq_decide.mpr ⟨fun z => V.int.inj z, fun z => by rw [z]⟩
      rotate_left
      · have c : e = 0 := by
          by_cases c1 : e = 0
          · exact c1
          · rw [decide_eq_false c1] at c
            cases c
        refine ⟨wth, _, _, _, rfl, e5.trans e6, ?_, h2.mono (by omega)⟩
        rw [step, c]
        show _ = _ + Dt.sg i * (0 : Rat) * _
        grind
      have hT5 := (hT2.ex e3).ex (e5.trans e6)
      have al := hT5.al
      have rr := hT5.m_
      refine ⟨fun σ' H' => ∃ (q : Addr) (qs : List Addr), σ' = [some (.ref p), some (.int wth), some (.int (i : Int)), some (.int e), some (.ref q), none] ∧ Ex H5 H' ∧ Tab H' q qs (Dt.restT rows 0 i), ?_, ?_⟩
      · have sl := el_sl (K := K) (te := tVar 0) (tl := tPart (tC (.int 1))) (th := tNoPart) (σ := [some (.ref p), some (.int wth), some (.int (i : Int)), some (.int e), y4, none]) (ev_var rfl) (eo_some ev_c) eo_none (SqL.of hT5.tab.1)
        rw [cut_drop1 as (by omega) (by omega)] at sl
        refine lc_rowsE (K := K) (F := fun r => r.take i ++ r.drop (i + 1)) sl (paired_drop 1 hT5.tab.2) (by rw [List.length_drop]; omega) (fun u => rfl) (fun c r H6 hr hc e7 => ?_) (fun q qs H6 _ _ _ _ e7 h => ⟨q, qs, rfl, e7, h⟩)
        have lr := hT.w_ r (List.mem_of_mem_drop hr)
        have c3 := cutV_length (r.map V.int) none (some (i : Int))
        have c4 := cutV_length (r.map V.int) (some ((i : Int) + 1)) none
        rw [List.length_map] at c3 c4
        rw [← cut_outV r (by omega) (by omega)]
        exact el_cat (el_sl (K := K) (ev_var rfl) eo_none (eo_some (ev_var rfl)) (SqL.of hc)) (el_sl (K := K) (ev_var rfl) (eo_some (ev_op (ev_var rfl) ev_c rv_I0)) eo_none (SqL.of hc)) (by omega)
      rintro σ' H6 ⟨q, qs, rfl, e7, hR⟩
      have okR : TabOk H6 q qs (Dt.restT rows 0 i) n' n' := ⟨hR, by rw [Dt.rest_len hT.m_ (by omega), Nat.add_sub_cancel], fun r hr => by rw [Dt.rest_wid hT.w_ (by omega) r hr, Nat.add_sub_cancel], by omega, by omega, by omega, by omega⟩
      have be : Bd b e := b0 e (List.mem_of_getElem? he)
      refine ⟨_, rfl, ?_⟩
      have sc : Ev (tOp (rI CMulW fun i j => .int (i * j)) (tOp (rIxL K) (tLst (tCons (tC (.int 1)) (tCons (tUn (rU fun i => .int (-i)) (tC (.int 1))) tNil))) (tOp (rI (fun _ j => 0 < j) fun i j => .int (i % j)) (tVar 2) (tC (.int 2)))) (tVar 3)) [some (.ref p), some (.int wth), some (.int (i : Int)), some (.int e), some (.ref q), none] H6 (.int (Dt.sgn2 0 i * e)) := ev_op (ev_opL1 (el_lst (ea_cons ev_c (ea_cons (ev_un (x := .int 1) ev_c ru_neg) ea_nil)) (Nat.le_of_ble_eq_true rfl)) (fun H9 e9 => ev_op (ev_var rfl) ev_c (rv_I (by decide))) (fun p H9 hp e9 => rv_ixL (SqL.of hp) sign_at1)) (ev_var rfl) (rv_I ((bd_sgn2 0 i).mulOk be (by decide) hbb.1 (by omega)))
      refine sc H6 (Ex.refl _) _ fun H7 e8 => ?_
      have n6 : n' ≤ n := by omega
      refine ⟨_, rfl, q, qs, _, n', b, rfl, okR.ex e8, n6, hbb, Dt.rest_mem hb, fun d H8 hdd bd e9 => ?_⟩
      have nb : n' * (b + 12) ≤ 8 * 212 := Nat.mul_le_mul (by omega) (by have := hbb.2; omega)
      refine ⟨_, _, rfl, rfl, ((bd_sgn2 0 i).mul be).mulOk bd (by omega) (Nat.mul_pos (by omega) (by omega)) (by omega), ?_⟩
      refine ⟨_, _, rfl, rfl, ?_⟩
      refine ⟨wth + Dt.sgn2 0 i * e * d, _, _, _, rfl, (e5.trans e6).trans (e7.trans (e8.trans e9)), ?_, ?_⟩
      · rw [step, Rat.intCast_add, Rat.intCast_mul, Rat.intCast_mul, sgn0, hdd, minor_rest hT.m_ hT.w_ (by omega)]
      · exact (Bd.add (h2 : Bd (n' * (b + 12) + b + 4 + i) wth) ((((bd_sgn2 0 i).mul be).mul bd).mono (by omega))).mono (by omega)
theorem ok__law_expanded (T : Txt K mg) : FnOk P w K mg base CX0 7 T.f__law_expanded T.fd__law_expanded ["_law_grid"] (sp__law_expanded K 6) := okr__law_expanded T 6
-- DEF _law_due
theorem sub_row (R : List (List Int)) (i : Nat) (cs : List Nat) : (Sg.zs cs).map (fun y => Dt.at_ R i y.toNat) = cs.map fun j => Dt.at_ R i j := by
  unfold Sg.zs
  rw [List.map_map]
  rfl
theorem sub_zs (R : List (List Int)) (rs cs : List Nat) : (Sg.zs rs).map (fun x => (Sg.zs cs).map fun y => Dt.at_ R x.toNat y.toNat) = Bs.sub R rs cs := by
  unfold Bs.sub
  show (Sg.zs rs).map _ = _
  have e : Sg.zs rs = rs.map fun (i : Nat) => (i : Int) := rfl
  rw [e, List.map_map]
  refine List.map_congr_left fun i _ => ?_
  exact sub_row R i cs

theorem ev_notV12 {ta : TE} {σ : L2.St} {H : Hp} {b : Bool} (h : Ev ta σ H (.bl b)) : Ev (tNotV ta) σ H (.bl (!b)) := fun G e Q q => h G e _ fun G2 e2 => ⟨b, rfl, q G2 e2⟩
theorem asg_call12 {sp : Sp} {E : XK} {te : TE} {g : TG} {D : Ends} {σ : L2.St} {H : Hp} (h : te σ H fun v H1 => sp [v] H1 (fun u H2 => g u σ H2 D.nx) E) : tAsg (tCall sp [] E (tCons te tNil)) g D σ H := h
theorem arg_call12 {sp : Sp} {E : XK} {te : TE} {σ : L2.St} {H : Hp} {Q : VK} (h : te σ H fun v H1 => sp [v] H1 Q E) : tCall sp [] E (tCons te tNil) σ H Q := h
def sp__law_due (K : PySem.W.Frag) : Sp := fun vs H Q _ => ∃ (s p : Addr) (v : V) (as : List Addr) (R : List (List Int)) (m wd : Nat) (o : Option (Option (List V) × Option (List V) × V)), vs = [.ref p, v] ∧ TabOk H p as R m wd ∧ m ≤ 6 ∧ (∀ r ∈ R, ∀ y ∈ r, Bd 100 y) ∧ ThS s H v o ∧ ∀ H', Ex H H' → Q (.bl (dueB R m wd o)) H'

theorem ok__law_due (T : Txt K mg) : FnOk P w K mg base CX0 8 T.f__law_due T.fd__law_due ["_law_grid", "_law_some_thing"] (sp__law_due K) := by
  refine Fun.ok T.F__law_due sc__law_due (fun vs H Q E h => ?_) (fun cdv A outer s H vs Q E hr h => ?_)
  · obtain ⟨_, _, _, _, _, _, _, _, rfl, _⟩ := h; rfl
  · refine ⟨_, (pss_cons (ps_if (PW.pt (pw_or (pt_not (pt_val (pe_callB (id := "isinstance") (r := rIsi K) call_isi (by rfl) T.n_isinstance (by decide +kernel) (pa_cons (pv 1) (pa_cons (pe_bltn (v := .ty "tuple") (by rfl) T.n_tuple (by decide +kernel) rfl) pa_nil))))) (pw_or1 (pt_cmpR op_ne (pe_callB (id := "len") (r := rLenS K) call_len_seq (by rfl) T.n_len PySem.boot_len (pa_cons (pv 1) pa_nil)) pe_int (nomark _)))))
        (pss_one (ps_ret pe_bl))
        pss_nil)
      (pss_cons (ps_asg (pv 1) (pg_tup rfl (pgs_cons (pg_name (i := 2) sc__law_due.nd rfl (by first | exact Or.inl rfl | exact Or.inr rfl)) (pgs_cons (pg_name (i := 3) sc__law_due.nd rfl (by first | exact Or.inl rfl | exact Or.inr rfl)) (pgs_cons (pg_name (i := 4) sc__law_due.nd rfl (by first | exact Or.inl rfl | exact Or.inr rfl)) pgs_nil)))))
      (pss_cons (ps_if (PW.pt (pw_or (pt_not (pt_val (pe_call (ok__law_is_pick T) (hr.mono (by decide)) (by rfl) T.g__law_is_pick T.k__law_is_pick T.b__law_is_pick .nil pass0 (pa_cons (pv 2) (pa_cons (pe_callB (id := "len") (r := rLenS K) call_len_seq (by rfl) T.n_len PySem.boot_len (pa_cons (pv 0) pa_nil)) pa_nil))))) (pw_or (pt_not (pt_val (pe_call (ok__law_is_pick T) (hr.mono (by decide)) (by rfl) T.g__law_is_pick T.k__law_is_pick T.b__law_is_pick .nil pass0 (pa_cons (pv 3) (pa_cons (pe_callB (id := "len") (r := rLenS K) call_len_seq (by rfl) T.n_len PySem.boot_len (pa_cons (pe_ix (r := rIxL K) ix_list (pv 0) pe_int (fun _ _ => rfl)) pa_nil)) pa_nil))))) (pw_or1 (pt_cmpR op_ne (pe_callB (id := "len") (r := rLenS K) call_len_seq (by rfl) T.n_len PySem.boot_len (pa_cons (pv 2) pa_nil)) (pe_callB (id := "len") (r := rLenS K) call_len_seq (by rfl) T.n_len PySem.boot_len (pa_cons (pv 3) pa_nil)) (nomark _))))))
        (pss_one (ps_ret pe_bl))
        pss_nil)
      (pss_cut (ps_set (i := 5) sc__law_due.nd rfl (by first | exact Or.inl rfl | exact Or.inr rfl) (pe_call (ok__law_expanded T) hr (by rfl) T.g__law_expanded T.k__law_expanded T.b__law_expanded .nil pass0 (pa_cons (pe_lc (own := [("_law_i", 6)]) (wi := iList K _) (g := gName 6) (tt := tYes) rfl sc__law_due.nd (pi_list (pv 2)) (blkOk_by (N := ["_law_grid", "_law_some_thing", "_law_rows", "_law_columns", "_law_worth", "_law_due_here", "_law_i", "_law_j"]) (sc := (defScope s__law_due)) (by decide +kernel)) (fun _ _ _ _ _ => pg_name (i := 6) sc__law_due.nd rfl (Or.inr rfl)) (fun _ _ _ _ _ => pts_nil) (fun _ _ _ _ _ => (pe_lc (own := [("_law_j", 7)]) (wi := iList K _) (g := gName 7) (tt := tYes) rfl sc__law_due.nd (pi_list (pv 3)) (blkOk_by (N := ["_law_grid", "_law_some_thing", "_law_rows", "_law_columns", "_law_worth", "_law_due_here", "_law_i", "_law_j"]) (sc := (relS ({ kind := .function, names := [(".0", .local), ("_law_i", .cell), ("_law_columns", .free), ("_law_grid", .free)], isGenerator := false, isCoroutine := false } : Scope) (defScope s__law_due))) (by decide +kernel)) (fun _ _ _ _ _ => pg_name (i := 7) sc__law_due.nd rfl (Or.inl rfl)) (fun _ _ _ _ _ => pts_nil) (fun _ _ _ _ _ => (pe_ix (r := rIxL K) ix_list (pe_ix (r := rIxL K) ix_list (pv 0) (pv 6) (fun _ _ => rfl)) (pv 7) (fun _ _ => rfl)))))) pa_nil)))
      (pss_one (ps_ret (pe_and (pe_callB (id := "isinstance") (r := rIsi K) call_isi (by rfl) T.n_isinstance (by decide +kernel) (pa_cons (pv 4) (pa_cons (pe_bltn (v := .ty "int") (by rfl) T.n_int (by decide +kernel) rfl) pa_nil))) (pe_and (pe_not (pe_callB (id := "isinstance") (r := rIsi K) call_isi (by rfl) T.n_isinstance (by decide +kernel) (pa_cons (pv 4) (pa_cons (pe_bltn (v := .ty "bool") (by rfl) T.n_bool (by decide +kernel) rfl) pa_nil)))) (pe_and (pe_cmpR op_eq (pv 4) (pv 5) (nomark _)) (pe_one (pe_cmpR (r := rIn K true) op_notIn_seq (pv 5) (pe_tup (pa_cons (pe_un un_neg pe_int) (pa_cons pe_int (pa_cons pe_int pa_nil)))) (by rfl)))))))))))), ?_⟩
    obtain ⟨s, p, v, as, R, m, wd, o, rfl, hT, hm6, hb, ho, k⟩ := h
    have hd := hT.b
    cases ho with
    | oth hk nt =>
      rename_i t
      refine q_when (b := true) (et_is (et_or (a := true) (b := false) (et_not (et_B (ev_isK (t := t) (b := false) (ev_var (i := 1) rfl) ev_c hk (by rw [ty_tup12 hk.ty]; exact congrArg some (beq_eq_false_iff_ne.mpr nt))))) (fun z => nomatch z)) rfl) (fun _ H2 e2 => ?_) (fun z => nomatch z)
      exact s_ret (v := .bl false) ev_c fun H3 e3 => k H3 (e2.trans e3)
    | few h n l =>
      rename_i t xs
      refine q_when (b := true) (et_is (et_or (a := false) (b := true) (et_is (et_not (et_B (b := true) (ev_isi (t := "tuple") (b := true) (ev_var (i := 1) rfl) ev_c (fun H1 e => .base (.tup (e _ _ h))) (by decide +kernel)))) rfl) (fun _ => et_is (et_test (ev_op (ev_lenTu (ev_var (i := 1) rfl) (SqT.of h)) ev_c (rv_ne rfl))) (by rw [show (V.int 3) = V.int ((3 : Nat) : Int) from rfl, dec_nat, decide_eq_false l]; rfl))) rfl) (fun _ H2 e2 => ?_) (fun z => nomatch z)
      exact s_ret (v := .bl false) ev_c fun H3 e3 => k H3 (e2.trans e3)
    | tri h n hx hy hz =>
      rename_i t x y z p1 p2
      refine q_when (b := false) (et_is (et_or (a := false) (b := false) (et_is (et_not (et_B (b := true) (ev_isi (t := "tuple") (b := true) (ev_var (i := 1) rfl) ev_c (fun H1 e => .base (.tup (e _ _ h))) (by decide +kernel)))) rfl) (fun _ => et_is (et_test (ev_op (ev_lenTu (ev_var (i := 1) rfl) (SqT.of h)) ev_c (rv_ne rfl))) rfl)) rfl) (fun z => nomatch z) fun _ H2 e12 => ?_
      refine ⟨_, rfl, t, _, rfl, SqT.of (e12 _ _ h), rfl, _, _, rfl, _, _, rfl, _, _, rfl, rfl, ?_⟩
      have hx2 := hx.kp (.of e12)
      have hy2 := hy.kp (.of e12)
      have T2 := hT.ex e12
      obtain ⟨a0, r0, _, _, hh0, hl0, at0⟩ := T2.row0
      have lenG : ∀ {σ : L2.St}, σ[0]? = some (some (.ref p)) → Ev (tCB (rLenS K) (tCons (tVar 0) tNil)) σ H2 (.int (m : Int)) := fun hσ => ev_is (ev_len (ev_var hσ) (SqL.of T2.tab.1)) (by rw [List.length_map, T2.al])
      have lenR : ∀ {σ : L2.St}, σ[0]? = some (some (.ref p)) → Ev (tCB (rLenS K) (tCons (tOp (rIxL K) (tVar 0) (tC (.int 0))) tNil)) σ H2 (.int (wd : Int)) := fun hσ => ev_is (ev_len (ev_op (ev_var hσ) ev_c (rv_ixL (SqL.of T2.tab.1) at0)) (SqL.of hh0)) (by rw [List.length_map, hl0])
      have isp1 : ∀ {j : Nat} {σ : L2.St}, σ[j]? = some (some x) → σ[0]? = some (some (.ref p)) → Ev (tCall (sp__law_is_pick K) [] E0 (tCons (tVar j) (tCons (tCB (rLenS K) (tCons (tVar 0) tNil)) tNil))) σ H2 (.bl (firstOf p1 m 1).isNone) := fun h1 h2 => ev_fn (sp := sp__law_is_pick K) (ea_cons (ev_var h1) (ea_cons (lenG h2) ea_nil)) fun H3 e3 Q3 q3 => ⟨s, _, m, p1, rfl, hx2.kp (.of e3), q3⟩
      have isp2 : ∀ {j : Nat} {σ : L2.St}, σ[j]? = some (some y) → σ[0]? = some (some (.ref p)) → Ev (tCall (sp__law_is_pick K) [] E0 (tCons (tVar j) (tCons (tCB (rLenS K) (tCons (tOp (rIxL K) (tVar 0) (tC (.int 0))) tNil)) tNil))) σ H2 (.bl (firstOf p2 wd 1).isNone) := fun h1 h2 => ev_fn (sp := sp__law_is_pick K) (ea_cons (ev_var h1) (ea_cons (lenR h2) ea_nil)) fun H3 e3 Q3 q3 => ⟨s, _, wd, p2, rfl, hy2.kp (.of e3), q3⟩
      cases f1 : firstOf p1 m 1 with
      | some i =>
        refine q_when (b := true) (et_is (et_or (a := true) (b := false) (et_is (et_not (et_B (isp1 (j := 2) rfl rfl))) (by rw [f1]; rfl)) (fun z => nomatch z)) rfl) (fun _ H3 e3 => ?_) (fun z => nomatch z)
        have : dueB R m wd (some (p1, p2, z)) = false := by
          show ((firstOf p1 m 1).isNone && ((firstOf p2 wd 1).isNone && (decide (lenO p1 = lenO p2) && worthB R p1 p2 z))) = false
          rw [f1]
          rfl
        rw [this] at k
        exact s_ret (v := .bl false) ev_c fun H4 e4 => k H4 (e12.trans (e3.trans e4))
      | none =>
        cases f2 : firstOf p2 wd 1 with
        | some i =>
          refine q_when (b := true) (et_is (et_or (a := false) (b := true) (et_is (et_not (et_B (isp1 (j := 2) rfl rfl))) (by rw [f1]; rfl)) (fun _ => et_or (a := true) (b := false) (et_is (et_not (et_B (isp2 (j := 3) rfl rfl))) (by rw [f2]; rfl)) (fun z => nomatch z))) rfl) (fun _ H3 e3 => ?_) (fun z => nomatch z)
          have : dueB R m wd (some (p1, p2, z)) = false := by
            show ((firstOf p1 m 1).isNone && ((firstOf p2 wd 1).isNone && (decide (lenO p1 = lenO p2) && worthB R p1 p2 z))) = false
            rw [f1, f2]
            rfl
          rw [this] at k
          exact s_ret (v := .bl false) ev_c fun H4 e4 => k H4 (e12.trans (e3.trans e4))
        | none =>
          obtain ⟨a, rs, rfl, ha, na, e1n, e1l, r0', ur, mr⟩ := pick_nats hx2 f1
          obtain ⟨b, cs, rfl, hbb, nb, e2n, e2l, c0, uc, mc⟩ := pick_nats hy2 f2
          have due : dueB R m wd (some (p1, p2, z)) = (decide (rs.length = cs.length) && worthB R p1 p2 z) := by
            show ((firstOf p1 m 1).isNone && ((firstOf p2 wd 1).isNone && (decide (lenO p1 = lenO p2) && worthB R p1 p2 z))) = _
            rw [f1, f2, e1l, e2l]
            rfl
          rw [due] at k
          refine q_when (b := !decide (rs.length = cs.length)) (et_is (et_or (a := false) (b := !decide (rs.length = cs.length)) (et_is (et_not (et_B (isp1 (j := 2) rfl rfl))) (by rw [f1]; rfl)) (fun _ => et_or (a := false) (b := !decide (rs.length = cs.length)) (et_is (et_not (et_B (isp2 (j := 3) rfl rfl))) (by rw [f2]; rfl)) (fun _ => et_is (et_test (ev_op (ev_len (ev_var (i := 2) rfl) (SqL.of ha)) (ev_len (ev_var (i := 3) rfl) (SqL.of hbb)) (rv_ne rfl))) (by rw [dec_nat, List.length_map, List.length_map, zs_len, zs_len])))) (by simp)) (fun hz' H3 e3 => ?_) fun hz' H3 e3 => ?_
          · rw [Bool.not_eq_true'] at hz'
            rw [hz'] at k
            exact s_ret (v := .bl false) ev_c fun H4 e4 => k H4 (e12.trans (e3.trans e4))
          rw [Bool.not_eq_false'] at hz'
          rw [hz'] at k
          have hl := (of_decide_eq_true hz').symm
          have rl := Tu.len_lt ur mr
          have cl := Tu.len_lt uc mc
          have r1 : 1 ≤ rs.length := List.length_pos_iff.mpr r0'
          have T3 := T2.ex e3
          have ha3 := e3 _ _ ha
          have hb3 := e3 _ _ hbb
          refine ⟨fun σ' H' => σ' = [some (.ref p), some (.ref t), some (.ref a), some (.ref b), some z, some (.int (Bs.val R rs cs)), none, none] ∧ Ex H3 H', ?_, ?_⟩
          · refine asg_call12 ?_
            refine lc_rowsL (K := K) (nn := 2) (ys := Sg.zs rs) (fun x => (Sg.zs cs).map fun y => Dt.at_ R x.toNat y.toNat) rfl ha3 (by rw [zs_len]; omega) (fun u => rfl) (fun x G hx eG => ?_) (fun q1 qs H6 nq nqs nd nqq e6 h6 => ?_)
            · unfold Sg.zs at hx
              obtain ⟨ir, hir, rfl⟩ := List.mem_map.mp hx
              have hTG := T3.ex eG
              obtain ⟨ai, ri, h1, h2, h3, h4⟩ := hTG.row (i := (ir : Int)) (by omega) (by have := mr ir hir; omega)
              rw [Int.toNat_natCast] at h2
              refine el_mapI (K := K) (n := 3) (fun y => Dt.at_ R (ir : Int).toNat y.toNat) rfl (eG _ _ hb3) (by rw [zs_len]; omega) (fun u => rfl) fun y G2 hy eG2 => ?_
              unfold Sg.zs at hy
              obtain ⟨jc, hjc, rfl⟩ := List.mem_map.mp hy
              have hjw := mc jc hjc
              rw [Int.toNat_natCast, Int.toNat_natCast]
              have ent : Dt.at_ R ir jc = ri[jc]?.getD 0 := by
                show (R[ir]?.getD [])[jc]?.getD 0 = _
                rw [h2]
                rfl
              rw [ent]
              exact ev_op (ev_op (ev_var (i := 0) rfl) (ev_var (i := 6) rfl) (rv_ixL (SqL.of (eG2 _ _ hTG.tab.1)) h1)) (ev_var (i := 7) rfl) (rv_ixL (SqL.of (eG2 _ _ h3)) (atI_row (by omega)))
            rw [sub_zs] at h6
            refine ⟨q1, qs, Bs.sub R rs cs, rs.length, 100, rfl, ⟨h6, sub_len R rs cs, fun r hr => by rw [sub_wid R rs cs r hr, hl], by omega, by omega, by omega, by omega⟩, by omega, by decide, sub_bd hb, fun d H7 hdet _ e7 => ?_⟩
            have hdv : d = Bs.val R rs cs := by
              have h1 := Bs.val_eq R hl
              rw [← hdet] at h1
              exact (Rat.intCast_inj.mp h1).symm
            rw [hdv]
            exact ⟨rfl, e6.trans e7⟩
          rintro _ H4 ⟨rfl, e4⟩
          have e14 := e12.trans (e3.trans e4)
          have fin : ∀ x : Int, Ev (tOp (rIn K true) (tVar 5) (tTup (tCons (tUn (rU fun i => .int (-i)) (tC (.int 1))) (tCons (tC (.int 0)) (tCons (tC (.int 1)) tNil))))) [some (.ref p), some (.ref t), some (.ref a), some (.ref b), some z, some (.int (Bs.val R rs cs)), none, none] H4 (.bl (Bs.isBad (Bs.val R rs cs))) := fun _ => ev_is (ev_niU (ev_var (i := 5) rfl) (eu_tup (ea_cons (ev_un (x := .int 1) ev_c ru_neg) (ea_cons ev_c (ea_cons ev_c ea_nil))) (Nat.le_of_ble_eq_true rfl)) rfl rfl) (by rw [not_in3])
          rcases hz with ⟨v, rfl⟩ | nz
          · have wB : worthB R p1 p2 (.int v) = (decide (v = Bs.val R rs cs) && Bs.isBad (Bs.val R rs cs)) := by
              show (Bs.isBad v && decide (Bs.val R (natsO p1) (natsO p2) = v)) = _
              rw [e1n, e2n]
              by_cases c : v = Bs.val R rs cs
              · rw [c, decide_eq_true rfl, Bool.and_true, Bool.true_and]
              · rw [decide_eq_false (fun z => c z.symm), decide_eq_false c, Bool.and_false, Bool.false_and]
            rw [wB] at k
            refine s_ret (v := .bl (true && (true && (decide (v = Bs.val R rs cs) && Bs.isBad (Bs.val R rs cs))))) (ev_andV (a := true) (ev_isK (n := "int") (b := true) (t := "int") (ev_var (i := 4) rfl) ev_c (Kd.int (s := s) v) (by decide +kernel)) fun _ => ev_andV (a := true) (ev_is (ev_notV12 (ev_isK (n := "bool") (b := false) (t := "int") (ev_var (i := 4) rfl) ev_c (Kd.int (s := s) v) (by decide +kernel))) rfl) fun _ => ev_andV (ev_is (ev_op (ev_var (i := 4) rfl) (ev_var (i := 5) rfl) (rv_eq rfl)) (by rw [show decide (V.int v = V.int (Bs.val R rs cs)) = decide (v = Bs.val R rs cs) from decide_eq_decide.mpr ⟨fun z => by injection z, fun z => by rw [z]⟩])) fun _ => fin 0) fun H5 e5 => k H5 (e14.trans e5)
          · have hk : ∃ ty, (ty = "bool" ∨ (ty ≠ "int" ∧ ty ≠ "bool")) ∧ Kd s H4 z ty ∧ worthB R p1 p2 z = false := by
              rcases nz with rfl | ⟨b, rfl⟩ | ⟨t, rfl⟩
              · exact ⟨"NoneType", .inr ⟨by decide, by decide⟩, .non, rfl⟩
              · exact ⟨"bool", .inl rfl, .bl b, rfl⟩
              · exact ⟨"str", .inr ⟨by decide, by decide⟩, .str t, rfl⟩
            obtain ⟨ty, n1, n2, n4⟩ := hk
            rw [n4] at k
            rcases n1 with rfl | ⟨n1, n3⟩
            · exact s_ret (v := .bl (true && (false && false))) (ev_andV (a := true) (b := false && false) (ev_isK (n := "int") (b := true) (t := "bool") (ev_var (i := 4) rfl) ev_c n2 (by decide +kernel)) fun _ => ev_andV (a := false) (b := false) (ev_is (ev_notV12 (ev_isK (n := "bool") (b := true) (t := "bool") (ev_var (i := 4) rfl) ev_c n2 (by decide +kernel))) rfl) fun z => nomatch z) fun H5 e5 => k H5 (e14.trans e5)
            · exact s_ret (v := .bl (false && false)) (ev_andV (a := false) (b := false) (ev_isK (n := "int") (b := false) (t := ty) (ev_var (i := 4) rfl) ev_c n2 (by rw [ty_int n2.ty, beq_eq_false_iff_ne.mpr n1, beq_eq_false_iff_ne.mpr n3]; rfl)) fun z => nomatch z) fun H5 e5 => k H5 (e14.trans e5)
-- DEF _law_square
theorem numsN14 (k : Nat) : (numsTo k).Nodup := by
  unfold numsTo
  refine List.pairwise_map.mpr ?_
  exact (List.nodup_range (n := k)).imp fun {a b} h z => h (by have : (a : Int) = (b : Int) := z; omega)
structure Shuf (pl : List Int) (M : Nat) (ρ : Nat → Nat) : Prop where
  len : pl.length = M
  at_ : ∀ i, i < M → pl[i]? = some ((ρ i : Nat) : Int)
  lt : ∀ i, i < M → ρ i < M
  inj : ∀ i j, i < M → j < M → ρ i = ρ j → i = j
  sur : ∀ r, r < M → ∃ i, i < M ∧ r = ρ i
theorem shuf_of {pl : List Int} {M : Nat} (h : pl.Perm (numsTo M)) : ∃ ρ, Shuf pl M ρ := by
  have hl : pl.length = M := by rw [h.length_eq, numsTo_length]
  have nd : pl.Nodup := h.nodup_iff.mpr (numsN14 M)
  have at_ : ∀ i, i < M → pl[i]? = some (((pl[i]?.getD 0).toNat : Nat) : Int) := fun i hi => by
    have hi' : i < pl.length := by omega
    have := mem_numsTo.mp (h.mem_iff.mp (List.getElem_mem hi'))
    rw [List.getElem?_eq_getElem hi', Option.getD_some, show ((pl[i].toNat : Nat) : Int) = pl[i] by omega]
  refine ⟨fun i => (pl[i]?.getD 0).toNat, hl, at_, fun i hi => ?_, fun i j hi hj e => ?_, fun r hr => ?_⟩
  · have hi' : i < pl.length := by omega
    have := mem_numsTo.mp (h.mem_iff.mp (List.getElem_mem hi'))
    show (pl[i]?.getD 0).toNat < M
    rw [List.getElem?_eq_getElem hi', Option.getD_some]
    omega
  · obtain ⟨l1, g1⟩ := List.getElem?_eq_some_iff.mp (at_ i hi)
    obtain ⟨l2, g2⟩ := List.getElem?_eq_some_iff.mp (at_ j hj)
    exact (List.getElem_inj nd).mp (g1.trans ((congrArg (fun n : Nat => (n : Int)) e).trans g2.symm))
  · obtain ⟨i, hi, e⟩ := List.mem_iff_getElem.mp (h.mem_iff.mpr (mem_numsTo.mpr (show (0 : Int) ≤ (r : Int) ∧ (r : Int) < M by omega)))
    refine ⟨i, by omega, ?_⟩
    show r = (pl[i]?.getD 0).toNat
    rw [List.getElem?_eq_getElem hi, Option.getD_some, e]
    rfl
theorem seg_rs {l ns' : List Int} {m : Nat} {σ : Nat → Nat} (hl : l.length = m) (hat : ∀ i, i < m → l[i]? = some ((σ i : Nat) : Int)) (inj : ∀ i j, i < m → j < m → σ i = σ j → i = j) (hp : ns'.Perm l) (hs : ns'.Pairwise (· ≤ ·)) :
    ∃ rs : List Nat, ns' = Sg.zs rs ∧ rs.Pairwise (· < ·) ∧ ∀ x, x ∈ rs ↔ ∃ i, i < m ∧ x = σ i := by
  have mem : ∀ y, y ∈ ns' ↔ ∃ i, i < m ∧ y = ((σ i : Nat) : Int) := fun y => by
    rw [hp.mem_iff, List.mem_iff_getElem?]
    constructor
    · rintro ⟨i, hi⟩
      have hi' : i < m := by
        have := (List.getElem?_eq_some_iff.mp hi).1
        omega
      rw [hat i hi'] at hi
      exact ⟨i, hi', (Option.some.inj hi).symm⟩
    · rintro ⟨i, hi, rfl⟩
      exact ⟨i, hat i hi⟩
  have nd : ns'.Nodup := by
    refine hp.nodup_iff.mpr (List.pairwise_iff_getElem.mpr fun i j hi hj hij e => ?_)
    have e1 := hat i (by omega)
    have e2 := hat j (by omega)
    rw [List.getElem?_eq_getElem hi] at e1
    rw [List.getElem?_eq_getElem hj] at e2
    have e1 := Option.some.inj e1
    have e2 := Option.some.inj e2
    have := inj i j (by omega) (by omega) (by have : ((σ i : Nat) : Int) = (σ j : Nat) := by rw [← e1, ← e2]; exact e
                                              omega)
    omega
  refine ⟨ns'.map Int.toNat, ?_, ?_, fun x => ?_⟩
  · unfold Sg.zs
    rw [List.map_map]
    have : ns'.map ((fun (i : Nat) => (i : Int)) ∘ Int.toNat) = ns'.map id := List.map_congr_left fun x hx => by
      obtain ⟨i, _, rfl⟩ := (mem x).mp hx
      rfl
    rw [this, List.map_id]
  · rw [List.pairwise_map]
    refine (hs.and nd).imp_of_mem fun {a b} ha hb h => ?_
    obtain ⟨i, _, rfl⟩ := (mem a).mp ha
    obtain ⟨j, _, rfl⟩ := (mem b).mp hb
    obtain ⟨h1, h2⟩ := h
    show σ i < σ j
    omega
  · rw [List.mem_map]
    constructor
    · rintro ⟨y, hy, rfl⟩
      obtain ⟨i, hi, rfl⟩ := (mem y).mp hy
      exact ⟨i, hi, rfl⟩
    · rintro ⟨i, hi, rfl⟩
      exact ⟨_, (mem _).mpr ⟨i, hi, rfl⟩, rfl⟩

theorem ev_min12 {i j : Int} {ta tb : TE} {σ : L2.St} {H : Hp} (ha : Ev ta σ H (.int i)) (hb : Ev tb σ H (.int j)) : Ev (tCB (fun xs H Q => ∃ i j, xs = [V.int i, .int j] ∧ Q (V.int (if j < i then j else i)) H) (tCons ta (tCons tb tNil))) σ H (.int (if j < i then j else i)) := fun H1 e Q q =>
  ha H1 e _ fun H2 e2 => hb H2 (e.trans e2) _ fun H3 e3 => ⟨i, j, rfl, q H3 (e2.trans e3)⟩
theorem cut_to12 {xs : List V} {n : Nat} (h : n ≤ xs.length) : cutV xs none (some (n : Int)) = xs.take n := by
  unfold cutV
  have e1 : HT.sIx xs.length 0 none = 0 := rfl
  have e2 : HT.sIx xs.length xs.length (some (n : Int)) = min n xs.length := HT.sIx_nat _ _ n
  rw [e1, e2, List.drop_zero, show min n xs.length - 0 = n by omega]
/-- sorted(_law_mixed(source, list(range(n)))[:k]): k places, rising -/
theorem k_draw12 {K : PySem.W.Frag} {tn : TE} {σ : L2.St} {H : Hp} {s : Addr} {n : Int} {m k j0 j1 : Nat} {Q : VK} (hs : SrcAt H s n) (hn : n ≤ 400000000) (h0 : σ[j0]? = some (some (.ref s))) (h1 : Ev tn σ H (.int (m : Int))) (h2 : σ[j1]? = some (some (.int (k : Int)))) (hm : m ≤ 8) (hk : k ≤ m)
    (q : ∀ (rs : List Nat) (p : Addr) (H' : Hp), rs.length = k → rs.Pairwise (· < ·) → (∀ x ∈ rs, x < m) → H' p = some (.lst ((Sg.zs rs).map V.int)) → p ≠ s → ExB s H H' → SrcAt H' s (n + 100) → Q (.ref p) H') :
    tCB (rSortedI K) (tCons (tSl (rSlL K) (tCall (sp__law_mixed K) [] E0 (tCons (tVar j0) (tCons (tLstRg (tRg1 tn)) tNil))) tNoPart (tPart (tVar j1))) tNil) σ H Q := by
  refine ⟨_, h0, ?_⟩
  refine h1 H (Ex.refl _) _ fun H1 e1 => ?_
  refine ⟨_, rfl, RgOk.of_le (by omega) (by omega) (by omega) (by omega), fun u nu => ?_⟩
  have xq := Ex.new (o := .lst (rgV 0 (m : Int))) nu
  have s1 := hs.ex e1
  refine ⟨s, u, _, _, rfl, s1.ex xq, by omega, s1.ne nu, SqL.of upd_same, ?_, ?_, fun ys p1 H4 hp np1 e4 s4 h4 => ?_⟩
  · rw [rgV_length]
    omega
  · intro v hv
    rw [rgV_nums] at hv
    obtain ⟨i, _, rfl⟩ := List.mem_map.mp hv
    exact datv_int i
  rw [rgV_nums] at hp
  obtain ⟨pl, rfl, hpl⟩ := perm_ints hp
  have np : p1 ≠ s := (s1.ex xq).ne np1
  obtain ⟨ρ, sρ⟩ := shuf_of hpl
  refine ⟨_, h2, _, rfl, p1, _, rfl, SqL.of h4, fun w nw => ?_⟩
  rw [cut_to12 (by rw [List.length_map, sρ.len]; omega), ← List.map_take]
  refine ⟨w, pl.take k, rfl, SqL.of upd_same, fun zs z hz ho nz => ?_⟩
  have x1 := Ex.new (o := .lst ((pl.take k).map V.int)) nw
  have x2 := Ex.new (o := .lst (zs.map V.int)) nz
  obtain ⟨rs, rfl, ur, mr⟩ := seg_rs (l := pl.take k) (m := k) (σ := ρ) (by rw [List.length_take, sρ.len]; omega) (fun i hi => by rw [List.getElem?_take_of_lt hi]; exact sρ.at_ i (by omega)) (fun i j hi hj => sρ.inj i j (by omega) (by omega)) hz ho
  have e' := ((ExB.of e1).trans ((ExB.of xq).trans e4)).trans (ExB.of (x1.trans x2))
  refine q rs z _ ?_ ur (fun x hx => ?_) upd_same ((s4.ex x1).ne nz) e' ((s4.ex (x1.trans x2)))
  · have := hz.length_eq
    rw [List.length_take, sρ.len] at this
    have h3 : (Sg.zs rs).length = rs.length := by unfold Sg.zs; rw [List.length_map]
    omega
  · obtain ⟨i, hi, rfl⟩ := (mr x).mp hx
    exact sρ.lt i (by omega)
def sp__law_square (K : PySem.W.Frag) : Sp := fun vs H Q _ => ∃ (s p : Addr) (n : Int) (as : List Addr) (R : List (List Int)) (m wd : Nat), vs = [.ref s, .ref p] ∧ SrcAt H s n ∧ n ≤ 300000000 ∧ p ≠ s ∧ (∀ a ∈ as, a ≠ s) ∧ TabOk H p as R m wd ∧ m ≤ 6 ∧ (∀ r ∈ R, ∀ y ∈ r, Bd 100 y) ∧
  ∀ (t a b : Addr) (rs cs : List Nat) (v : Int) (H' : Hp), H' t = some (.tup [.ref a, .ref b, .int v]) → H' a = some (.lst ((Sg.zs rs).map V.int)) → H' b = some (.lst ((Sg.zs cs).map V.int)) → rs ≠ [] → cs.length = rs.length → rs.length ≤ 8 → Bd 1800 v → t ≠ s → a ≠ s → b ≠ s → (∀ x ∈ rs, x < 8) → (∀ x ∈ cs, x < 8) → ExB s H H' → SrcAt H' s (n + 300) → Q (.ref t) H'

theorem ok__law_square (T : Txt K mg) : FnOk P w K mg base CX0 8 T.f__law_square T.fd__law_square ["_law_source", "_law_grid"] (sp__law_square K) := by
  refine Fun.ok T.F__law_square sc__law_square (fun vs H Q E h => ?_) (fun cdv A outer s H vs Q E hr h => ?_)
  · obtain ⟨_, _, _, _, _, _, _, rfl, _⟩ := h; rfl
  · refine ⟨_, (pss_cut (ps_set (i := 2) sc__law_square.nd rfl (by first | exact Or.inl rfl | exact Or.inr rfl) (pe_op op_add pe_int (pe_call (ok__law_next T) (hr.mono (by decide)) (by rfl) T.g__law_next T.k__law_next T.b__law_next .nil pass0 (pa_cons (pv 0) (pa_cons (pe_callB (call_min2 rfl) (by rfl) T.n_min (by decide +kernel) (pa_cons (pe_callB (id := "len") (r := rLenS K) call_len_seq (by rfl) T.n_len PySem.boot_len (pa_cons (pv 1) pa_nil)) (pa_cons (pe_callB (id := "len") (r := rLenS K) call_len_seq (by rfl) T.n_len PySem.boot_len (pa_cons (pe_ix (r := rIxL K) ix_list (pv 1) pe_int (fun _ _ => rfl)) pa_nil)) pa_nil))) pa_nil)))))
      (pss_cut (ps_set (i := 3) sc__law_square.nd rfl (by first | exact Or.inl rfl | exact Or.inr rfl) (pe_callB (id := "sorted") (r := rSortedI K) cr_sortedI (by rfl) T.n_sorted (by decide +kernel) (pa_cons (pe_slice (r := rSlL K) sl_list (pe_call (ok__law_mixed T) (hr.mono (by decide)) (by rfl) T.g__law_mixed T.k__law_mixed T.b__law_mixed .nil pass0 (pa_cons (pv 0) (pa_cons (pe_listRg rfl (by rfl) T.n_list (prg_1 (by rfl) T.n_range (pe_callB (id := "len") (r := rLenS K) call_len_seq (by rfl) T.n_len PySem.boot_len (pa_cons (pv 1) pa_nil)))) pa_nil))) po_none (po_some (pv 2))) pa_nil)))
      (pss_cut (ps_set (i := 4) sc__law_square.nd rfl (by first | exact Or.inl rfl | exact Or.inr rfl) (pe_callB (id := "sorted") (r := rSortedI K) cr_sortedI (by rfl) T.n_sorted (by decide +kernel) (pa_cons (pe_slice (r := rSlL K) sl_list (pe_call (ok__law_mixed T) (hr.mono (by decide)) (by rfl) T.g__law_mixed T.k__law_mixed T.b__law_mixed .nil pass0 (pa_cons (pv 0) (pa_cons (pe_listRg rfl (by rfl) T.n_list (prg_1 (by rfl) T.n_range (pe_callB (id := "len") (r := rLenS K) call_len_seq (by rfl) T.n_len PySem.boot_len (pa_cons (pe_ix (r := rIxL K) ix_list (pv 1) pe_int (fun _ _ => rfl)) pa_nil)))) pa_nil))) po_none (po_some (pv 2))) pa_nil)))
      (pss_one (ps_ret (pe_tup (pa_cons (pv 3) (pa_cons (pv 4) (pa_cons (pe_call (ok__law_expanded T) hr (by rfl) T.g__law_expanded T.k__law_expanded T.b__law_expanded .nil pass0 (pa_cons (pe_lc (own := [("_law_i", 5)]) (wi := iList K _) (g := gName 5) (tt := tYes) rfl sc__law_square.nd (pi_list (pv 3)) (blkOk_by (N := ["_law_source", "_law_grid", "_law_size", "_law_rows", "_law_columns", "_law_i", "_law_j"]) (sc := (defScope s__law_square)) (by decide +kernel)) (fun _ _ _ _ _ => pg_name (i := 5) sc__law_square.nd rfl (Or.inr rfl)) (fun _ _ _ _ _ => pts_nil) (fun _ _ _ _ _ => (pe_lc (own := [("_law_j", 6)]) (wi := iList K _) (g := gName 6) (tt := tYes) rfl sc__law_square.nd (pi_list (pv 4)) (blkOk_by (N := ["_law_source", "_law_grid", "_law_size", "_law_rows", "_law_columns", "_law_i", "_law_j"]) (sc := (relS ({ kind := .function, names := [(".0", .local), ("_law_i", .cell), ("_law_columns", .free), ("_law_grid", .free)], isGenerator := false, isCoroutine := false } : Scope) (defScope s__law_square))) (by decide +kernel)) (fun _ _ _ _ _ => pg_name (i := 6) sc__law_square.nd rfl (Or.inl rfl)) (fun _ _ _ _ _ => pts_nil) (fun _ _ _ _ _ => (pe_ix (r := rIxL K) ix_list (pe_ix (r := rIxL K) ix_list (pv 1) (pv 5) (fun _ _ => rfl)) (pv 6) (fun _ _ => rfl)))))) pa_nil)) pa_nil))))))))), ?_⟩
    obtain ⟨s, p, n, as, R, m, wd, rfl, hs, hn, nps, nas, hT, hm6, hb, k⟩ := h
    have hd := hT.b
    have tabs : ∀ {G : Hp}, ExB s H G → TabOk G p as R m wd := fun e => ⟨⟨e _ _ nps hT.tab.1, rows_but hT.tab.2 fun a ha o z => e a o (nas a ha) z⟩, hT.m_, hT.w_, hT.b⟩
    have lenG : ∀ {σ : L2.St} {G : Hp}, σ[1]? = some (some (.ref p)) → ExB s H G → Ev (tCB (rLenS K) (tCons (tVar 1) tNil)) σ G (.int (m : Int)) := fun hσ e => ev_is (ev_len (ev_var hσ) (SqL.of (tabs e).tab.1)) (by rw [List.length_map, hT.al])
    have lenR : ∀ {σ : L2.St} {G : Hp}, σ[1]? = some (some (.ref p)) → ExB s H G → Ev (tCB (rLenS K) (tCons (tOp (rIxL K) (tVar 1) (tC (.int 0))) tNil)) σ G (.int (wd : Int)) := fun hσ e => by
      obtain ⟨a0, r0, _, _, hh0, hl0, at0⟩ := (tabs e).row0
      exact ev_is (ev_len (ev_op (ev_var hσ) ev_c (rv_ixL (SqL.of (tabs e).tab.1) at0)) (SqL.of hh0)) (by rw [List.length_map, hl0])
    refine ⟨fun σ' H' => ∃ z : Nat, σ' = [some (.ref s), some (.ref p), some (.int z), none, none, none, none] ∧ 1 ≤ z ∧ z ≤ m ∧ z ≤ wd ∧ ExB s H H' ∧ SrcAt H' s (n + 1), ?_, ?_⟩
    · refine ⟨_, rfl, ?_⟩
      refine (ev_min12 (lenG rfl (ExB.refl _ _)) (lenR rfl (ExB.refl _ _))) H (Ex.refl _) _ fun H1 e1 => ?_
      have hz : 1 ≤ (if (wd : Int) < (m : Int) then (wd : Int) else m) ∧ (if (wd : Int) < (m : Int) then (wd : Int) else m) ≤ m ∧ (if (wd : Int) < (m : Int) then (wd : Int) else m) ≤ wd := by split <;> omega
      refine ⟨s, _, n, rfl, hs.ex e1, by omega, by omega, ?_, fun f H2 f0 f1 e2 s2 => ?_⟩
      · unfold Bd
        exact Nat.lt_of_lt_of_le (show (if (wd : Int) < (m : Int) then (wd : Int) else m).natAbs < 1024 by omega) (by decide +kernel)
      · exact ⟨_, _, rfl, rfl, (1 + f).toNat, by rw [show (((1 + f).toNat : Nat) : Int) = 1 + f by omega]; rfl, by omega, by omega, by omega, (ExB.of e1).trans e2, s2⟩
    rintro _ H2 ⟨z, rfl, z1, zm, zw, e2, s2⟩
    refine ⟨fun σ' H' => ∃ (a : Addr) (rs : List Nat), σ' = [some (.ref s), some (.ref p), some (.int z), some (.ref a), none, none, none] ∧ rs.length = z ∧ rs.Pairwise (· < ·) ∧ (∀ x ∈ rs, x < m) ∧ H' a = some (.lst ((Sg.zs rs).map V.int)) ∧ a ≠ s ∧ ExB s H H' ∧ SrcAt H' s (n + 1 + 100), ?_, ?_⟩
    · exact k_draw12 (K := K) (j0 := 0) (j1 := 2) s2 (by omega) rfl (lenG rfl e2) rfl (by omega) zm fun rs a H3 h1 h2 h3 h4 h5 h6 h7 => ⟨a, rs, rfl, h1, h2, h3, h4, h5, e2.trans h6, h7⟩
    rintro _ H3 ⟨a, rs, rfl, rl, ur, mr, ha, na, e3, s3⟩
    refine ⟨fun σ' H' => ∃ (b : Addr) (cs : List Nat), σ' = [some (.ref s), some (.ref p), some (.int z), some (.ref a), some (.ref b), none, none] ∧ cs.length = z ∧ cs.Pairwise (· < ·) ∧ (∀ x ∈ cs, x < wd) ∧ H' b = some (.lst ((Sg.zs cs).map V.int)) ∧ b ≠ s ∧ H' a = some (.lst ((Sg.zs rs).map V.int)) ∧ ExB s H H' ∧ SrcAt H' s (n + 1 + 100 + 100), ?_, ?_⟩
    · exact k_draw12 (K := K) (j0 := 0) (j1 := 2) s3 (by omega) rfl (lenR rfl e3) rfl (by omega) zw fun cs b H4 h1 h2 h3 h4 h5 h6 h7 => ⟨b, cs, rfl, h1, h2, h3, h4, h5, h6 _ _ na ha, e3.trans h6, h7⟩
    rintro _ H4 ⟨b, cs, rfl, cl, uc, mc, hbb, nb, ha, e4, s4⟩
    have T4 := tabs e4
    clear e2 s2 e3 s3
    refine ⟨_, rfl, _, rfl, ?_⟩
    refine arg_call12 ?_
    refine lc_rowsL (K := K) (nn := 3) (ys := Sg.zs rs) (fun x => (Sg.zs cs).map fun y => Dt.at_ R x.toNat y.toNat) rfl ha (by rw [zs_len]; omega) (fun u => rfl) (fun x G hx eG => ?_) (fun q1 qs H6 nq nqs nd nqq e6 h6 => ?_)
    · unfold Sg.zs at hx
      obtain ⟨ir, hir, rfl⟩ := List.mem_map.mp hx
      have hTG := T4.ex eG
      obtain ⟨ai, ri, h1, h2, h3, h4⟩ := hTG.row (i := (ir : Int)) (by omega) (by have := mr ir hir; omega)
      rw [Int.toNat_natCast] at h2
      refine el_mapI (K := K) (n := 4) (fun y => Dt.at_ R (ir : Int).toNat y.toNat) rfl (eG _ _ hbb) (by rw [zs_len]; omega) (fun u => rfl) fun y G2 hy eG2 => ?_
      unfold Sg.zs at hy
      obtain ⟨jc, hjc, rfl⟩ := List.mem_map.mp hy
      have hjw := mc jc hjc
      rw [Int.toNat_natCast, Int.toNat_natCast]
      have ent : Dt.at_ R ir jc = ri[jc]?.getD 0 := by
        show (R[ir]?.getD [])[jc]?.getD 0 = _
        rw [h2]
        rfl
      rw [ent]
      exact ev_op (ev_op (ev_var (i := 1) rfl) (ev_var (i := 5) rfl) (rv_ixL (SqL.of (eG2 _ _ hTG.tab.1)) h1)) (ev_var (i := 6) rfl) (rv_ixL (SqL.of (eG2 _ _ h3)) (atI_row (by omega)))
    rw [sub_zs] at h6
    have hl : cs.length = rs.length := by omega
    refine ⟨q1, qs, Bs.sub R rs cs, rs.length, 100, rfl, ⟨h6, sub_len R rs cs, fun r hr => by rw [sub_wid R rs cs r hr, hl], by omega, by omega, by omega, by omega⟩, by omega, by decide, sub_bd hb, fun d H7 hdet hbd e7 => ⟨(by show 3 ≤ sizeLine; decide), fun t nt => ?_⟩⟩
    have xt := Ex.new (o := .tup [V.ref a, .ref b, .int d]) nt
    have e47 := e6.trans (e7.trans xt)
    exact k t a b rs cs d _ upd_same (e47 _ _ ha) (e47 _ _ hbb) (fun z => by rw [z] at rl; have : (0 : Nat) = _ := rl; omega) hl (by omega) (hbd.mono (by omega)) (((s4.ex e6).ex e7).ne nt) na nb (fun x hx => by have := mr x hx; omega) (fun x hx => by have := mc x hx; omega) (e4.trans (ExB.of e47)) ((s4.ex e47).le (by omega))
-- DEF law
def gPm (pm : List Nat) (n m : Nat) {α : Type} (us ws : List α) : List α := if us.length = n ∧ ws.length = m then pm.filterMap fun i => (us ++ ws)[i]? else []
theorem vals_at {vs : List V} {us : List Value} (h : Vals vs us) : ∀ pm : List Nat, Vals (pm.filterMap fun i => vs[i]?) (pm.filterMap fun i => us[i]?) := by
  intro pm
  induction pm with
  | nil => exact .nil
  | cons i pm ih =>
    cases e1 : vs[i]? with
    | none =>
      rw [List.filterMap_cons_none e1, List.filterMap_cons_none (h.none_of e1)]
      exact ih
    | some v =>
      obtain ⟨u, e2, r⟩ := h.get e1
      rw [List.filterMap_cons_some e1, List.filterMap_cons_some e2]
      exact .cons r ih
theorem kb_of {K : PySem.W.Frag} {x qual : Str} {st : Stmt} {f : Addr} {fd : FuncData} {ps ks : List Str} (pm : List Nat) (n m : Nat) (hp : ps ≠ []) (F : Fun K x qual st f fd)
    (h : ∀ (kV doc pm' : Value) (an : Option Addr) (cdv ct : Value) (us ws : List Value), us.length = n → ws.length = m → bindArgs (PySem.W.fnOf x qual (defArgs st) (defBody st) (defScope st) .none kV doc pm' an cdv ct) ⟨us, ks.zip ws⟩ = pure (ps.zip (gPm pm n m us ws))) : KBinds K fd ps ks (gPm pm n m) (gPm pm n m) := by
  obtain ⟨oc, od, kV, doc, pm', an, cdv, ct, osl, rfl, lk, hcd⟩ := F.ex
  refine ⟨fun s us ws _ hl => ?_, fun {vs us zs ws} r rz => ?_⟩
  · by_cases c : us.length = n ∧ ws.length = m
    · exact BindsTo.of_eq (h kV doc pm' an cdv ct us ws c.1 c.2)
    · unfold gPm at hl
      rw [if_neg c] at hl
      exact absurd (List.length_eq_zero_iff.mp hl.symm) hp
  · unfold gPm
    rw [r.length, rz.length]
    split
    · exact vals_at (r.append rz) pm
    · exact .nil
section
variable {X : Cx} {CX : CXT} {k : Nat} {f : Addr} {fd : FuncData} {ps ks : List Str} {sp : Sp} {E : XK} {x : Str} {p pos : Pos} {kws : List Keyword} {tk : TA} {g : List Value → List Value → List Value} {gV : List V → List V → List V}
theorem pe_callK0 (F : FnOk X.prog X.w X.K X.mg X.base CX k f fd ps sp) (hr : Room k X.A) (hg : Gl X x) (hm : X.mg x = some (.ref f)) (hk : PySem.W.keepIn X.K (.ref f) = true) (hb : KBinds X.K fd ps ks g gV) (hx : Passes CX X E)
    (hkw : PK X kws tk) (hall : (backToKw pos (keywordEach kws X.env)).all (·.1.isSome) = true := by rfl) (hks : (backToKw pos (keywordEach kws X.env)).filterMap (·.1) = ks := by rfl)
    (hdb : (x == ("__debug__" : Str)) = false := by decide)
    (hpl : ((backTo pos (starEach [] X.env)).any (·.1) || (backToKw pos (keywordEach kws X.env)).any (·.1.isNone)) = false := by rfl) :
    PE X (.Call (.Name x p) [] kws pos) (tCallK sp gV E tNil tk) := by
  refine ⟨fun pins s σ H Q I h => ?_⟩
  refine wpAny_Call_Name_kw (ld_glob I hg hm ?_ hdb)
  refine PySem.W.callWith_KW0 (h₀ := X.base) I.ok.mod.kin hk hall ?_ hpl
  refine thn (hkw.run pos pins s σ H _ I h) fun ws s2 ⟨zs, H2, I2, rz, q2⟩ => ⟨I2.kIn, ?_⟩
  rw [hks]
  exact run_fnk (us := []) (vs := []) F hr hb hx I2 .nil rz q2
end
theorem bd100 {y : Int} (h : y.natAbs ≤ 10 ^ 30) : Bd 100 y := by
  unfold Bd
  exact Nat.lt_of_le_of_lt h (by decide +kernel)

/-- a square's paper, apart from two places -/
def Sq12 (s L : Addr) (H : Hp) (x : V) : Prop := ∃ (t a b : Addr) (rs cs : List Nat) (v : Int), x = .ref t ∧ H t = some (.tup [.ref a, .ref b, .int v]) ∧ H a = some (.lst ((Sg.zs rs).map V.int)) ∧ H b = some (.lst ((Sg.zs cs).map V.int)) ∧ rs ≠ [] ∧ cs.length = rs.length ∧ rs.length ≤ 8 ∧ Bd 1800 v ∧ (t ≠ s ∧ a ≠ s ∧ b ≠ s) ∧ (t ≠ L ∧ a ≠ L ∧ b ≠ L)
theorem Sq12.mono {s L : Addr} {H H' : Hp} {x : V} (h : Sq12 s L H x) (e : ∀ b o, b ≠ s → b ≠ L → H b = some o → H' b = some o) : Sq12 s L H' x := by
  obtain ⟨t, a, b, rs, cs, v, h1, h2, h3, h4, h5, h6, h7, h8, h9, h10⟩ := h
  exact ⟨t, a, b, rs, cs, v, h1, e _ _ h9.1 h10.1 h2, e _ _ h9.2.1 h10.2.1 h3, e _ _ h9.2.2 h10.2.2 h4, h5, h6, h7, h8, h9, h10⟩
theorem Sq12.exB {s L : Addr} {H H' : Hp} {x : V} (h : Sq12 s L H x) (e : ExB s H H') : Sq12 s L H' x := h.mono fun b o n _ g => e b o n g
theorem zs_scal (l : List Nat) : ∀ x ∈ (Sg.zs l).map V.int, ScalL x := fun x hx => by
  obtain ⟨i, _, rfl⟩ := List.mem_map.mp hx
  exact .inl ⟨i, rfl⟩
theorem Sq12.th {s L : Addr} {H : Hp} {x : V} (h : Sq12 s L H x) : ∃ o, ThS s H x o := by
  obtain ⟨t, a, b, rs, cs, v, rfl, h2, h3, h4, h5, h6, h7, h8, h9, h10⟩ := h
  have z1 : ((Sg.zs rs).map V.int).length ≤ 20 := by unfold Sg.zs; rw [List.length_map, List.length_map]; omega
  have z2 : ((Sg.zs cs).map V.int).length ≤ 20 := by unfold Sg.zs; rw [List.length_map, List.length_map]; omega
  exact ⟨_, .tri h2 h9.1 (.lst h3 h9.2.1 z1 (zs_scal rs)) (.lst h4 h9.2.2 z2 (zs_scal cs)) (.inl ⟨v, rfl⟩)⟩
theorem bad_facts {R : List (List Int)} {m w : Nat} {x : List Nat × List Nat} (h : Bs.bad R m w = some x) (hm : m ≤ 8) : x.1 ≠ [] ∧ x.2.length = x.1.length ∧ x.1.length ≤ 8 := by
  have hx := List.mem_of_find?_eq_some (show (Bs.sqs m w (min m w)).find? (fun y => Bs.isBad (Bs.val R y.1 y.2)) = some x from h)
  unfold Bs.sqs at hx
  rw [List.mem_flatMap] at hx
  obtain ⟨s, hs, h⟩ := hx
  have hs := List.mem_range.mp hs
  obtain ⟨x1, x2⟩ := x
  obtain ⟨h1, h2⟩ := Bs.mem_sq.mp h
  obtain ⟨a1, a2, a3⟩ := Cb.mem_all.mp h1
  obtain ⟨b1, b2, b3⟩ := Cb.mem_all.mp h2
  refine ⟨fun z => ?_, by show x2.length = x1.length; omega, by show x1.length ≤ 8; omega⟩
  have z : x1 = [] := z
  rw [z] at a1
  have : (0 : Nat) = s + 1 := a1
  omega
theorem cut_five (xs : List V) : (cutV xs (some 1) (some 6)).length ≤ 5 := by
  unfold cutV
  have e1 : HT.sIx xs.length 0 (some (1 : Int)) = min 1 xs.length := HT.sIx_nat _ _ 1
  have e2 : HT.sIx xs.length xs.length (some (6 : Int)) = min 6 xs.length := HT.sIx_nat _ _ 6
  rw [e1, e2, List.length_take]
  omega

def sp_law (K : PySem.W.Frag) (P : Addr) : Sp := fun vs H Q _ => ∃ (a : Addr) (ns : List Int), vs = [.ref a] ∧ SqL K H a (ns.map V.int) ∧ ns.length ≤ 63 ∧ H P = some (.tbl #[]) ∧ ∀ H', Q (.bl true) H'

theorem ok_law (T : Txt K mg) (TB : TabB base mg T.c_law T.P_law) : FnOk P w K mg base CX0 9 T.f_law T.fd_law ["_law_script"] (sp_law K T.P_law) := by
  obtain ⟨ocL, odL, kVL, docL, pmL, anL, ctL, oslL, eL, lkL, hcL⟩ := T.lkL
  rw [eL] at lkL ⊢
  refine fn_of lkL hcL sc_law (fun vs H Q E h => ?_) (fun A outer s H vs Q E hr h => ?_)
  · obtain ⟨_, _, rfl, _⟩ := h; rfl
  · refine ⟨_, PSs.nox (pss_cons (ps_for PassesOwn.never rfl (pi_list (pe_op op_cat (pe_lst (pa_cons (pe_call (ok__law_cell_at T) (hr.mono (by decide)) (by rfl) T.g__law_cell_at T.k__law_cell_at T.b__law_cell_at .nil pass0 (pa_cons (pv 0) (pa_cons pe_int pa_nil))) pa_nil)) (pe_slice (r := rSlL K) sl_list (pv 0) (po_some pe_int) (po_some pe_int)))) (pg_name (i := 1) sc_law.nd rfl (by first | exact Or.inl rfl | exact Or.inr rfl))
        (pss_cons (ps_set (i := 2) sc_law.nd rfl (by first | exact Or.inl rfl | exact Or.inr rfl) (pe_call (ok__law_source_of T) (hr.mono (by decide)) (by rfl) T.g__law_source_of T.k__law_source_of T.b__law_source_of .nil pass0 (pa_cons (pv 1) pa_nil)))
          (pss_cons (ps_set (i := 3) sc_law.nd rfl (by first | exact Or.inl rfl | exact Or.inr rfl) (pe_call (ok__law_table T) (hr.mono (by decide)) (by rfl) T.g__law_table T.k__law_table T.b__law_table .nil pass0 (pa_cons (pv 2) (pa_cons pe_int pa_nil))))
          (pss_cut (ps_set (i := 4) sc_law.nd rfl (by first | exact Or.inl rfl | exact Or.inr rfl) (pe_lst (pa_cons (pe_call (ok__law_square T) hr (by rfl) T.g__law_square T.k__law_square T.b__law_square .nil pass0 (pa_cons (pv 2) (pa_cons (pv 3) pa_nil))) (pa_cons (pe_call (ok__law_square T) hr (by rfl) T.g__law_square T.k__law_square T.b__law_square .nil pass0 (pa_cons (pv 2) (pa_cons (pv 3) pa_nil))) pa_nil))))
          (pss_cut (ps_set (i := 5) sc_law.nd rfl (by first | exact Or.inl rfl | exact Or.inr rfl) (pe_call (ok_bad_square T) (hr.mono (by decide)) (by rfl) T.g_bad_square T.k_bad_square T.b_bad_square .nil pass0 (pa_cons (pv 3) pa_nil)))
          (pss_cut (ps_if (pt_cmpR op_notN (pv 5) pe_non (nomark _))
            (pss_one (ps_expr (pe_bm PySem.F.plainAttrs_list PySem.F.slot_list_append PySem.F.type_list_append mt_append (pv 4) (pa_cons (pv 5) pa_nil))))
            pss_nil)
          (pss_cut (ps_set (i := 4) sc_law.nd rfl (by first | exact Or.inl rfl | exact Or.inr rfl) (pe_op op_cat (pv 4) (pe_lc (own := [("_law_one_here", 8)]) (wi := iList K _) (g := gName 8) (tt := tYes) rfl sc_law.nd (pi_list (pv 4)) (blkOk_by (N := ["_law_script", "_law_cell", "_law_source", "_law_grid", "_law_some", "_law_least", "_law_some_thing", "_law_heard", "_law_one_here"]) (sc := (defScope s_law)) (by decide +kernel)) (fun _ _ _ _ _ => pg_name (i := 8) sc_law.nd rfl (Or.inl rfl)) (fun _ _ _ _ _ => pts_nil) (fun _ _ _ _ _ => (pe_call (ok__law_forged T) (hr.mono (by decide)) (by rfl) T.g__law_forged T.k__law_forged T.b__law_forged .nil pass0 (pa_cons (pv 2) (pa_cons (pv 8) pa_nil)))))))
          (pss_cons (ps_for PassesOwn.never rfl (pi_list (pv 4)) (pg_name (i := 6) sc_law.nd rfl (by first | exact Or.inl rfl | exact Or.inr rfl))
            (pss_cut (ps_set (i := 7) sc_law.nd rfl (by first | exact Or.inl rfl | exact Or.inr rfl) (pe_call (ok_is_bad_square T) (hr.mono (by decide)) (by rfl) T.g_is_bad_square T.k_is_bad_square T.b_is_bad_square .nil pass0 (pa_cons (pv 3) (pa_cons (pv 6) pa_nil))))
              (pss_one (ps_if (PW.pt (pw_or (pt_not (pt_val (pe_callB (id := "isinstance") (r := rIsi K) call_isi (by rfl) T.n_isinstance (by decide +kernel) (pa_cons (pv 7) (pa_cons (pe_bltn (v := .ty "bool") (by rfl) T.n_bool (by decide +kernel) rfl) pa_nil))))) (pw_or1 (pt_cmpR op_ne (pv 7) (pe_call (ok__law_due T) hr (by rfl) T.g__law_due T.k__law_due T.b__law_due .nil pass0 (pa_cons (pv 3) (pa_cons (pv 6) pa_nil))) (nomark _)))))
                (pss_one (ps_ret pe_bl))
                pss_nil))))
          (pss_one (ps_if (pt_cmpR op_ne (pe_callK0 (ok_is_bad_square T) (hr.mono (by decide)) (by rfl) T.g_is_bad_square T.k_is_bad_square (kb_of [1, 0] 0 2 (by simp) T.F_is_bad_square fun _ _ _ _ _ _ us ws l1 l2 => match us, ws, l1, l2 with | [], [_, _], _, _ => rfl) pass0 (pk_cons (pe_ix (r := rIxL K) ix_list (pv 4) pe_int (fun _ _ => rfl)) (pk_cons (pv 3) pk_nil))) (pe_call (ok__law_due T) hr (by rfl) T.g__law_due T.k__law_due T.b__law_due .nil pass0 (pa_cons (pv 3) (pa_cons (pe_ix (r := rIxL K) ix_list (pv 4) pe_int (fun _ _ => rfl)) pa_nil))) (nomark _))
            (pss_one (ps_ret pe_bl))
            pss_nil))))))))))
      (pss_one (ps_ret pe_bl))), ?_⟩
    obtain ⟨a0, ns, rfl, hS, hlen, _, q⟩ := h
    refine ⟨_, rfl, a0, ns, 0, rfl, hS, by decide, fun c0 => ⟨(by show 1 ≤ sizeLine; decide), fun p0 np0 => ⟨_, rfl, ?_⟩⟩⟩
    have x0 := Ex.new (o := .lst [V.int c0]) np0
    refine ⟨1, rfl, 6, rfl, a0, _, rfl, ex_l x0 hS, fun p1 np1 => ?_⟩
    obtain ⟨ys, hys⟩ := cutV_ints ns (some 1) (some 6)
    have hyl : ys.length ≤ 5 := by
      have h1 := cut_five (ns.map V.int)
      rwa [hys, List.length_map] at h1
    rw [hys]
    have x1 := Ex.new (o := .lst (ys.map V.int)) np1
    refine ⟨p0, p1, _, _, rfl, rfl, x1 _ _ upd_same, upd_same, ?_, fun p2 np2 => ?_⟩
    · have : ([V.int c0].length + (ys.map V.int).length) ≤ 1000 := by
        rw [List.length_map]
        show 1 + ys.length ≤ 1000
        omega
      exact Nat.le_trans this (by decide)
    refine ⟨p2, rfl, ⟨_, SqL.of upd_same⟩, for_list (K := K) (a := p2) (xs := [V.int c0] ++ ys.map V.int) (fun i σ H' => ∃ y1 y2 y3 y4 y5 y6 y7 y8 : Option V, σ = [some (.ref a0), y1, y2, y3, y4, y5, y6, y7, y8] ∧ H' p2 = some (.lst ([V.int c0] ++ ys.map V.int)))
      ⟨_, _, _, _, _, _, _, _, rfl, upd_same⟩ (fun i σ H' _ ⟨_, _, _, _, _, _, _, _, _, h⟩ => SqL.of h) ?_ (fun σ H' _ => q H')⟩
    rintro i x σ H0 hi ⟨y1, y2, y3, y4, y5, y6, y7, y8, rfl, hp2⟩
    obtain ⟨c, rfl⟩ : ∃ c : Int, x = .int c := by
      rcases List.mem_append.mp (List.mem_of_getElem? hi) with h | h
      · exact ⟨c0, by simpa using h⟩
      · obtain ⟨c, _, rfl⟩ := List.mem_map.mp h
        exact ⟨c, rfl⟩
    generalize p2 = pL at hp2 ⊢
    clear hi x1 x0 hyl hys hS hlen
    -- source, table
    refine ⟨_, rfl, c, rfl, fun s H1 n1 e1 s1 => ?_⟩
    refine ⟨_, rfl, s, 0, 5, rfl, s1, by decide, by decide, by decide, fun as rows g H2 m w hm1 hm8 hw1 hw8 hN hm e2 s2 => ?_⟩
    have hb : ∀ r ∈ rows, ∀ y ∈ r, Bd 100 y := fun r hr y hy => bd100 ((hN.ok r hr).2 y hy)
    have hT : TabOk H2 g as rows m w := ⟨hN.tab, hm, fun r hr => (hN.ok r hr).1, hm1, by omega, hw1, by omega⟩
    have ngs : g ≠ s := s1.ne hN.p0
    have nas : ∀ a ∈ as, a ≠ s := fun a ha => s1.ne (hN.a0 a ha)
    have nps : pL ≠ s := ne_of_none hp2 n1
    have tabs : ∀ {G : Hp}, ExB s H2 G → TabOk G g as rows m w := fun e => ⟨⟨e _ _ ngs hT.tab.1, rows_but hT.tab.2 fun a ha o z => e a o (nas a ha) z⟩, hT.m_, hT.w_, hT.b⟩
    have hp2' := e2 _ _ nps (e1 _ _ hp2)
    clear hN s1 n1 e1 hp2 e2
    -- two squares
    refine ⟨fun σ' H' => ∃ (L : Addr) (xs : List V), σ' = [some (.ref a0), some (.int c), some (.ref s), some (.ref g), some (.ref L), y5, y6, y7, y8] ∧ H' L = some (.lst xs) ∧ xs.length = 2 ∧ (∀ x ∈ xs, Sq12 s L H' x) ∧ L ≠ s ∧ H2 L = none ∧ ExB s H2 H' ∧ SrcAt H' s 1700, ?_, ?_⟩
    · refine ⟨_, rfl, _, rfl, s, g, _, as, rows, m, w, rfl, s2, by decide, ngs, nas, hT, by omega, hb, fun t a b rs cs v H3 h1 h2 h3 h4 h5 h6 h7 h8 h9 h10 _ _ e3 s3 => ?_⟩
      refine ⟨_, rfl, _, rfl, s, g, _, as, rows, m, w, rfl, s3, by decide, ngs, nas, tabs e3, by omega, hb, fun t' a' b' rs' cs' v' H4 g1 g2 g3 g4 g5 g6 g7 g8 g9 g10 _ _ e4 s4 => ?_⟩
      refine ⟨(by show 2 ≤ sizeLine; decide), fun L nL => ?_⟩
      have xL := Ex.new (o := .lst [V.ref t, .ref t']) nL
      have ne : ∀ {p : Addr} {o : HO}, H4 p = some o → p ≠ L := fun h => ne_of_none h nL
      have u1 := e4 _ _ h8 h1
      have u2 := e4 _ _ h9 h2
      have u3 := e4 _ _ h10 h3
      refine ⟨L, _, rfl, upd_same, rfl, fun x hx => ?_, s4.ne nL, ?_, (e3.trans e4).trans (ExB.of xL), (s4.ex xL).le (by decide)⟩
      · rcases List.mem_cons.mp hx with rfl | hx
        · exact ⟨t, a, b, rs, cs, v, rfl, xL _ _ u1, xL _ _ u2, xL _ _ u3, h4, h5, h6, h7.mono (by decide), ⟨h8, h9, h10⟩, ne u1, ne u2, ne u3⟩
        · rw [List.mem_singleton.mp hx]
          exact ⟨t', a', b', rs', cs', v', rfl, xL _ _ g1, xL _ _ g2, xL _ _ g3, g4, g5, g6, g7.mono (by decide), ⟨g8, g9, g10⟩, ne g1, ne g2, ne g3⟩
      · exact fresh_B (e3.trans e4) nL s4.obj
    rintro _ H3 ⟨L, xs, rfl, hL, lx, hx, nLs, nL2, e3, s3⟩
    -- least
    refine ⟨fun σ' H' => ∃ v : V, σ' = [some (.ref a0), some (.int c), some (.ref s), some (.ref g), some (.ref L), some v, y6, y7, y8] ∧ BadAt rows H3 H' v (Bs.bad rows m w) ∧ (∀ x, Bs.bad rows m w = some x → Bd 1800 (Bs.val rows x.1 x.2)) ∧ Ex H3 H', ?_, ?_⟩
    · exact ⟨_, rfl, g, as, rows, m, w, rfl, tabs e3, fun r hr y hy => (hb r hr y hy).mono (by decide), fun v H4 e4 hv => ⟨v, rfl, hv.1, hv.2, e4⟩⟩
    rintro _ H4 ⟨vl, rfl, hv, hbd, e4⟩
    have hL4 := e4 _ _ hL
    have s4 := s3.ex e4
    have e24 := e3.trans (ExB.of e4)
    refine ⟨fun σ' H' => ∃ xs : List V, σ' = [some (.ref a0), some (.int c), some (.ref s), some (.ref g), some (.ref L), some vl, y6, y7, y8] ∧ H' L = some (.lst xs) ∧ 2 ≤ xs.length ∧ xs.length ≤ 3 ∧ (∀ x ∈ xs, Sq12 s L H' x) ∧ ExB s H2 H' ∧ SrcAt H' s 1700, ?_, ?_⟩
    · cases ho : Bs.bad rows m w with
      | none =>
        rw [ho] at hv
        have hv : vl = .non := hv
        subst hv
        refine s_when (b := false) (et_test (ev_op (ev_var (i := 5) rfl) ev_c (fun H11 e11 Q11 q11 => ⟨rfl, q11 H11 (Ex.refl _)⟩))) (fun z => nomatch z) fun _ H5 e5 => ?_
        exact ⟨xs, rfl, e5 _ _ hL4, by omega, by omega, fun x hh => (hx x hh).exB (ExB.of (e4.trans e5)), e24.trans (ExB.of e5), s4.ex e5⟩
      | some x =>
        obtain ⟨f1, f2, f3⟩ := bad_facts ho (by omega)
        have hbd := hbd x ho
        rw [ho] at hv
        obtain ⟨t, a, b, rfl, h1, h2, h3, na, nb, ab⟩ := hv
        refine s_when (b := true) (et_test (ev_op (ev_var (i := 5) rfl) ev_c (fun H11 e11 Q11 q11 => ⟨rfl, q11 H11 (Ex.refl _)⟩))) (fun _ H5 e5 => ?_) (fun z => nomatch z)
        have hL5 := e5 _ _ hL4
        refine ⟨_, rfl, .inl ⟨rfl, _, SqL.of hL5⟩, _, rfl, L, xs, _, rfl, rfl, hL5, small1000 (by omega), ?_⟩
        have tL : t ≠ L := fun z => by rw [z, hL4] at h1; cases h1
        have aL : a ≠ L := fun z => by rw [z, hL] at na; cases na
        have bL : b ≠ L := fun z => by rw [z, hL] at nb; cases nb
        have ts : t ≠ s := fun z => by
          obtain ⟨_, _, _, hh, _⟩ := s4
          rw [z, hh] at h1
          cases h1
        have keep : ∀ bb o, bb ≠ s → bb ≠ L → H5 bb = some o → (upd H5 L (.lst (xs ++ [V.ref t]))) bb = some o := fun bb o _ h2 h => by rw [upd_ne h2]; exact h
        refine ⟨xs ++ [V.ref t], rfl, upd_same, by rw [List.length_append, lx]; show 2 ≤ 2 + 1; decide, by rw [List.length_append, lx]; show 2 + 1 ≤ 3; decide, fun y hy => ?_, fun bb o nb h => ?_, ?_⟩
        · rcases List.mem_append.mp hy with hh | hh
          · exact ((hx y hh).exB (ExB.of (e4.trans e5))).mono keep
          · rw [List.mem_singleton.mp hh]
            have base : Sq12 s L H5 (V.ref t) := ⟨t, a, b, x.1, x.2, _, rfl, e5 _ _ h1, e5 _ _ h2, e5 _ _ h3, f1, f2, f3, hbd, ⟨ts, s3.ne na, s3.ne nb⟩, tL, aL, bL⟩
            exact base.mono keep
        · rw [upd_ne (ne_of_none h nL2)]
          exact e5 _ _ (e24 _ _ nb h)
        · obtain ⟨a1, a2, a3, a4, a5⟩ := s4.ex e5
          exact ⟨a1, a2, a3, by rw [upd_ne nLs.symm]; exact a4, a5⟩
    clear hL4 hL hv hbd e4 e24 s4 s3 e3 hx lx xs
    rintro _ H5 ⟨xs, rfl, hL, lx2, lx3, hx, e5, s5⟩
    -- all of them
    refine ⟨fun σ' H' => ∃ (M : Addr) (zs : List V), σ' = [some (.ref a0), some (.int c), some (.ref s), some (.ref g), some (.ref M), some vl, y6, y7, y8] ∧ H' M = some (.lst zs) ∧ M ≠ s ∧ 2 ≤ zs.length ∧ zs.length ≤ 6 ∧ (∀ x ∈ zs, ∃ o, ThS s H' x o) ∧ ExB s H2 H', ?_, ?_⟩
    · refine ⟨_, rfl, ?_⟩
      refine ⟨_, rfl, L, rfl, ⟨_, SqL.of hL⟩, fun D nD => ?_⟩
      have xD := Ex.new (o := .lst []) nD
      have nDs : D ≠ s := s5.ne nD
      refine lc_list (K := K) (a := L) (xs := xs) (fun i H' => ∃ fs : List V, ExB s H5 H' ∧ SrcAt H' s (1700 + 10 * i) ∧ H' D = some (.lst fs) ∧ fs.length = i ∧ ∀ y ∈ fs, ∃ o, ∀ d, (d = s ∨ d = D) → ThS d H' y o) ⟨[], ExB.of xD, (s5.ex xD).le (by omega), upd_same, rfl, fun y hy => nomatch hy⟩ (fun i H' _ ⟨_, p1, _⟩ => SqL.of (p1 _ _ nLs hL)) (fun i x H' gx p => ?_) (fun H' p => ?_)
      · obtain ⟨fs, p1, p2, p3, p4, p5⟩ := p
        have hi : i < xs.length := (List.getElem?_eq_some_iff.mp gx).1
        refine ⟨rfl, ?_⟩
        have h5 := hx x (List.mem_of_getElem? gx)
        have hx' := h5.exB p1
        obtain ⟨t, a, b, rs, cs, v, rfl, h2, h3, h4, h6, h7, h8, h9, h10, h11⟩ := hx'
        obtain ⟨t5, a5, b5, _, _, _, et, u2, u3, u4, _⟩ := h5
        cases et
        have hta : H' t = some (.tup [.ref a5, .ref b5, .int _]) := p1 _ _ h10.1 u2
        rw [h2] at hta
        cases hta
        refine ⟨_, rfl, _, rfl, s, D, t, a, b, _, v, rs, cs, rfl, p2, by omega, ⟨_, p3⟩, nDs, ne_of_none u2 nD, ne_of_none u3 nD, ne_of_none u4 nD, h2, h3, h4, h6, h7, h8, h9, h10.1, h10.2.1, h10.2.2, fun y o H7 hy e7 s7 => ?_⟩
        refine ⟨fs, e7 _ _ nDs p3, small1000 (by omega), fs ++ [y], fun bb oo nb h => ?_, ?_, upd_same, by rw [List.length_append, p4]; rfl, fun z hz => ?_⟩
        · rw [upd_ne (ne_of_none h nD)]
          exact e7 _ _ nb (p1 _ _ nb h)
        · obtain ⟨a1, a2, a3, a4, a5⟩ := s7
          exact ⟨a1, a2, a3, by rw [upd_ne nDs.symm]; exact a4, a5.1, a5.2.1, a5.2.2.1, by have := a5.2.2.2; omega⟩
        · have up : ∀ bb oo, ¬ (bb = s ∨ bb = D) → H7 bb = some oo → upd H7 D (.lst (fs ++ [y])) bb = some oo := fun bb oo n h => by rw [upd_ne fun z => n (.inr z)]; exact h
          rcases List.mem_append.mp hz with h | h
          · obtain ⟨o', ho'⟩ := p5 z h
            exact ⟨o', ThS.mono12 (ThS.mono12 ho' fun bb oo n h => e7 _ _ (fun z => n (.inl z)) h) up⟩
          · rw [List.mem_singleton.mp h]
            exact ⟨o, ThS.mono12 hy up⟩
      · obtain ⟨fs, p1, p2, p3, p4, p5⟩ := p
        refine ⟨L, D, xs, fs, rfl, rfl, p1 _ _ nLs hL, p3, Nat.le_of_lt (small1000 (by omega)), fun M nM => ?_⟩
        have xM := Ex.new (o := .lst (xs ++ fs)) nM
        refine ⟨M, _, rfl, upd_same, p2.ne nM, by rw [List.length_append]; omega, by rw [List.length_append]; omega, fun y hy => ?_, e5.trans (p1.trans (ExB.of xM))⟩
        rcases List.mem_append.mp hy with h | h
        · exact ((hx y h).exB (p1.trans (ExB.of xM))).th
        · obtain ⟨o, ho⟩ := p5 y h
          exact ⟨o, (ho s (.inl rfl)).kp (.of xM)⟩
    rintro _ H6 ⟨M, zs, rfl, hM, nM, lz2, lz6, hz, e6⟩
    have T6 := tabs e6
    have hp6 := e6 _ _ nps hp2'
    refine ⟨_, rfl, M, rfl, ⟨_, SqL.of hM⟩, for_list (K := K) (a := M) (xs := zs) (fun i σ' H' => ∃ y6 y7 y8 : Option V, σ' = [some (.ref a0), some (.int c), some (.ref s), some (.ref g), some (.ref M), some vl, y6, y7, y8] ∧ Ex H6 H') ⟨_, _, _, rfl, Ex.refl _⟩ (fun i σ' H' _ ⟨_, _, _, _, e⟩ => SqL.of (e _ _ hM)) ?_ ?_⟩
    · rintro i x σ' H7 gx ⟨y6, y7, y8, rfl, e7⟩
      obtain ⟨o, ho⟩ := hz x (List.mem_of_getElem? gx)
      refine ⟨fun σ' H' => σ' = [some (.ref a0), some (.int c), some (.ref s), some (.ref g), some (.ref M), some vl, some x, some (.bl (dueB rows m w o)), y8] ∧ Ex H7 H', ?_, ?_⟩
      · exact ⟨_, rfl, _, rfl, s, g, x, as, rows, m, w, o, rfl, T6.ex e7, by omega, hb, ho.kp (.of e7), fun H8 e8 => ⟨rfl, e8⟩⟩
      rintro _ H8 ⟨rfl, e8⟩
      have e68 := e7.trans e8
      refine s_when (b := false) (et_is (et_or (a := false) (b := false) (et_is (et_not (et_B (b := true) (ev_isi (t := "bool") (b := true) (ev_var (i := 7) rfl) ev_c (fun H1 e => .base (.bl _)) (by decide +kernel)))) rfl) (fun _ => et_is (et_test (ev_op (ev_var (i := 7) rfl) (ev_fn (sp := sp__law_due K) (z := .bl (dueB rows m w o)) (ea_cons (ev_var (i := 3) rfl) (ea_cons (ev_var (i := 6) rfl) ea_nil)) fun H9 e9 Q9 q9 => ⟨s, g, x, as, rows, m, w, o, rfl, T6.ex (e68.trans e9), by omega, hb, ho.kp (.of (e68.trans e9)), q9⟩) (rv_ne rfl))) (by rw [decide_eq_true rfl]; rfl))) rfl) (fun z => nomatch z) fun _ H9 e9 => ⟨_, _, _, rfl, e68.trans e9⟩
    · rintro σ' H7 ⟨y6, y7, y8, rfl, e7⟩
      obtain ⟨z0, hz0⟩ : ∃ z0, zs[0]? = some z0 := ⟨_, List.getElem?_eq_getElem (by omega)⟩
      obtain ⟨o, ho⟩ := hz z0 (List.mem_of_getElem? hz0)
      have at0 : atI zs 0 = some z0 := atI_nat (j := 0) hz0
      have T7 := T6.ex e7
      have ho7 := ho.kp (.of e7)
      have z4 : ∀ {G : Hp}, Ex H7 G → Ev (tOp (rIxL K) (tVar 4) (tC (.int 0))) [some (.ref a0), some (.int c), some (.ref s), some (.ref g), some (.ref M), some vl, y6, y7, y8] G z0 := fun e => ev_op (ev_var (i := 4) rfl) ev_c (rv_ixL (SqL.of ((e7.trans e) _ _ hM)) at0)
      dsimp only
      refine s_when (b := false) (et_is (et_test (ev_op (x := .bl (dueB rows m w o)) (fun G e Q' q' => ?_) (ev_fn (sp := sp__law_due K) (z := .bl (dueB rows m w o)) (ea_cons (ev_var (i := 3) rfl) (ea_cons (z4 (Ex.refl _)) ea_nil)) fun H9 e9 Q9 q9 => ⟨s, g, z0, as, rows, m, w, o, rfl, T7.ex e9, by omega, hb, ho7.kp (.of e9), q9⟩) (rv_ne rfl))) (by rw [decide_eq_true rfl]; rfl)) (fun z => nomatch z) fun _ H9 e9 => ?_
      · refine (z4 e) G (Ex.refl _) _ fun G1 g1 => ⟨_, rfl, s, g, z0, as, rows, m, w, o, rfl, T7.ex (e.trans g1), by omega, hb, ho7.kp (.of (e.trans g1)), fun G2 g2 => q' G2 (g1.trans g2)⟩
      · exact ⟨_, _, _, _, _, _, _, _, rfl, (e7.trans e9) _ _ hp6⟩
end
/-! ### the head: facts by names, the run -/
def d_init_NoPick : He.DefD := ⟨("NoPick", some "__init__"), "__init__", "NoPick.__init__", defArgs s_init_NoPick, defBody s_init_NoPick, defScope s_init_NoPick, [], []⟩
def d_is_whole : He.DefD := ⟨("is_whole", none), "is_whole", "is_whole", defArgs s_is_whole, defBody s_is_whole, defScope s_is_whole, [], []⟩
def d_is_table : He.DefD := ⟨("is_table", none), "is_table", "is_table", defArgs s_is_table, defBody s_is_table, defScope s_is_table, [], []⟩
def d_is_row : He.DefD := ⟨("is_row", none), "is_row", "is_row", defArgs s_is_row, defBody s_is_row, defScope s_is_row, [], []⟩
def d_check_table : He.DefD := ⟨("check_table", none), "check_table", "check_table", defArgs s_check_table, defBody s_check_table, defScope s_check_table, [], []⟩
def d_check_pick : He.DefD := ⟨("check_pick", none), "check_pick", "check_pick", defArgs s_check_pick, defBody s_check_pick, defScope s_check_pick, [], []⟩
def d_is_pick : He.DefD := ⟨("is_pick", none), "is_pick", "is_pick", defArgs s_is_pick, defBody s_is_pick, defScope s_is_pick, [], []⟩
def d_check_places : He.DefD := ⟨("check_places", none), "check_places", "check_places", defArgs s_check_places, defBody s_check_places, defScope s_check_places, [], []⟩
def d_is_place : He.DefD := ⟨("is_place", none), "is_place", "is_place", defArgs s_is_place, defBody s_is_place, defScope s_is_place, [], []⟩
def d_shape : He.DefD := ⟨("shape", none), "shape", "shape", defArgs s_shape, defBody s_shape, defScope s_shape, [], []⟩
def d_piece : He.DefD := ⟨("piece", none), "piece", "piece", defArgs s_piece, defBody s_piece, defScope s_piece, [], []⟩
def d_determinant : He.DefD := ⟨("determinant", none), "determinant", "determinant", defArgs s_determinant, defBody s_determinant, defScope s_determinant, [], []⟩
def d_square_value : He.DefD := ⟨("square_value", none), "square_value", "square_value", defArgs s_square_value, defBody s_square_value, defScope s_square_value, [], []⟩
def d_cleared : He.DefD := ⟨("cleared", none), "cleared", "cleared", defArgs s_cleared, defBody s_cleared, defScope s_cleared, [], []⟩
def d_cleared_row : He.DefD := ⟨("cleared_row", none), "cleared_row", "cleared_row", defArgs s_cleared_row, defBody s_cleared_row, defScope s_cleared_row, [], []⟩
def d_bad_square : He.DefD := ⟨("bad_square", none), "bad_square", "bad_square", defArgs s_bad_square, defBody s_bad_square, defScope s_bad_square, [], []⟩
def d_is_bad : He.DefD := ⟨("is_bad", none), "is_bad", "is_bad", defArgs s_is_bad, defBody s_is_bad, defScope s_is_bad, [], []⟩
def d_unfolded : He.DefD := ⟨("unfolded", none), "unfolded", "unfolded", defArgs s_unfolded, defBody s_unfolded, defScope s_unfolded, [], []⟩
def d_is_bad_square : He.DefD := ⟨("is_bad_square", none), "is_bad_square", "is_bad_square", defArgs s_is_bad_square, defBody s_is_bad_square, defScope s_is_bad_square, [], []⟩
def d__law_source_of : He.DefD := ⟨("_law_source_of", none), "_law_source_of", "_law_source_of", defArgs s__law_source_of, defBody s__law_source_of, defScope s__law_source_of, [], []⟩
def d__law_next : He.DefD := ⟨("_law_next", none), "_law_next", "_law_next", defArgs s__law_next, defBody s__law_next, defScope s__law_next, [], []⟩
def d__law_one : He.DefD := ⟨("_law_one", none), "_law_one", "_law_one", defArgs s__law_one, defBody s__law_one, defScope s__law_one, [], []⟩
def d__law_cell_at : He.DefD := ⟨("_law_cell_at", none), "_law_cell_at", "_law_cell_at", defArgs s__law_cell_at, defBody s__law_cell_at, defScope s__law_cell_at, [], []⟩
def d__law_mixed : He.DefD := ⟨("_law_mixed", none), "_law_mixed", "_law_mixed", defArgs s__law_mixed, defBody s__law_mixed, defScope s__law_mixed, [], []⟩
def d__law_ends : He.DefD := ⟨("_law_ends", none), "_law_ends", "_law_ends", defArgs s__law_ends, defBody s__law_ends, defScope s__law_ends, [], []⟩
def d__law_net : He.DefD := ⟨("_law_net", none), "_law_net", "_law_net", defArgs s__law_net, defBody s__law_net, defScope s__law_net, [], []⟩
def d__law_net_drawn : He.DefD := ⟨("_law_net_drawn", none), "_law_net_drawn", "_law_net_drawn", defArgs s__law_net_drawn, defBody s__law_net_drawn, defScope s__law_net_drawn, [], []⟩
def d__law_stretches : He.DefD := ⟨("_law_stretches", none), "_law_stretches", "_law_stretches", defArgs s__law_stretches, defBody s__law_stretches, defScope s__law_stretches, [], []⟩
def d__law_swung : He.DefD := ⟨("_law_swung", none), "_law_swung", "_law_swung", defArgs s__law_swung, defBody s__law_swung, defScope s__law_swung, [], []⟩
def d__law_table : He.DefD := ⟨("_law_table", none), "_law_table", "_law_table", defArgs s__law_table, defBody s__law_table, defScope s__law_table, [], []⟩
def d__law_expanded : He.DefD := ⟨("_law_expanded", none), "_law_expanded", "_law_expanded", defArgs s__law_expanded, defBody s__law_expanded, defScope s__law_expanded, [], []⟩
def d__law_is_pick : He.DefD := ⟨("_law_is_pick", none), "_law_is_pick", "_law_is_pick", defArgs s__law_is_pick, defBody s__law_is_pick, defScope s__law_is_pick, [], []⟩
def d__law_due : He.DefD := ⟨("_law_due", none), "_law_due", "_law_due", defArgs s__law_due, defBody s__law_due, defScope s__law_due, [], []⟩
def d__law_square : He.DefD := ⟨("_law_square", none), "_law_square", "_law_square", defArgs s__law_square, defBody s__law_square, defScope s__law_square, [], []⟩
def d__law_forged : He.DefD := ⟨("_law_forged", none), "_law_forged", "_law_forged", defArgs s__law_forged, defBody s__law_forged, defScope s__law_forged, [], []⟩
def d_law : He.DefD := ⟨("law", none), "law", "law", defArgs s_law, defBody s_law, defScope s_law, [], []⟩
def fnL : List He.DefD := [d_init_NoPick, d_is_whole, d_is_table, d_is_row, d_check_table, d_check_pick, d_is_pick, d_check_places, d_is_place, d_shape, d_piece, d_determinant, d_square_value, d_cleared, d_cleared_row, d_bad_square, d_is_bad, d_unfolded, d_is_bad_square, d__law_source_of, d__law_next, d__law_one, d__law_cell_at, d__law_mixed, d__law_ends, d__law_net, d__law_net_drawn, d__law_stretches, d__law_swung, d__law_table, d__law_expanded, d__law_is_pick, d__law_due, d__law_square, d__law_forged, d_law]
def faL : List He.Fa := [.glo "is_whole", .glo "is_table", .glo "is_row", .glo "check_table", .glo "check_pick", .glo "is_pick", .glo "check_places", .glo "is_place", .glo "shape", .glo "piece", .glo "determinant", .glo "square_value", .glo "cleared", .glo "cleared_row", .glo "bad_square", .glo "is_bad", .glo "unfolded", .glo "is_bad_square", .glo "_law_source_of", .glo "_law_next", .glo "_law_one", .glo "_law_cell_at", .glo "_law_mixed", .glo "_law_ends", .glo "_law_net", .glo "_law_net_drawn", .glo "_law_stretches", .glo "_law_swung", .glo "_law_table", .glo "_law_expanded", .glo "_law_is_pick", .glo "_law_due", .glo "_law_square", .glo "_law_forged", .glo "law", .glo "SignError", .glo "BadTable", .glo "NoFit", .glo "NoPick", .free "all", .free "bool", .free "enumerate", .free "int", .free "isinstance", .free "len", .free "list", .free "min", .free "range", .free "sorted", .free "str", .free "tuple", .free "zip", .int "MOST" 8]
def exs (K : PySem.W.Frag) : List Bool := [
  decide (PySem.W.nsIn K mainGlobals "combinations" = some (some (.type "itertools.combinations"))),
  decide (PySem.W.keepIn K (.ref (He.ga K "SignError")) = true),
  decide (PySem.W.subIn K (.ref (He.ga K "SignError")) (.type "BaseException") = some true),
  decide (PySem.W.typeIn K (.ref (He.ga K "SignError")) = some (.type "type")),
  decide (PySem.W.keepIn K (.ref (He.ga K "BadTable")) = true),
  decide (PySem.W.subIn K (.ref (He.ga K "BadTable")) (.type "BaseException") = some true),
  decide (PySem.W.typeIn K (.ref (He.ga K "BadTable")) = some (.type "type")),
  decide (PySem.W.excIn K (He.ga K "BadTable") aeT "ArithmeticError.__new__" = true),
  decide (PySem.W.keepIn K (.ref (He.ga K "NoFit")) = true),
  decide (PySem.W.subIn K (.ref (He.ga K "NoFit")) (.type "BaseException") = some true),
  decide (PySem.W.typeIn K (.ref (He.ga K "NoFit")) = some (.type "type")),
  decide (PySem.W.excIn K (He.ga K "NoFit") aeT "ArithmeticError.__new__" = true),
  decide (PySem.W.keepIn K (.ref (He.ga K "NoPick")) = true),
  decide (PySem.W.subIn K (.ref (He.ga K "NoPick")) (.type "BaseException") = some true),
  decide (PySem.W.typeIn K (.ref (He.ga K "NoPick")) = some (.type "type")),
  decide (PySem.W.readsIn K (He.ga K "SignError") (.type "type") = true),
  decide (PySem.W.specialIn K (.ref (He.ga K "SignError")) "__getattribute__" = some (some (.builtin "type.__getattribute__"))),
  fiB K (He.ga K "SignError"),
  ownB K (He.ga K "NoPick") (He.ga K "SignError"),
  decide (PySem.W.findIn K (.ref (He.ga K "NoPick")) "__init__" = some (some (.ref (He.fAd K ("NoPick", some "__init__"))))),
  decide (PySem.W.typeIn K (.ref (He.fAd K ("NoPick", some "__init__"))) = some (.type "function")),
  decide (PySem.W.findIn K (.ref (He.ga K "NoPick")) "at" = some none),
  xfB K (He.ga K "NoPick"),
  ecB K (He.ga K "NoPick"),
  decide (PySem.W.exmOne K (.ref (He.ga K "NoPick")) (.ref (He.ga K "SignError")) = some true),
  decide (PySem.W.exmOne K (.ref (He.ga K "NoPick")) (.ref (He.ga K "NoPick")) = some true),
  decide (PySem.W.kitOne K (.ref (He.ga K "NoPick")) (.ref (He.ga K "NoPick")) = some true)]
def exL (K : PySem.W.Frag) : Bool := (exs K).all id
theorem ex_at {K : PySem.W.Frag} (h : exL K = true) (i : Nat) {b : Bool} (e : (exs K)[i]? = some b) : b = true := List.all_eq_true.mp h b (List.mem_of_getElem? e)
def tfL : List He.Defn := [("law", none)]
abbrev RL : PySem.W.OpenRow := PySem.W.OpenLaw.row PySem.Challenge.rw_signbook_k12_squares_forged
abbrev hkL : PySem.W.Hook := L2.hookY 4 faL fnL [] tfL exL
def obL (s : PySem.W.SharedT) : He.AlX := L2.obsY 4 faL fnL [] tfL exL (HandSHeadRun.getT s)
theorem ob_eqL (s : PySem.W.SharedT) : obL s = hkL.obs s.abs := L2.obsY_eq (HandSHeadRun.getT_eq s)
def looseL : List Str := (["combinations", "SignError", "BadTable", "NoFit", "NoPick", "is_whole", "MOST", "is_table", "is_row", "check_table", "check_pick", "is_pick", "check_places", "is_place", "shape", "piece", "determinant", "square_value", "cleared", "cleared_row", "bad_square", "is_bad", "unfolded", "is_bad_square", "_law_source_of", "_law_next", "_law_one", "_law_cell_at", "_law_mixed", "_law_ends"] : List Str) ++ (["_law_net", "_law_net_drawn", "_law_stretches", "_law_swung", "_law_table", "_law_expanded", "_law_is_pick", "_law_due", "_law_square", "_law_forged"] : List Str)
theorem runL (w : World) : HandSHeadRun.RunEqI RL (PySem.W.view RL.prog [0, 45]) hkL obL 60000 looseL w := by
  unfold HandSHeadRun.RunEqI
  kernel_rfl
theorem factsL {w : World} {K : PySem.W.Frag} {h : Heap} {mg : Str → Option Value} {fa : Addr} (X : K.In h) (G : h.Ns mainGlobals mg) (hfa : mg ("law" : Str) = some (.ref fa)) (c : He.SaysX faL fnL [] tfL exL w h K) : LamX.LawAtS PySem.Challenge.rw_signbook_k12_squares_forged w K CX0 9 63 "_law_script" mg fa h := by
  have cd : He.SaysD faL fnL K := congrArg (fun z : He.AlT => z.1) c.t
  have ce : exL K = true := c.more
  obtain ⟨fd0, D0⟩ := cd.def_ 0 (d := d_init_NoPick) rfl
  obtain ⟨fd1, D1⟩ := cd.def_ 1 (d := d_is_whole) rfl
  obtain ⟨fd2, D2⟩ := cd.def_ 2 (d := d_is_table) rfl
  obtain ⟨fd3, D3⟩ := cd.def_ 3 (d := d_is_row) rfl
  obtain ⟨fd4, D4⟩ := cd.def_ 4 (d := d_check_table) rfl
  obtain ⟨fd5, D5⟩ := cd.def_ 5 (d := d_check_pick) rfl
  obtain ⟨fd6, D6⟩ := cd.def_ 6 (d := d_is_pick) rfl
  obtain ⟨fd7, D7⟩ := cd.def_ 7 (d := d_check_places) rfl
  obtain ⟨fd8, D8⟩ := cd.def_ 8 (d := d_is_place) rfl
  obtain ⟨fd9, D9⟩ := cd.def_ 9 (d := d_shape) rfl
  obtain ⟨fd10, D10⟩ := cd.def_ 10 (d := d_piece) rfl
  obtain ⟨fd11, D11⟩ := cd.def_ 11 (d := d_determinant) rfl
  obtain ⟨fd12, D12⟩ := cd.def_ 12 (d := d_square_value) rfl
  obtain ⟨fd13, D13⟩ := cd.def_ 13 (d := d_cleared) rfl
  obtain ⟨fd14, D14⟩ := cd.def_ 14 (d := d_cleared_row) rfl
  obtain ⟨fd15, D15⟩ := cd.def_ 15 (d := d_bad_square) rfl
  obtain ⟨fd16, D16⟩ := cd.def_ 16 (d := d_is_bad) rfl
  obtain ⟨fd17, D17⟩ := cd.def_ 17 (d := d_unfolded) rfl
  obtain ⟨fd18, D18⟩ := cd.def_ 18 (d := d_is_bad_square) rfl
  obtain ⟨fd19, D19⟩ := cd.def_ 19 (d := d__law_source_of) rfl
  obtain ⟨fd20, D20⟩ := cd.def_ 20 (d := d__law_next) rfl
  obtain ⟨fd21, D21⟩ := cd.def_ 21 (d := d__law_one) rfl
  obtain ⟨fd22, D22⟩ := cd.def_ 22 (d := d__law_cell_at) rfl
  obtain ⟨fd23, D23⟩ := cd.def_ 23 (d := d__law_mixed) rfl
  obtain ⟨fd24, D24⟩ := cd.def_ 24 (d := d__law_ends) rfl
  obtain ⟨fd25, D25⟩ := cd.def_ 25 (d := d__law_net) rfl
  obtain ⟨fd26, D26⟩ := cd.def_ 26 (d := d__law_net_drawn) rfl
  obtain ⟨fd27, D27⟩ := cd.def_ 27 (d := d__law_stretches) rfl
  obtain ⟨fd28, D28⟩ := cd.def_ 28 (d := d__law_swung) rfl
  obtain ⟨fd29, D29⟩ := cd.def_ 29 (d := d__law_table) rfl
  obtain ⟨fd30, D30⟩ := cd.def_ 30 (d := d__law_expanded) rfl
  obtain ⟨fd31, D31⟩ := cd.def_ 31 (d := d__law_is_pick) rfl
  obtain ⟨fd32, D32⟩ := cd.def_ 32 (d := d__law_due) rfl
  obtain ⟨fd33, D33⟩ := cd.def_ 33 (d := d__law_square) rfl
  obtain ⟨fd34, D34⟩ := cd.def_ 34 (d := d__law_forged) rfl
  obtain ⟨fd35, D35⟩ := cd.def_ 35 (d := d_law) rfl
  have F0 : Fun K "__init__" "NoPick.__init__" s_init_NoPick (He.fAd K ("NoPick", some "__init__")) fd0 := funD_fun D0
  have b0 := F0.binds (ps := ["self", "at"]) fun _ _ _ _ _ _ us hl => match us, hl with | [_, _], _ => rfl
  have F1 : Fun K "is_whole" "is_whole" s_is_whole (He.ga K "is_whole") fd1 := funD_fun D1
  have b1 := F1.binds (ps := ["thing"]) fun _ _ _ _ _ _ us hl => match us, hl with | [_], _ => rfl
  have F2 : Fun K "is_table" "is_table" s_is_table (He.ga K "is_table") fd2 := funD_fun D2
  have b2 := F2.binds (ps := ["thing"]) fun _ _ _ _ _ _ us hl => match us, hl with | [_], _ => rfl
  have F3 : Fun K "is_row" "is_row" s_is_row (He.ga K "is_row") fd3 := funD_fun D3
  have b3 := F3.binds (ps := ["thing"]) fun _ _ _ _ _ _ us hl => match us, hl with | [_], _ => rfl
  have F4 : Fun K "check_table" "check_table" s_check_table (He.ga K "check_table") fd4 := funD_fun D4
  have b4 := F4.binds (ps := ["thing"]) fun _ _ _ _ _ _ us hl => match us, hl with | [_], _ => rfl
  have F5 : Fun K "check_pick" "check_pick" s_check_pick (He.ga K "check_pick") fd5 := funD_fun D5
  have b5 := F5.binds (ps := ["thing", "many"]) fun _ _ _ _ _ _ us hl => match us, hl with | [_, _], _ => rfl
  have F6 : Fun K "is_pick" "is_pick" s_is_pick (He.ga K "is_pick") fd6 := funD_fun D6
  have b6 := F6.binds (ps := ["thing", "many"]) fun _ _ _ _ _ _ us hl => match us, hl with | [_, _], _ => rfl
  have F7 : Fun K "check_places" "check_places" s_check_places (He.ga K "check_places") fd7 := funD_fun D7
  have b7 := F7.binds (ps := ["thing", "many"]) fun _ _ _ _ _ _ us hl => match us, hl with | [_, _], _ => rfl
  have F8 : Fun K "is_place" "is_place" s_is_place (He.ga K "is_place") fd8 := funD_fun D8
  have b8 := F8.binds (ps := ["thing", "many"]) fun _ _ _ _ _ _ us hl => match us, hl with | [_, _], _ => rfl
  have F9 : Fun K "shape" "shape" s_shape (He.ga K "shape") fd9 := funD_fun D9
  have b9 := F9.binds (ps := ["table"]) fun _ _ _ _ _ _ us hl => match us, hl with | [_], _ => rfl
  have F10 : Fun K "piece" "piece" s_piece (He.ga K "piece") fd10 := funD_fun D10
  have b10 := F10.binds (ps := ["table", "rows", "columns"]) fun _ _ _ _ _ _ us hl => match us, hl with | [_, _, _], _ => rfl
  have F11 : Fun K "determinant" "determinant" s_determinant (He.ga K "determinant") fd11 := funD_fun D11
  have b11 := F11.binds (ps := ["table"]) fun _ _ _ _ _ _ us hl => match us, hl with | [_], _ => rfl
  have F12 : Fun K "square_value" "square_value" s_square_value (He.ga K "square_value") fd12 := funD_fun D12
  have b12 := F12.binds (ps := ["square"]) fun _ _ _ _ _ _ us hl => match us, hl with | [_], _ => rfl
  have F13 : Fun K "cleared" "cleared" s_cleared (He.ga K "cleared") fd13 := funD_fun D13
  have b13 := F13.binds (ps := ["table"]) fun _ _ _ _ _ _ us hl => match us, hl with | [_], _ => rfl
  have F14 : Fun K "cleared_row" "cleared_row" s_cleared_row (He.ga K "cleared_row") fd14 := funD_fun D14
  have b14 := F14.binds (ps := ["row", "lead", "column", "corner"]) fun _ _ _ _ _ _ us hl => match us, hl with | [_, _, _, _], _ => rfl
  have F15 : Fun K "bad_square" "bad_square" s_bad_square (He.ga K "bad_square") fd15 := funD_fun D15
  have b15 := F15.binds (ps := ["table"]) fun _ _ _ _ _ _ us hl => match us, hl with | [_], _ => rfl
  have F16 : Fun K "is_bad" "is_bad" s_is_bad (He.ga K "is_bad") fd16 := funD_fun D16
  have b16 := F16.binds (ps := ["value"]) fun _ _ _ _ _ _ us hl => match us, hl with | [_], _ => rfl
  have F17 : Fun K "unfolded" "unfolded" s_unfolded (He.ga K "unfolded") fd17 := funD_fun D17
  have b17 := F17.binds (ps := ["table", "rows", "columns", "known"]) fun _ _ _ _ _ _ us hl => match us, hl with | [_, _, _, _], _ => rfl
  have F18 : Fun K "is_bad_square" "is_bad_square" s_is_bad_square (He.ga K "is_bad_square") fd18 := funD_fun D18
  have b18 := F18.binds (ps := ["table", "thing"]) fun _ _ _ _ _ _ us hl => match us, hl with | [_, _], _ => rfl
  have F19 : Fun K "_law_source_of" "_law_source_of" s__law_source_of (He.ga K "_law_source_of") fd19 := funD_fun D19
  have b19 := F19.binds (ps := ["_law_cell"]) fun _ _ _ _ _ _ us hl => match us, hl with | [_], _ => rfl
  have F20 : Fun K "_law_next" "_law_next" s__law_next (He.ga K "_law_next") fd20 := funD_fun D20
  have b20 := F20.binds (ps := ["_law_source", "_law_many"]) fun _ _ _ _ _ _ us hl => match us, hl with | [_, _], _ => rfl
  have F21 : Fun K "_law_one" "_law_one" s__law_one (He.ga K "_law_one") fd21 := funD_fun D21
  have b21 := F21.binds (ps := ["_law_source", "_law_some"]) fun _ _ _ _ _ _ us hl => match us, hl with | [_, _], _ => rfl
  have F22 : Fun K "_law_cell_at" "_law_cell_at" s__law_cell_at (He.ga K "_law_cell_at") fd22 := funD_fun D22
  have b22 := F22.binds (ps := ["_law_script", "_law_k"]) fun _ _ _ _ _ _ us hl => match us, hl with | [_, _], _ => rfl
  have F23 : Fun K "_law_mixed" "_law_mixed" s__law_mixed (He.ga K "_law_mixed") fd23 := funD_fun D23
  have b23 := F23.binds (ps := ["_law_source", "_law_some"]) fun _ _ _ _ _ _ us hl => match us, hl with | [_, _], _ => rfl
  have F24 : Fun K "_law_ends" "_law_ends" s__law_ends (He.ga K "_law_ends") fd24 := funD_fun D24
  have b24 := F24.binds (ps := ["_law_source", "_law_many"]) fun _ _ _ _ _ _ us hl => match us, hl with | [_, _], _ => rfl
  have F25 : Fun K "_law_net" "_law_net" s__law_net (He.ga K "_law_net") fd25 := funD_fun D25
  have b25 := F25.binds (ps := ["_law_ends_here", "_law_arcs"]) fun _ _ _ _ _ _ us hl => match us, hl with | [_, _], _ => rfl
  have F26 : Fun K "_law_net_drawn" "_law_net_drawn" s__law_net_drawn (He.ga K "_law_net_drawn") fd26 := funD_fun D26
  have b26 := F26.binds (ps := ["_law_source", "_law_many", "_law_wide"]) fun _ _ _ _ _ _ us hl => match us, hl with | [_, _, _], _ => rfl
  have F27 : Fun K "_law_stretches" "_law_stretches" s__law_stretches (He.ga K "_law_stretches") fd27 := funD_fun D27
  have b27 := F27.binds (ps := ["_law_source", "_law_many", "_law_wide"]) fun _ _ _ _ _ _ us hl => match us, hl with | [_, _, _], _ => rfl
  have F28 : Fun K "_law_swung" "_law_swung" s__law_swung (He.ga K "_law_swung") fd28 := funD_fun D28
  have b28 := F28.binds (ps := ["_law_source", "_law_grid"]) fun _ _ _ _ _ _ us hl => match us, hl with | [_, _], _ => rfl
  have F29 : Fun K "_law_table" "_law_table" s__law_table (He.ga K "_law_table") fd29 := funD_fun D29
  have b29 := F29.binds (ps := ["_law_source", "_law_most"]) fun _ _ _ _ _ _ us hl => match us, hl with | [_, _], _ => rfl
  have F30 : Fun K "_law_expanded" "_law_expanded" s__law_expanded (He.ga K "_law_expanded") fd30 := funD_fun D30
  have b30 := F30.binds (ps := ["_law_grid"]) fun _ _ _ _ _ _ us hl => match us, hl with | [_], _ => rfl
  have F31 : Fun K "_law_is_pick" "_law_is_pick" s__law_is_pick (He.ga K "_law_is_pick") fd31 := funD_fun D31
  have b31 := F31.binds (ps := ["_law_pick", "_law_many"]) fun _ _ _ _ _ _ us hl => match us, hl with | [_, _], _ => rfl
  have F32 : Fun K "_law_due" "_law_due" s__law_due (He.ga K "_law_due") fd32 := funD_fun D32
  have b32 := F32.binds (ps := ["_law_grid", "_law_some_thing"]) fun _ _ _ _ _ _ us hl => match us, hl with | [_, _], _ => rfl
  have F33 : Fun K "_law_square" "_law_square" s__law_square (He.ga K "_law_square") fd33 := funD_fun D33
  have b33 := F33.binds (ps := ["_law_source", "_law_grid"]) fun _ _ _ _ _ _ us hl => match us, hl with | [_, _], _ => rfl
  have F34 : Fun K "_law_forged" "_law_forged" s__law_forged (He.ga K "_law_forged") fd34 := funD_fun D34
  have b34 := F34.binds (ps := ["_law_source", "_law_some_thing"]) fun _ _ _ _ _ _ us hl => match us, hl with | [_, _], _ => rfl
  have F35 : Fun K "law" "law" s_law (He.ga K "law") fd35 := funD_fun D35
  have b35 := F35.binds (ps := ["_law_script"]) fun _ _ _ _ _ _ us hl => match us, hl with | [_], _ => rfl
  obtain ⟨tk_MOST, gk_MOST⟩ := He.int_ok X G (cd.fact 52 (f := .int "MOST" 8) rfl)
  have e := hfa.symm.trans (He.glo_ok X G (cd.fact 34 (f := .glo "law") rfl))
  cases e
  obtain ⟨ocL, odL, kVL, docL, pmL, anL, cdvL, ctL, oslL, eL, lkL, hcL⟩ := F35.ex
  obtain ⟨cL, ecL⟩ := He.codeIn_ref hcL
  subst ecL
  have eC : He.codeOf K ("law", none) = cL := by
    have lk2 := lkL
    rw [eL] at lk2
    exact He.codeOf_eq (p := ("law", none)) lk2 rfl
  let T : Txt K mg := {
    f_init_NoPick := (He.fAd K ("NoPick", some "__init__")), fd_init_NoPick := fd0, F_init_NoPick := F0, b_init_NoPick := b0,
    f_is_whole := (He.ga K "is_whole"), fd_is_whole := fd1, F_is_whole := F1, g_is_whole := He.glo_ok X G (cd.fact 0 (f := .glo "is_whole") rfl), k_is_whole := F1.kp, b_is_whole := b1,
    f_is_table := (He.ga K "is_table"), fd_is_table := fd2, F_is_table := F2, g_is_table := He.glo_ok X G (cd.fact 1 (f := .glo "is_table") rfl), k_is_table := F2.kp, b_is_table := b2,
    f_is_row := (He.ga K "is_row"), fd_is_row := fd3, F_is_row := F3, g_is_row := He.glo_ok X G (cd.fact 2 (f := .glo "is_row") rfl), k_is_row := F3.kp, b_is_row := b3,
    f_check_table := (He.ga K "check_table"), fd_check_table := fd4, F_check_table := F4, g_check_table := He.glo_ok X G (cd.fact 3 (f := .glo "check_table") rfl), k_check_table := F4.kp, b_check_table := b4,
    f_check_pick := (He.ga K "check_pick"), fd_check_pick := fd5, F_check_pick := F5, g_check_pick := He.glo_ok X G (cd.fact 4 (f := .glo "check_pick") rfl), k_check_pick := F5.kp, b_check_pick := b5,
    f_is_pick := (He.ga K "is_pick"), fd_is_pick := fd6, F_is_pick := F6, g_is_pick := He.glo_ok X G (cd.fact 5 (f := .glo "is_pick") rfl), k_is_pick := F6.kp, b_is_pick := b6,
    f_check_places := (He.ga K "check_places"), fd_check_places := fd7, F_check_places := F7, g_check_places := He.glo_ok X G (cd.fact 6 (f := .glo "check_places") rfl), k_check_places := F7.kp, b_check_places := b7,
    f_is_place := (He.ga K "is_place"), fd_is_place := fd8, F_is_place := F8, g_is_place := He.glo_ok X G (cd.fact 7 (f := .glo "is_place") rfl), k_is_place := F8.kp, b_is_place := b8,
    f_shape := (He.ga K "shape"), fd_shape := fd9, F_shape := F9, g_shape := He.glo_ok X G (cd.fact 8 (f := .glo "shape") rfl), k_shape := F9.kp, b_shape := b9,
    f_piece := (He.ga K "piece"), fd_piece := fd10, F_piece := F10, g_piece := He.glo_ok X G (cd.fact 9 (f := .glo "piece") rfl), k_piece := F10.kp, b_piece := b10,
    f_determinant := (He.ga K "determinant"), fd_determinant := fd11, F_determinant := F11, g_determinant := He.glo_ok X G (cd.fact 10 (f := .glo "determinant") rfl), k_determinant := F11.kp, b_determinant := b11,
    f_square_value := (He.ga K "square_value"), fd_square_value := fd12, F_square_value := F12, g_square_value := He.glo_ok X G (cd.fact 11 (f := .glo "square_value") rfl), k_square_value := F12.kp, b_square_value := b12,
    f_cleared := (He.ga K "cleared"), fd_cleared := fd13, F_cleared := F13, g_cleared := He.glo_ok X G (cd.fact 12 (f := .glo "cleared") rfl), k_cleared := F13.kp, b_cleared := b13,
    f_cleared_row := (He.ga K "cleared_row"), fd_cleared_row := fd14, F_cleared_row := F14, g_cleared_row := He.glo_ok X G (cd.fact 13 (f := .glo "cleared_row") rfl), k_cleared_row := F14.kp, b_cleared_row := b14,
    f_bad_square := (He.ga K "bad_square"), fd_bad_square := fd15, F_bad_square := F15, g_bad_square := He.glo_ok X G (cd.fact 14 (f := .glo "bad_square") rfl), k_bad_square := F15.kp, b_bad_square := b15,
    f_is_bad := (He.ga K "is_bad"), fd_is_bad := fd16, F_is_bad := F16, g_is_bad := He.glo_ok X G (cd.fact 15 (f := .glo "is_bad") rfl), k_is_bad := F16.kp, b_is_bad := b16,
    f_unfolded := (He.ga K "unfolded"), fd_unfolded := fd17, F_unfolded := F17, g_unfolded := He.glo_ok X G (cd.fact 16 (f := .glo "unfolded") rfl), k_unfolded := F17.kp, b_unfolded := b17,
    f_is_bad_square := (He.ga K "is_bad_square"), fd_is_bad_square := fd18, F_is_bad_square := F18, g_is_bad_square := He.glo_ok X G (cd.fact 17 (f := .glo "is_bad_square") rfl), k_is_bad_square := F18.kp, b_is_bad_square := b18,
    f__law_source_of := (He.ga K "_law_source_of"), fd__law_source_of := fd19, F__law_source_of := F19, g__law_source_of := He.glo_ok X G (cd.fact 18 (f := .glo "_law_source_of") rfl), k__law_source_of := F19.kp, b__law_source_of := b19,
    f__law_next := (He.ga K "_law_next"), fd__law_next := fd20, F__law_next := F20, g__law_next := He.glo_ok X G (cd.fact 19 (f := .glo "_law_next") rfl), k__law_next := F20.kp, b__law_next := b20,
    f__law_one := (He.ga K "_law_one"), fd__law_one := fd21, F__law_one := F21, g__law_one := He.glo_ok X G (cd.fact 20 (f := .glo "_law_one") rfl), k__law_one := F21.kp, b__law_one := b21,
    f__law_cell_at := (He.ga K "_law_cell_at"), fd__law_cell_at := fd22, F__law_cell_at := F22, g__law_cell_at := He.glo_ok X G (cd.fact 21 (f := .glo "_law_cell_at") rfl), k__law_cell_at := F22.kp, b__law_cell_at := b22,
    f__law_mixed := (He.ga K "_law_mixed"), fd__law_mixed := fd23, F__law_mixed := F23, g__law_mixed := He.glo_ok X G (cd.fact 22 (f := .glo "_law_mixed") rfl), k__law_mixed := F23.kp, b__law_mixed := b23,
    f__law_ends := (He.ga K "_law_ends"), fd__law_ends := fd24, F__law_ends := F24, g__law_ends := He.glo_ok X G (cd.fact 23 (f := .glo "_law_ends") rfl), k__law_ends := F24.kp, b__law_ends := b24,
    f__law_net := (He.ga K "_law_net"), fd__law_net := fd25, F__law_net := F25, g__law_net := He.glo_ok X G (cd.fact 24 (f := .glo "_law_net") rfl), k__law_net := F25.kp, b__law_net := b25,
    f__law_net_drawn := (He.ga K "_law_net_drawn"), fd__law_net_drawn := fd26, F__law_net_drawn := F26, g__law_net_drawn := He.glo_ok X G (cd.fact 25 (f := .glo "_law_net_drawn") rfl), k__law_net_drawn := F26.kp, b__law_net_drawn := b26,
    f__law_stretches := (He.ga K "_law_stretches"), fd__law_stretches := fd27, F__law_stretches := F27, g__law_stretches := He.glo_ok X G (cd.fact 26 (f := .glo "_law_stretches") rfl), k__law_stretches := F27.kp, b__law_stretches := b27,
    f__law_swung := (He.ga K "_law_swung"), fd__law_swung := fd28, F__law_swung := F28, g__law_swung := He.glo_ok X G (cd.fact 27 (f := .glo "_law_swung") rfl), k__law_swung := F28.kp, b__law_swung := b28,
    f__law_table := (He.ga K "_law_table"), fd__law_table := fd29, F__law_table := F29, g__law_table := He.glo_ok X G (cd.fact 28 (f := .glo "_law_table") rfl), k__law_table := F29.kp, b__law_table := b29,
    f__law_expanded := (He.ga K "_law_expanded"), fd__law_expanded := fd30, F__law_expanded := F30, g__law_expanded := He.glo_ok X G (cd.fact 29 (f := .glo "_law_expanded") rfl), k__law_expanded := F30.kp, b__law_expanded := b30,
    f__law_is_pick := (He.ga K "_law_is_pick"), fd__law_is_pick := fd31, F__law_is_pick := F31, g__law_is_pick := He.glo_ok X G (cd.fact 30 (f := .glo "_law_is_pick") rfl), k__law_is_pick := F31.kp, b__law_is_pick := b31,
    f__law_due := (He.ga K "_law_due"), fd__law_due := fd32, F__law_due := F32, g__law_due := He.glo_ok X G (cd.fact 31 (f := .glo "_law_due") rfl), k__law_due := F32.kp, b__law_due := b32,
    f__law_square := (He.ga K "_law_square"), fd__law_square := fd33, F__law_square := F33, g__law_square := He.glo_ok X G (cd.fact 32 (f := .glo "_law_square") rfl), k__law_square := F33.kp, b__law_square := b33,
    f__law_forged := (He.ga K "_law_forged"), fd__law_forged := fd34, F__law_forged := F34, g__law_forged := He.glo_ok X G (cd.fact 33 (f := .glo "_law_forged") rfl), k__law_forged := F34.kp, b__law_forged := b34,
    f_law := (He.ga K "law"), fd_law := fd35, F_law := F35, g_law := He.glo_ok X G (cd.fact 34 (f := .glo "law") rfl), k_law := F35.kp, b_law := b35,
    f_SignError := He.ga K "SignError", g_SignError := He.glo_ok X G (cd.fact 35 (f := .glo "SignError") rfl),
    f_BadTable := He.ga K "BadTable", g_BadTable := He.glo_ok X G (cd.fact 36 (f := .glo "BadTable") rfl),
    f_NoFit := He.ga K "NoFit", g_NoFit := He.glo_ok X G (cd.fact 37 (f := .glo "NoFit") rfl),
    f_NoPick := He.ga K "NoPick", g_NoPick := He.glo_ok X G (cd.fact 38 (f := .glo "NoPick") rfl),
    n_all := He.free_ok X G (cd.fact 39 (f := .free "all") rfl),
    n_bool := He.free_ok X G (cd.fact 40 (f := .free "bool") rfl),
    n_enumerate := He.free_ok X G (cd.fact 41 (f := .free "enumerate") rfl),
    n_int := He.free_ok X G (cd.fact 42 (f := .free "int") rfl),
    n_isinstance := He.free_ok X G (cd.fact 43 (f := .free "isinstance") rfl),
    n_len := He.free_ok X G (cd.fact 44 (f := .free "len") rfl),
    n_list := He.free_ok X G (cd.fact 45 (f := .free "list") rfl),
    n_min := He.free_ok X G (cd.fact 46 (f := .free "min") rfl),
    n_range := He.free_ok X G (cd.fact 47 (f := .free "range") rfl),
    n_sorted := He.free_ok X G (cd.fact 48 (f := .free "sorted") rfl),
    n_str := He.free_ok X G (cd.fact 49 (f := .free "str") rfl),
    n_tuple := He.free_ok X G (cd.fact 50 (f := .free "tuple") rfl),
    n_zip := He.free_ok X G (cd.fact 51 (f := .free "zip") rfl),
    t_MOST := tk_MOST, g_MOST := gk_MOST,
    g_combinations := PySem.W.mg_of X G (of_decide_eq_true (ex_at ce 0 rfl)),
    k_SignError := of_decide_eq_true (ex_at ce 1 rfl),
    ex_SignError := of_decide_eq_true (ex_at ce 2 rfl),
    tx_SignError := of_decide_eq_true (ex_at ce 3 rfl),
    k_BadTable := of_decide_eq_true (ex_at ce 4 rfl),
    ex_BadTable := of_decide_eq_true (ex_at ce 5 rfl),
    tx_BadTable := of_decide_eq_true (ex_at ce 6 rfl),
    x_BadTable := of_decide_eq_true (ex_at ce 7 rfl),
    k_NoFit := of_decide_eq_true (ex_at ce 8 rfl),
    ex_NoFit := of_decide_eq_true (ex_at ce 9 rfl),
    tx_NoFit := of_decide_eq_true (ex_at ce 10 rfl),
    x_NoFit := of_decide_eq_true (ex_at ce 11 rfl),
    k_NoPick := of_decide_eq_true (ex_at ce 12 rfl),
    ex_NoPick := of_decide_eq_true (ex_at ce 13 rfl),
    tx_NoPick := of_decide_eq_true (ex_at ce 14 rfl),
    rd_SignError := of_decide_eq_true (ex_at ce 15 rfl),
    ga_SignError := of_decide_eq_true (ex_at ce 16 rfl),
    fi_SignError := fiB_ok (ex_at ce 17 rfl),
    own_NoPick := ownB_ok (ex_at ce 18 rfl),
    i_NoPick := of_decide_eq_true (ex_at ce 19 rfl),
    ty_NoPick := of_decide_eq_true (ex_at ce 20 rfl),
    no_NoPick := of_decide_eq_true (ex_at ce 21 rfl),
    xf_NoPick := xfB_ok (ex_at ce 22 rfl),
    ec_NoPick := ecB_ok (ex_at ce 23 rfl),
    exm_NoPick := of_decide_eq_true (ex_at ce 24 rfl),
    exo_NoPick := of_decide_eq_true (ex_at ce 25 rfl),
    kit_NoPick_NoPick := of_decide_eq_true (ex_at ce 26 rfl),
    c_law := cL, P_law := He.tabOf K cL, lkL := ⟨ocL, odL, kVL, docL, pmL, anL, ctL, oslL, eL, lkL, hcL⟩ }
  have m0 : (("law", none) : He.Defn) ∈ tfL := List.mem_singleton.mpr rfl
  have q1 := c.empty _ m0
  have q2 := c.out _ m0
  have q3 := c.hd _ m0
  have eT : He.cT K ("law", none) = (cL, He.tabOf K cL) := by unfold He.cT; rw [eC]
  rw [eT] at q1 q2 q3
  refine ⟨fd35, [(cL, He.tabOf K cL)], sp_law K (He.tabOf K cL), fun p hp => ?_, fun p hp => ?_, fun p hp => ?_, ?_, ?_, ?_⟩
  · rw [List.mem_singleton.mp hp]; exact q1
  · rw [List.mem_singleton.mp hp]; exact q2
  · rw [List.mem_singleton.mp hp]; exact PySem.W.codeHd_of_K X q3
  · intro s u; exact FunD.bindsA (ps := ["_law_script"]) D35 (fun _ _ _ _ _ _ us hl => match us, hl with | [_], _ => rfl) s [u] rfl
  · intro H a ns hl hbits hP hS; exact ⟨a, ns, rfl, hS, hl, hP _ (List.mem_singleton.mpr rfl), fun _ => rfl⟩
  · intro base _ _ hB; exact ok_law (base := base) T (hB _ (List.mem_singleton.mpr rfl))
end SbE12
open PySem PySem.W PySem.Calls PyProof.Rows
set_option maxRecDepth 100000 in
set_option maxHeartbeats 0 in
theorem PySem.Challenge.cw_signbook_k12_squares_forged_holds : PySem.Challenge.rw_signbook_k12_squares_forged.Holds := by
  w_on; o_law
  refine HandSHeadRun.head_imp (r := OpenLaw.row PySem.Challenge.rw_signbook_k12_squares_forged) (q := view (OpenLaw.row PySem.Challenge.rw_signbook_k12_squares_forged).prog [0, 45]) (H := SbE12.hkL) (ob := SbE12.obL) (M := 60000) (loose := SbE12.looseL) (d := HandSHeadRun.topDef (OpenLaw.row PySem.Challenge.rw_signbook_k12_squares_forged).prog 45) (kwd := []) SbE12.ob_eqL
    SbE12.runL (by kernel_rfl) (by kernel_rfl) (by kernel_rfl) (by rfl) (by first | assumption | decide +kernel) (by decide +kernel) ⟨rfl, rfl, rfl, rfl, rfl, by decide +kernel⟩ ?hw ?hc
  case hw => w_witness2
  case hc =>
    refine LamX.walk_ofTsE (l := PySem.Challenge.rw_signbook_k12_squares_forged) (n := 63) (k := 9) (x := "_law_script") (CX := fun _ => L2.CX0) rfl (by decide) (by kernel_rfl) ⟨rfl, by decide, by decide⟩ ?F (fun _ _ _ _ _ z => z)
    intro w mg fa h Y G hmg0
    obtain ⟨K, KX, c⟩ := Y
    have hmg : mg ("law" : PySem.Str) = some (.ref fa) := by
      have e : (HandSHeadRun.topDef (OpenLaw.row PySem.Challenge.rw_signbook_k12_squares_forged).prog 45).name = ("law" : PySem.Str) := by kernel_rfl
      rw [← e]
      exact hmg0
    exact ⟨K, KX, SbE12.factsL KX G hmg c⟩
