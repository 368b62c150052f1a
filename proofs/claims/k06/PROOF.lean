import PyProof.Rows.All
import Wide.All
import OpenK.AllK
import Wide.FinOn
import PyProof.EqAt
import PyProof.EqKinds
import PyProof.TupleCall
import HandS.ForMost
import HandS.Evl
import HandS.Wide
import HandS.Gcd
import HandS.IsInst
import HandS.Defaults
import HandS.Zip
import HandS.Conv
import HandS.Style
import KE.KExcInit
import KE.KIsAll
import KE.KTryMore
import HandS.ForExc
import HandS.ExcInit
import HandS.ExcIs
import HandS.ExcField
import HandS.FStr
import HandS.Lambda
import HandS.ClsMeth
import HandS.Head0
import HandS.Head1
import HandS.Head2
import HandS.HeadEnd
import HandS.HeadHook1
import HandS.HeadHook2
import HandS.HeadHook3
import HandS.HeadHook4
import HandS.HeadWalk
import KE.KStateDown
import HandS.Head3
import PySem.Challenge.RW_signbook_k06_products_and_led
set_option Elab.async false
set_option linter.all false
set_option maxRecDepth 100000
set_option maxHeartbeats 2000000
namespace PySem
namespace SbE
open PySem.W PySem.Calls PyProof.Rows PySem.HandSPX Builtin Builtin.ObjectAttr
abbrev aeT : List Value := [.type "ArithmeticError", .type "Exception", .type "BaseException", .type "object"]
theorem ae_has (cs : Addr) (T : String) : (Value.ref cs :: aeT).contains (.type T) = aeT.contains (.type T) := by
  rw [List.contains_cons]
  rfl
theorem ae_pass (u : Value) (ca cs : Addr) : refuseLoop u "__setattr__" (.ref ca :: .ref cs :: aeT) = pure () := by
  rw [refuseLoop_ref, refuseLoop_ref]
  exact PySem.F.store_ArithmeticError.passes u
section
variable {pg : Program} {wd : World} {Ar : Around} {En : Value → Shared → Prop} {Rz : Result → Shared → Prop} {ha : Heap} {gs : Array GenState} {dn : Drawn} {tc : Nat} {st : OsState}
/-- self.nam = val, the first field of such an exception -/
theorem osaA {K : W.Frag} {nam : Str} {tk : Tok} {val : Value} {xa ca cs : Addr} {vs : Array Value} {kd : ClassData}
    (Y : K.In ha) (gx : ha.get? xa = some { cls := .ref ca, data := .fields vs }) (gk : W.clsIn K ca = some kd) (gm : kd.mro = .ref ca :: .ref cs :: aeT) (gd : kd.hasDict = true) (gn : W.findIn K (.ref ca) nam = some none)
    (next : ∀ hb tkb da, (∀ b o, b ≠ xa → ha.get? b = some o → hb.get? b = some o) → ha.objs.size ≤ da → da ≠ xa → hb.get? xa = some { cls := .ref ca, dict := some da, data := .fields vs } →
      hb.Ns1 da (fun y => if y = nam then some val else none) → Rz (.ok (.ret .none)) ⟨hb, gs, dn, tkb, st⟩) :
    codeAny (model pg wd) Ar (.call (.builtin "object.__setattr__") ⟨[.ref xa, .str nam tk, val], []⟩) Rz ⟨ha, gs, dn, tc, st⟩ := by
  have In0 : W.InstAt ha xa { cls := .ref ca, data := .fields vs } ca none := ⟨gx, rfl, rfl, trivial⟩
  have SO := PySem.F.store_object
  have gne : kd.mro.isEmpty = false := by rw [gm]; rfl
  have gob : kd.mro.contains (.type "object") = true := by rw [gm, List.contains_cons, ae_has, Bool.or_eq_true]; exact .inr (by decide +kernel)
  have xne : xa ≠ ha.objs.size := Nat.ne_of_lt (Heap.lt_size gx)
  have sb : W.Looks (model pg wd) ha (isInstance (.ref xa) (.type "object")) true := In0.type.andThen (W.looks_mroIn Y (by unfold W.mroIn; rw [gk, Option.bind_some, if_neg (by rw [gne]; decide), gob]))
  refine codeAny_call_builtin SO.slot.plain SO.entry (@W.check_slot (model pg wd) _ _ ⟨ha, gs, dn, tc, st⟩ "object.__setattr__" "object" "__setattr__" (.ref xa) [.str nam tk, val] [] _ SO.kind SO.split sb (SO.args (.ref xa) (.str nam tk) val) ?_)
  have lm : W.Looks (model pg wd) ha (mroOf (.ref ca)) kd.mro := (W.looks_clsIn Y gk).andThen .now
  have lt : W.Looks (model pg wd) ha (storeTaker? none) none := .now
  have lc : W.Looks (model pg wd) ha (classData ca) kd := W.looks_clsIn Y gk
  rw [W.osa_eq, refuse_eq]
  refine wpAny_bind (wpAny_bind (In0.type.at (wpAny_bind (lm.at ?_))))
  rw [gm, ae_pass]
  refine wpAny_pure (wpAny_bind (In0.type.at (wpAny_bind ((W.looks_findIn Y gn).at (wpAny_bind (lt.at ?_))))))
  show wpAny _ _ (storeInOwnDict (.ref xa) (.ref ca) (.str nam tk) nam val false) _ _ _
  obtain ⟨c1, c2, c3, c4, c5, c6, c7, c8, c9, c10, c11⟩ := kd
  dsimp only at gd
  subst gd
  unfold storeInOwnDict ownDictForStores
  repeat (first | with_reducible refine store_in_new ?_ ?_ | with_reducible refine wpAny_loadPart_at gx ?_ | with_reducible refine lc.at ?_ | wp_step)
  · exact ⟨_, #[], _, (Heap.get?_update_ne _ _ _ _ xne.symm).trans (Heap.get?_push_at rfl rfl), rfl, fun e he => absurd he (by simp), fun _ => rfl⟩
  · intro hb tkb hn hs
    have gx2 : (ha.push { cls := .type "dict", data := .dict #[] }).get? xa = some { cls := .ref ca, data := .fields vs } := Heap.get?_push_of_some _ gx
    refine next hb tkb ha.objs.size (fun b o nb ho => ?_) (Nat.le_refl _) xne.symm ?_ hn
    · exact (hs.2 b (Nat.ne_of_lt (Heap.lt_size ho))).trans ((Heap.get?_update_ne _ _ _ _ nb).trans (Heap.get?_push_of_some _ ho))
    · exact (hs.2 xa xne).trans (Heap.get?_update_self _ gx2 rfl)
end
end SbE
end PySem
namespace L2
open PySem PySem.Spec PyProof.Rows PySem.SbE
/-- what the written part says of such a class, whose base is the own class at cs -/
structure OwnA (K : PySem.W.Frag) (ca cs : Addr) : Prop where
  cls : ∃ nm q N bs sn sub ab col dd k0 k1 k2 k3 k5, K.lookup ca = some (excClassObj nm q ca N bs (.ref cs :: aeT) true sn sub ab col dd k0 k1 k2 k3 k5 "ArithmeticError.__new__")
  sa : PySem.W.findIn K (.ref ca) "__setattr__" = some (some (.builtin "object.__setattr__"))
  ex : PySem.W.subIn K (.ref ca) (.type "BaseException") = some true
  ty : PySem.W.typeIn K (.ref ca) = some (.type "type")
  kp : PySem.W.keepIn K (.ref ca) = true
section
variable {X : Cx} {pins : List (Addr × Obj)} {σ : St} {H : Hp} {s : Shared} {a ca cs da : Addr} {f : Str} {y : V} {u : Value} {E : Value → Shared → Prop} {A : Around}
theorem ostA {Q : Unit → Shared → Prop} (T : OwnA X.K ca cs) (I : Inv X pins σ H s) (e : H a = some (exo a ca none)) (gn : PySem.W.findIn X.K (.ref ca) f = some none) (ry : RelV y u)
    (k : ∀ da s', H da = none → da ≠ a → Inv X pins σ (upd (upd H da (exd da [(f, y)])) a (exo a ca (some da))) s' → Q () s') : wpAny (model X.prog X.w) A (setAttr (.ref a) f u) Q E s := by
  obtain ⟨nm, q, N, bs, sn, sub, ab, col, dd, k0, k1, k2, k3, k5, lk⟩ := T.cls
  obtain ⟨t1, go⟩ := exo_at I.hok e
  obtain ⟨hp, g, d, t, os⟩ := s
  refine PySem.W.set_plain I.kIn (ox := { cls := .ref ca, dict := none, data := .fields #[.ref t1, .none, .none, .none, .bool false, .none] }) (od := none) ⟨go, rfl, rfl, trivial⟩ T.sa ?_
  refine osaA (cs := cs) I.kIn go (kd := { name := nm, bases := bs, mro := .ref ca :: .ref cs :: aeT, ns := N, qualname := q, hasDict := true, slotNames := sn, subclasses := sub, abstract := ab, collection := col, hasDel := false }) (by unfold PySem.W.clsIn; rw [lk] <;> rfl) rfl rfl gn (fun hb tkb dx kk dn dne gxb hn => ?_)
  have dfree : H dx = none := I.hok.fresh dn
  have n1 : ∀ {b : Addr} {o : Obj}, hp.get? b = some o → b ≠ dx := fun {b o} z => Nat.ne_of_lt (Nat.lt_of_lt_of_le (Heap.lt_size z) dn)
  have n2 : ∀ {b : Addr}, H b = none → b ≠ a := fun {b} z w => by
    rw [w, e] at z
    cases z
  have U : Un X.fs [] H (upd (upd H dx (exd dx [(f, y)])) a (exo a ca (some dx))) hp hb := {
    keep := fun b o z n _ _ => kk b o (n2 n) z
    slot := fun b o z n _ _ => ⟨o.slots, kk b o (n2 n) z⟩
    free := fun b o z n _ => by rw [upd_ne (n2 n), upd_ne (n1 z)]; exact n
    there := fun b o z _ => by
      by_cases w : b = a
      · exact ⟨_, by rw [w]; exact gxb⟩
      · exact ⟨o, kk b o w z⟩
    tups := fun b xs z => by rw [upd_ne (at_ne e z exo_tup), upd_ne (ne_of_none z dfree)]; exact z
    frzs := fun b o v z => by rw [upd_ne (at_ne e z exo_frz), upd_ne (ne_of_none z dfree)]; exact z
    tbls := fun b ps z => ⟨#[], by rw [upd_ne (at_ne e z exo_tbl), upd_ne (ne_of_none z dfree), z]; simp⟩ }
  refine k dx _ dfree dne (I.un (t' := tkb) U fun b o z => ?_)
  by_cases w : b = a
  · subst w
    rw [upd_same] at z
    cases z
    exact exo_ok gxb
  · rw [upd_ne w] at z
    by_cases w2 : b = dx
    · subst w2
      rw [upd_same] at z
      cases z
      exact exd_ok hn (relO_put (fs := []) ry fun g => True.intro)
    · rw [upd_ne w2] at z
      refine (I.hok b o z).stay (fun c v hc zz => kk c v ?_ zz) (fun c hc => ?_) (fun c xs hc => ?_)
      · rcases hc with hc | hc
        · rw [hc]
          exact w
        · exact at_ne e hc exo_own
      · rw [upd_ne (at_ne e hc exo_own), upd_ne (ne_of_none hc dfree)]
        exact hc
      · rw [upd_ne (at_ne e hc exo_tup), upd_ne (ne_of_none hc dfree)]
        exact hc
/-- ArithmeticError.__init__(self, ..) -/
theorem initA {us : List Value} {Q : Value → Shared → Prop} (T : OwnA X.K ca cs) (I : Inv X pins σ H s) (e : H a = some (exo a ca none)) (hl : us.length ≤ sizeLine) (k : ∀ s', Inv X pins σ H s' → Q .none s') :
    wpAny (model X.prog X.w) A (call (.builtin "ArithmeticError.__init__") (.ref a :: us)) Q E s := by
  obtain ⟨nm, q, N, bs, sn, sub, ab, col, dd, k0, k1, k2, k3, k5, lk⟩ := T.cls
  obtain ⟨t1, go⟩ := exo_at I.hok e
  obtain ⟨hp, g, d, t, os⟩ := s
  refine wpAny_call (PySem.HandSPX.init_base PySem.F.excBase_ArithmeticError (ae_has cs) (I.kIn _ _ lk) go hl fun hb t2 kk gx => ?_)
  have J := I.write (t' := t) (x := a) (e := a) (o := exo a ca none) (by rw [e]; exact True.intro) (.inl rfl) kk ⟨_, gx⟩ (exo_ok gx)
  have same : upd H a (exo a ca none) = H := funext fun b => by
    by_cases w : b = a
    · rw [w, upd_same, e]
    · rw [upd_ne w]
  rw [same] at J
  exact k _ J
end
/-- Base.__init__(self, ..) -/
def tInitA (K : PySem.W.Frag) (ta : TA) : TE := fun σ H Q => ta σ H fun vs H1 => ∃ (a ca cs : Addr) (ws : List V), vs = .ref a :: ws ∧ ws.length ≤ 1000 ∧ OwnA K ca cs ∧ H1 a = some (exo a ca none) ∧ Q .non H1
/-- self.f = e -/
def tOstA (K : PySem.W.Frag) (f : Str) (to te : TE) : TS := fun D σ H => te σ H fun y H1 => to σ H1 fun x H2 => ∃ a ca cs : Addr, x = .ref a ∧ OwnA K ca cs ∧ PySem.W.findIn K (.ref ca) f = some none ∧
  H2 a = some (exo a ca none) ∧ ∀ dx, H2 dx = none → dx ≠ a → D.nx σ (upd (upd H2 dx (exd dx [(f, y)])) a (exo a ca (some dx)))
section
variable {X : Cx} {o e : Expr} {es : List Expr} {to te : TE} {ta : TA} {f B : Str} {p p' p1 p2 pos : Pos} {cs : Addr} {mc : Value}
theorem pe_initA {pl : Sem Bool} (hg : Gl X B) (hm : X.mg B = some (.ref cs)) (rd : PySem.W.readsIn X.K cs mc = true) (ga : PySem.W.specialIn X.K (.ref cs) "__getattribute__" = some (some (.builtin "type.__getattribute__")))
    (fi : PySem.W.findCls X.K (.ref cs) mc "__init__" = some (.val (.builtin "ArithmeticError.__init__"))) (ha : PA X (e :: es) ta) (hdb : (B == ("__debug__" : Str)) = false := by decide)
    (hc : eval (.Call (.Attribute (.Name B p1) "__init__" p2) (e :: es) [] pos) X.env = (do
      let b ← eval (.Name B p1) X.env
      standAt p2.atName
      let (g, fst) ← holding [b] (getMethod b "__init__" pl)
      callWith pos g fst (backTo pos (starEach (e :: es) X.env)) (backToKw pos (keywordEach [] X.env))) := by rfl)
    (he : starEach (e :: es) X.env = (false, eval e X.env) :: starEach es X.env := by rfl) (hpl : (backTo pos (starEach es X.env)).any (·.1) = false := by rfl) :
    PE X (.Call (.Attribute (.Name B p1) "__init__" p2) (e :: es) [] pos) (tInitA X.K ta) := by
  refine ⟨fun pins s σ H Q I h => ?_⟩
  refine PySem.W.methodCall_KW (ld_glob I hg hm ?_ hdb) hc
  refine PySem.W.method_cls I.kIn ga (PySem.W.cls_value I.kIn rd fi rfl ?_)
  show wpAny _ _ (callWith pos (Value.builtin "ArithmeticError.__init__") [] (backTo pos (starEach (e :: es) X.env)) []) _ _ _
  refine PyProof.Rows.callWith_method1 (thn (ha.run pos pins _ σ H _ (I.tok _) h) fun us s1 ⟨vs, H1, I1, r1, a, ca, cs', ws, ev, hl, T, ea, q⟩ => ?_) he hpl
  subst ev
  cases r1 with
  | @cons _ u0 _ ur ra rw' =>
    obtain rfl : u0 = Value.ref a := ra
    exact initA T I1 ea (by rw [← Paired.length rw', sizeLine_eq]; omega) fun s' J => ⟨.non, H1, J, rfl, q⟩
theorem ps_ostA (ho : PE X o to) (he : PE X e te) (hs : swapsWith e (some (.Attribute o f p')) pos.line X.env = pure false := by rfl) : PS X (.Assign [.Attribute o f p'] e pos) (tOstA X.K f to te) := by
  refine ⟨fun pins s σ H D I h => ?_⟩
  refine plainObj_wpAny_Assign_Attribute (thn (he.run pins s σ H _ I h) fun v s1 ⟨y, H1, I1, r1, q1⟩ => thn (ho.run pins s1 σ H1 _ I1 q1) fun u s2 ⟨x, H2, I2, r2, a, ca, cs, ex, T, hno, ea, q⟩ => ?_) hs
  subst ex
  obtain rfl : u = Value.ref a := r2
  exact ostA T I2 ea hno r1 fun dx s' n ne J => ⟨σ, _, J, q dx n ne⟩
end
/-- C(e, ..), C's own __init__ keeping sp -/
def tMkA (ca : Addr) (sp : Sp) (ta : TA) : St → Hp → XK → Prop := fun σ H Q => ta σ H fun vs H1 => vs.length ≤ 1000 ∧ ∀ a, H1 a = none → sp (.ref a :: vs) (upd H1 a (exo a ca none))
  (fun v H2 => v = .non ∧ ∃ (d : Addr) (fs : List (Str × V)), H2 a = some (exo a ca (some d)) ∧ H2 d = some (exd d fs) ∧ H1 d = none ∧ Q (.ref ca) (some d) (upd (del H2 a) d (.xd fs))) (fun _ _ _ => False)
theorem pmk_ownA {X : Cx} {CX : CXT} {x : Str} {e : Expr} {es : List Expr} {ta : TA} {p pos : Pos} {ca cs fi : Addr} {k : Nat} {fd : FuncData} {ps : List Str} {sp : Sp} (T : OwnA X.K ca cs) (iC : PySem.W.findIn X.K (.ref ca) "__init__" = some (some (.ref fi))) (tI : PySem.W.typeIn X.K (.ref fi) = some (.type "function"))
    (F1 : FnOk X.prog X.w X.K X.mg X.base CX k fi fd ps sp) (hr : Room (k + 1) X.A) (hb : Binds X.K fd ps []) (hx : Passes CX X (fun _ _ _ => False)) (hg : Gl X x) (hm : X.mg x = some (.ref ca)) (ha : PA X (e :: es) ta)
    (hdb : (x == ("__debug__" : Str)) = false := by decide) (he : starEach (e :: es) X.env = (false, eval e X.env) :: starEach es X.env := by rfl) (hpl : (backTo pos (starEach es X.env)).any (·.1) = false := by rfl) :
    PMk X (.Call (.Name x p) (e :: es) [] pos) (tMkA ca sp ta) := by
  intro pins s σ H Q I h
  obtain ⟨nm, q, N, bs, sn, sub, ab, col, dd, k0, k1, k2, k3, k5, lk⟩ := T.cls
  refine wpAny_Call_Name_kw (ld_glob I hg hm ?_ hdb)
  refine PySem.W.callWith_K (h₀ := X.base) I.ok.mod.kin T.kp (thn (ha.run pos pins s σ H _ I h) fun us s1 ⟨vs, H1, I1, r1, hz, q1⟩ => ⟨I1.kIn, ?_⟩) he hpl
  show wpAny _ _ (call (.ref ca) us) _ _ _
  obtain ⟨hp, g, dr, tk, os⟩ := s1
  have big : hp.objs.size ≤ hp.objs.size + 1 := Nat.le_succ _
  have hq := q1 (hp.objs.size + 1) (I1.hok.fresh big)
  have kk : ∀ b o, hp.get? b = some o → ((hp.push (PySem.W.kdv_tup us)).push (PySem.HandSPX.excO ca hp.objs.size)).get? b = some o := fun b o z => Heap.get?_push_of_some _ (Heap.get?_push_of_some _ z)
  have atE : ((hp.push (PySem.W.kdv_tup us)).push (PySem.HandSPX.excO ca hp.objs.size)).get? (hp.objs.size + 1) = some (PySem.HandSPX.excO ca hp.objs.size) := by heap_get
  have I2 := I1.laid (t' := tk) (a := hp.objs.size + 1) (o := exo (hp.objs.size + 1) ca none) (h' := (hp.push (PySem.W.kdv_tup us)).push (PySem.HandSPX.excO ca hp.objs.size)) kk big (exo_ok atE)
  have r2 : Vals (V.ref (hp.objs.size + 1) :: vs) (Value.ref (hp.objs.size + 1) :: us) := .cons rfl r1
  have hl : (Value.ref (hp.objs.size + 1) :: us).length = ps.length := by
    have z := r2.length
    rw [F1.len _ _ _ _ hq] at z
    exact z.symm
  have hus : us.length ≤ sizeLine := by
    rw [← Paired.length r1, sizeLine_eq]
    omega
  have hbd := hb _ (Value.ref (hp.objs.size + 1) :: us) I2.kIn (by rw [List.append_nil]; exact hl)
  rw [List.append_nil] at hbd
  refine wpAny_call (PySem.HandSPX.call_own PySem.F.excBase_ArithmeticError (ae_has cs) (I1.kIn _ _ lk) (PySem.W.looks_findIn I1.kIn iC) (fun self => PySem.W.bind_fn I1.kIn self tI) hus
    (codeAny_mono (F1.run _ X.stack _ _ ⟨Value.ref (hp.objs.size + 1) :: us, []⟩ (Value.ref (hp.objs.size + 1) :: us) _ _ (fun _ _ _ => False) (hr.make ca us []) (I2.env0.make ca us []) hbd r2 hq) fun r s' hq' => ?_))
  cases r with
  | error er => exact hx pins σ _ _ er s' I2 hq'
  | ok fl =>
    cases fl with
    | ret u =>
      obtain ⟨v, H2, os2, bare2, un2, hok2, rv, ev, d, fs, ea, ed, hd1, q2⟩ := hq'
      subst ev
      obtain ⟨h2, g2, d2, t2, os'⟩ := s'
      exact ⟨rv, mk_end (raises_own T.ex T.ty) I1 big kk un2 hok2 os2 bare2 ea ed hd1 q2⟩
    | next => exact False.elim hq'
    | brk => exact False.elim hq'
    | cont => exact False.elim hq'
end L2
namespace PySem
namespace SbE
open PySem PySem.Spec PySem.W PySem.Calls PyProof.Rows
section
variable {pg : Program} {wd : World} {Ar : Around} {En : Value → Shared → Prop} {st : Shared} {K : Frag} {xa D : Addr} {ob : Obj} {od : Option Obj}
theorem obj_data {nam : Str} {p g : Value} (hc : (clsIn K D).isSome = true) (h1 : findIn K (.ref D) nam = some (some p)) (h2 : specialIn K p "__get__" = some (some g)) (h3 : takesIn K p = some true) : findObj K D od nam = some (.bind g p) := by
  obtain ⟨kd, hc⟩ := Option.isSome_iff_exists.mp hc
  unfold findObj
  rw [hc, Option.bind_some, h1, Option.bind_some]
  simp [h2, h3]
/-- e.__class__, e an exception with a dict or without -/
theorem cls_exc {Q : Option Value → Shared → Prop} (h1 : findIn K (.ref D) "__getattribute__" = some (some (.builtin "BaseException.__getattribute__"))) (h2 : findIn K (.ref D) "__getattr__" = some none) (h3 : subIn K (.ref D) (.type "BaseException") = some true)
    (h4 : hasDictIn K D = true) (h5 : findIn K (.ref D) "__class__" = some (some (.builtin "object.__class__"))) (h6 : specialIn K (.builtin "object.__class__") "__get__" = some (some (.builtin "getset_descriptor.__get__"))) (h7 : takesIn K (.builtin "object.__class__") = some true)
    (h8 : mroIn K D (.type "object") = some true) (Y : K.In st.heap) (J : InstAt st.heap xa ob D od) (h : Q (some (.ref D)) { st with toks := st.toks + 1 }) : wpAny (model pg wd) Ar (getAttr? (.ref xa) "__class__") Q En st := by
  have fo : findObj K D od "__class__" = some (.bind (.builtin "getset_descriptor.__get__") (.builtin "object.__class__")) := obj_data (by obtain ⟨kd, hc, _⟩ := any_some h4; rw [hc]; rfl) h5 h6 h7
  obtain ⟨hh, g, d, t, os⟩ := st
  have T0 := J.type (M := model pg wd)
  have T1 := looks_findIn (M := model pg wd) Y h1
  have T2 := looks_findIn (M := model pg wd) Y h2
  have T3 := looks_find (M := model pg wd) Y J fo
  have sb : Looks (model pg wd) hh (isInstance (.ref xa) (.type "BaseException")) true := T0.andThen (looks_subIn Y h3)
  have z0 : (false && onTheHeap (Value.builtin "BaseException.__getattribute__")) = false := rfl
  have z2 : (Value.builtin "BaseException.__getattribute__" == Value.builtin "object.__getattribute__") = false := by decide +kernel
  have z1 : (onTheHeap (Value.ref D) && Value.builtin "BaseException.__getattribute__" == Value.builtin "object.__getattribute__") = false := by rw [z2]; rfl
  unfold getAttr? getAttrBy? getAttrBy
  refine wpAny_bind (wpAny_mkText (wpAny_bind (wpAny_attempt (wpAny_holding (wpAny_bind (T0.at (wpAny_bind (T1.at ?_))))))))
  show wpAny (model pg wd) _ (if (onTheHeap (Value.ref D) && Value.builtin "BaseException.__getattribute__" == Value.builtin "object.__getattribute__") = true then _ else _) _ _ _
  rw [z1, if_neg Bool.false_ne_true]
  unfold getAttrByItsOwn hookBefore
  refine wpAny_bind ?_
  rw [if_pos (show onTheHeap (Value.ref D) = true from rfl)]
  refine T2.at ?_
  refine wpAny_bind (wpAny_attempt (wpAny_holding ?_))
  unfold callGetattribute
  rw [z0, if_neg Bool.false_ne_true]
  unfold boundAndCalled
  rw [PySem.F.excAttr_ValueError.ga.bind (.ref xa)]
  refine wpAny_bind (wpAny_pure ?_)
  show wpAny (model pg wd) _ (call (.builtin "BaseException.__getattribute__") [.ref xa, .str "__class__" t]) _ _ _
  refine wpAny_call (codeAny_call_builtin PySem.F.excAttr_ValueError.ga.plain PySem.F.entry_bexc_ga ?_)
  refine @check_slot (model pg wd) _ _ ⟨hh, g, d, t + 1, os⟩ "BaseException.__getattribute__" "BaseException" "__getattribute__" (.ref xa) [.str "__class__" t] [] _ (by decide +kernel) (by decide +kernel) sb (PySem.F.args_bexc_ga (.ref xa) (.str "__class__" t)) ?_
  unfold Builtin.«object.__getattribute__»
  refine wpAny_bind (wpAny_of_eq (a := ((Value.ref xa : Value), [Value.str "__class__" t])) (by first | rfl | (simp only [slotArgs]; rfl)) ?_)
  refine wpAny_bind (wpAny_pure (wpAny_bind (T0.at (wpAny_bind (T3.at ?_)))))
  show wpAny (model pg wd) _ (holding [Value.builtin "object.__class__"] (call (.builtin "getset_descriptor.__get__") [.builtin "object.__class__", .ref xa, .ref D]) >>= ret) _ _ _
  refine wpAny_bind (wpAny_holding (wpAny_call (class_get (s := ⟨hh, g, d, t + 1, os⟩) (ox := ob) (od := od) Y J h8 ?_)))
  refine wpAny_pure ?_
  show wpAny (model pg wd) _ (handedOut (.ref D)) _ _ _
  rw [handedOut_of (v := .ref D) rfl]
  first
    | exact wpAny_pure (wpAny_pure h)
    | exact wpAny_pure h
    | exact wpAny_pure (wpAny_bind (wpAny_pure (wpAny_pure h)))
theorem kit_exc (h1 : findIn K (.ref D) "__getattribute__" = some (some (.builtin "BaseException.__getattribute__"))) (h2 : findIn K (.ref D) "__getattr__" = some none) (h3 : subIn K (.ref D) (.type "BaseException") = some true) (h4 : hasDictIn K D = true)
    (h5 : findIn K (.ref D) "__class__" = some (some (.builtin "object.__class__"))) (h6 : specialIn K (.builtin "object.__class__") "__get__" = some (some (.builtin "getset_descriptor.__get__"))) (h7 : takesIn K (.builtin "object.__class__") = some true) (h8 : mroIn K D (.type "object") = some true) :
    KitX K (.ref xa) (.ref D) (fun hh => InstAt hh xa ob D od) := by
  obtain ⟨kd, hc, _⟩ := any_some h4
  have at_ : ∃ c' d' sl', K.lookup D = some ⟨c', d', .cls kd, sl'⟩ := by
    unfold clsIn at hc
    split at hc
    · rename_i c' d' cd' sl' ho
      cases hc
      exact ⟨c', d', sl', ho⟩
    · cases hc
  obtain ⟨c', d', sl', lk⟩ := at_
  refine ⟨fun _ _ _ J => J.type, fun _ _ Y _ A' Q' E' s' k q => ?_, fun hh tp dd its n sl Y gt => ?_, fun Y J k => cls_exc h1 h2 h3 h4 h5 h6 h7 h8 Y J k⟩
  · unfold isType loadHead
    exact wpAny_bind (wpAny_loadPart (k _ _ (Y _ _ lk)) (wpAny_pure q))
  · refine Bool.eq_false_iff.mpr fun q => ?_
    have e : D = tp := Value.ref.inj (beq_iff_eq.mp q)
    subst e
    have z := (Y _ _ lk).symm.trans gt
    cases z
end
end SbE
end PySem
namespace L2
open PySem PySem.Spec PyProof.Rows PySem.SbE
/-- isinstance(e, c), e the exception that the suite holds, with fields or without -/
def rIsA (K : PySem.W.Frag) (cls : Value) (d : Option Addr) (a : Addr) : List V → Hp → VK → Prop := fun xs H Q => ∃ (D : Addr) (c : V) (cv : Value) (b : Bool), cls = .ref D ∧ ExcC K D ∧ xs = [.ref a, c] ∧ (∀ u, RelV c u → u = cv) ∧ PySem.W.kitOne K (.ref D) cv = some b ∧
  (d = none ∨ ∃ dd fs, d = some dd ∧ H dd = some (.xd fs)) ∧ Q (.bl b) H
theorem call_isA {X : Cx} {a : Addr} {cls : Value} {d : Option Addr} {oe : Obj} {pn : List (Addr × Obj)} (hz : Zc cls d oe) (hf : ∃ vs, oe.data = .fields vs) : CallR (X.suite a ((a, oe) :: pn)) (.builtin "isinstance") (rIsA X.K cls d a) := by
  intro pins s σ H xs us Q I r h
  obtain ⟨D, c, cv, b, ec, C, ex, hcv, e, hd, q⟩ := h
  subst ec ex
  cases r with
  | cons rx rr =>
    cases rr with
    | cons rt rr =>
      cases rr
      cases rx
      have ev := hcv _ rt
      subst ev
      obtain ⟨at_, _⟩ := I.pin (a, oe) (List.mem_append.mpr (.inl List.mem_cons_self))
      obtain ⟨vs, hv⟩ := hf
      have nc : PySem.W.notCls oe = true := by
        unfold PySem.W.notCls
        rw [hv] <;> rfl
      obtain ⟨od, J⟩ : ∃ od, PySem.W.InstAt s.heap a oe D od := by
        rcases hd with hd | ⟨dd, fs, hd, hx⟩
        · exact ⟨none, at_, hz.1, nc, by rw [hz.2, hd]; trivial⟩
        · have hok : ObjOk X.prog X.w H s.heap dd (.xd fs) := I.hok dd _ hx
          obtain ⟨mA, hns, _⟩ := hok
          obtain ⟨od, ho, _⟩ := lookIn_ns hns
          exact ⟨some od, at_, hz.1, nc, by rw [hz.2, hd]; exact ho⟩
      exact PySem.W.kia_one (kit_exc C.hg C.hk C.hs C.hd C.ha C.hn C.ht C.hm) I.kIn J e (fun z => nomatch z) fun tk => ⟨.bl b, H, I.kept (t' := tk) fun _ _ z => z, rfl, q⟩
end L2
namespace LamX
open PySem PySem.Spec PyProof.Rows L2
section
variable {X : Cx} {pins : List (Addr × Obj)} {σ : L2.St} {H : Hp} {s : Shared}
/-- x(), what it lets out told at the slots of the def that got the lambda -/
theorem act_at {CXg : CXT} {Eg : XK} {Ng : List Str} {qg : Str} {sg : Scope} {g f c' : Addr} {cdg pm ctv : Value} {params : Arguments} {body : Expr} {scope : Scope} {k i : Nat} {a : Str} {pn : List (Addr × Obj)} {xe : Value → Shared → Prop} {W : WX} {tb : XK → TE} {p1 p2 : Pos}
    (I : Inv X pins σ H s) (L : LamS X.env.scope scope) (hf : s.heap.get? f = some (PySem.W.kla_obj "<lambda>" (X.env.qual ++ "<lambda>") params body scope (cloFrom X.env.cells scope.names []) pm c' ctv)) (hfn : H f = none) (hfr : f ∉ frs X.stack)
    (hbind : bindArgs (PySem.W.kla_fn "<lambda>" (X.env.qual ++ "<lambda>") params body scope (cloFrom X.env.cells scope.names []) pm (.ref c') ctv) ⟨[], []⟩ = pure [])
    (tk : Takes ((cxOf CXg X.prog X.w X.K X.mg X.base Ng qg sg g cdg X.A X.stack s H Eg).tr pn xe) W) (hr : Room (k + 1) (X.A.deeper (envOfC qg sg s.heap.objs.size g cdg)))
    (hbody : ∀ (A : Around) (outer : List Env) (s : Shared) (H : Hp) (E : XK), Room k (A.deeper (lamEnv X scope s.heap.objs.size f c')) → PE (lamCx X A outer s H E scope f c') body (tb E))
    (hN : Ng[i]? = some a) (hv : Vis sg a) (hd : (a == ("__debug__" : Str)) = false := by decide) (hcd : (a == ("__classdict__" : Str)) = false := by decide) :
    PE ((cxOf CXg X.prog X.w X.K X.mg X.base Ng qg sg g cdg X.A X.stack s H Eg).tr pn xe) (.Call (.Name a p1) [] [] p2)
      (fun τ G Q => τ[i]? = some (some (.ref f)) ∧ G c' = some (CodeO c' (X.env.qual ++ "<lambda>")) ∧ tb (WE W τ) σ G Q) := by
  refine ⟨fun pz sz τ G Q J h => ?_⟩
  obtain ⟨hs, hc, ht⟩ := h
  refine wpAny_Call_Name_kw (thn ((pe_var (pos := p1) (i := i) hN hv hd hcd).run pz sz τ G (fun v G1 => v = .ref f ∧ G1 = G) J ⟨.ref f, hs, rfl, rfl⟩) fun u s1 ⟨v, G1, J1, r1, q1⟩ => ?_)
  obtain ⟨ev, eG⟩ := q1
  subst ev
  rw [eG] at J1
  obtain rfl : u = Value.ref f := r1
  have fat := J1.base.keep f _ hf hfn hfr (fun z => nomatch (show f ∈ ([] : List Addr) from z))
  refine PySem.W.callWith_F0 ⟨_, _, _, _, fat⟩ ?_
  have un : Un (frs X.stack) [] H G s.heap s1.heap := J1.base
  obtain ⟨⟨oc, vs, t, hoc, hdc, hvc⟩, _, _⟩ := J1.hok c' _ hc
  have rc : codeAny (model X.prog X.w) (X.A.deeper (envOfC qg sg s.heap.objs.size g cdg)) (.call (.ref f) ⟨[], []⟩) (CR (L2.CX X.prog X.w) (envOfC qg sg s.heap.objs.size g cdg :: X.stack) X.prog X.w G s1 Q (WE W τ)) s1 := by
    refine PySem.W.kla_callFunE hr.depth fat rfl L.co L.gen rfl ⟨c', oc, vs, t, rfl, hoc, hdc, hvc⟩ ?_
    rw [hbind]
    refine wpAny_pure (wpAny_newFunctionEnv (fun y hy => (L.own y hy).2) (fun y hy => absurd hy (by simp)) (fun hz hns hsb => ⟨J1.nolimit.fresh _ hsb, ?_⟩) L.kind)
    show codeAny _ _ (.expr body (lamEnv X scope s1.heap.objs.size f c')) _ _
    have kp : ∀ b o, s1.heap.get? b = some o → hz.get? b = some o := fun b o e => hsb.extBut b o (Nat.ne_of_lt (Heap.lt_size e)) (Heap.get?_push_of_some _ e)
    have JL : Inv (lamCx X (X.A.deeper (envOfC qg sg s.heap.objs.size g cdg)) (envOfC qg sg s.heap.objs.size g cdg :: X.stack) s1 G (WE W τ) scope f c') [] σ G { s1 with heap := hz, toks := s1.toks + ([] : List (Str × Value)).length } :=
      lam_start2 I L J1.env0 hr.hd un hns kp
    refine PySem.W.kla_codeExpr (wpAny_mono ((hbody _ _ s1 G (WE W τ) (hr.deeper _)).run [] _ _ G Q JL ht) (fun v s' hq => ?_) fun e s' hq => hq)
    obtain ⟨w', G', J', rv, q⟩ := hq
    exact ⟨w', G', J'.os, J'.bare, J'.base, J'.hok, rv, q⟩
  have pass := passAt tk τ
  refine wpAny_call (codeAny_mono rc fun r s' hq => ?_)
  cases r with
  | error e => exact pass pz G s1 e s' J1 hq
  | ok fl =>
    cases fl with
    | ret u => exact J1.after hq
    | next => exact False.elim hq
    | brk => exact False.elim hq
    | cont => exact False.elim hq
end
/-- the def that calls what it got, a exception told at its slots; TT: what it makes of the lambda's reading -/
def GivesAt (X : Cx) (Ng : List Str) (x : Str) (sg : Scope) (g : Addr) (cdg : Value) (bg : List Stmt) (a : Str) (q : Str) (TT : (XK → Hp → VK → Prop) → Hp → VK → Prop) : Prop :=
  ∀ (f c' : Addr) (s : Shared) (H : Hp) (Q : VK) (tl : XK → Hp → VK → Prop),
    (∀ (W : WX) (pn : List (Addr × Obj)) (xe : Value → Shared → Prop) (p1 p2 : Pos), Takes ((cxOf C8.CX0 X.prog X.w X.K X.mg X.base Ng x sg g cdg X.A X.stack s H C8.E0).tr pn xe) W →
      PE ((cxOf C8.CX0 X.prog X.w X.K X.mg X.base Ng x sg g cdg X.A X.stack s H C8.E0).tr pn xe) (.Call (.Name a p1) [] [] p2) (fun τ G Q => τ[0]? = some (some (.ref f)) ∧ G c' = some (CodeO c' q) ∧ tl (WE W τ) G Q)) →
    H c' = some (CodeO c' q) → TT tl H Q →
    ∃ t, PSs (cxOf C8.CX0 X.prog X.w X.K X.mg X.base Ng x sg g cdg X.A X.stack s H C8.E0).nox bg t ∧ t { nx := fun _ H' => Q .non H', rt := Q } (L2.start Ng [.ref f]) H
section
variable {X : Cx}
/-- x(lambda: body) -/
theorem pe_lamAt {T : List (Addr × Str)} {TT : (XK → Hp → VK → Prop) → Hp → VK → Prop} {x a : Str} {g c P : Addr} {k : Nat} {pg : Arguments} {bg : List Stmt} {sg : Scope} {dV kV doc pm cdv ct oc : Value} {an od : Option Addr} {osl : Array (Option Value)} {Ng : List Str}
    {params : Arguments} {body : Expr} {scope : Scope} {t : XK → TE} {p lpos pos : Pos} (hg : Gl X x) (hm : X.mg x = some (.ref g)) (hk : PySem.W.keepIn X.K (.ref g) = true)
    (lk : X.K.lookup g = some ⟨oc, od, .func (PySem.W.fnOf x x pg bg sg dV kV doc pm an cdv ct), osl⟩) (hcg : PySem.W.codeIn X.K cdv x = true) (hb : L2.Binds X.K (PySem.W.fnOf x x pg bg sg dV kV doc pm an cdv ct) [a] []) (Sg : FnScope Ng [a] sg) (hNg : Ng[0]? = some a) (hva : Vis sg a)
    (hG : GivesAt X Ng x sg g cdv bg a (X.env.qual ++ "<lambda>") TT)
    (TB : TabB X.base X.mg c P) (hcode : X.env.code = .ref c) (hmT : (P, X.env.qual ++ "<lambda>") ∈ T) (hu : ∀ p ∈ T, p.1 = P → p.2 = X.env.qual ++ "<lambda>") (hr : Room (k + 2) X.A) (L : LamS X.env.scope scope) (hdef : defaultsOf params X.env = ([], []))
    (hbind : ∀ (q : Str) (cl : List (Str × Addr)) (pm cv ctv : Value), bindArgs (PySem.W.kla_fn "<lambda>" q params body scope cl pm cv ctv) ⟨[], []⟩ = pure [])
    (hbody : ∀ (A : Around) (outer : List Env) (s : Shared) (H : Hp) (E : XK) (f c' : Addr), Room k (A.deeper (lamEnv X scope s.heap.objs.size f c')) → PE (lamCx X A outer s H E scope f c') body (t E))
    (hdb : (x == ("__debug__" : Str)) = false := by decide) (hd : (a == ("__debug__" : Str)) = false := by decide) (hcd : (a == ("__classdict__" : Str)) = false := by decide) :
    PE X (.Call (.Name x p) [.Lambda params body scope lpos] [] pos) (tLam T TT t) := by
  refine ⟨fun pins s σ H Q I h => ?_⟩
  obtain ⟨hT, h⟩ := h
  refine wpAny_Call_Name_kw (ld_glob I hg hm ?_ hdb)
  refine PySem.W.callWith_K (h₀ := X.base) I.ok.mod.kin hk ?_ (by rfl) (by rfl)
  show wpAny (model X.prog X.w) _ (spliced ((false, eval (.Lambda params body scope lpos) X.env) :: backTo pos (starEach [] X.env))) _ _ s
  refine Calls.spliced_cons (lam_make2 I TB hcode hmT hu hT hdef (L.has I.ok) fun f c' pm' ctv H1 s' I1 eN T1 hf hfn hfr hco => ?_)
  refine Calls.spliced_nil ⟨I1.kIn, ?_⟩
  have rc : codeAny (model X.prog X.w) X.A (.call (.ref g) ⟨[.ref f], []⟩) (CR C8.CX0 X.stack X.prog X.w H1 s' Q C8.E0) s' :=
    run_ofS (N := Ng) (ps := [a]) (us := [.ref f]) (vs := [.ref f]) lk hcg Sg hr I1.env0 (hb s' [.ref f] I1.kIn rfl) (.cons rfl .nil) rfl fun hr' => by
      obtain ⟨t', ht', hq'⟩ := hG f c' s' H1 Q (fun E H' Q' => t E σ H' Q') (fun W pn xe p1 p2 tk => act_at (i := 0) I1 L hf hfn hfr (hbind _ _ _ _ _) tk hr' (fun A outer s H E hr2 => hbody A outer s H E f c' hr2) hNg hva hd hcd) hco (h H1 eN T1)
      exact ⟨t', ht'.nox, hq'⟩
  refine wpAny_call (codeAny_mono rc fun r s2 hq => ?_)
  cases r with
  | error e => exact (show False from hq).elim
  | ok fl =>
    cases fl with
    | ret u => exact I1.after hq
    | next => exact False.elim hq
    | brk => exact False.elim hq
    | cont => exact False.elim hq
end
end LamX
namespace L2
open PySem PySem.Spec PyProof.Rows PySem.SbE
/-! facts of the classes as truths that the kernel reckons -/
def fiB (K : PySem.W.Frag) (C : Addr) : Bool := match PySem.W.findCls K (.ref C) (.type "type") "__init__" with
  | some (.val v) => decide (v = .builtin "ArithmeticError.__init__")
  | _ => false
theorem fiB_ok {K : PySem.W.Frag} {C : Addr} (h : fiB K C = true) : PySem.W.findCls K (.ref C) (.type "type") "__init__" = some (.val (.builtin "ArithmeticError.__init__")) := by
  unfold fiB at h
  split at h
  · rename_i v e
    rw [e, of_decide_eq_true h]
  · cases h
def ownK (C CS : Addr) : Obj → Bool
  | ⟨.type m, _, .cls kd, sl⟩ => decide (m = "type") && (decide (kd.mro = .ref C :: .ref CS :: aeT) && (kd.hasDict && (!kd.hasDel && match sl.toList with
    | [_, _, _, _, some (.builtin n), _] => decide (n = "ArithmeticError.__new__")
    | _ => false)))
  | _ => false
theorem ownK_ok {C CS : Addr} {o : Obj} (h : ownK C CS o = true) : ∃ nm q N bs sn sub ab col dd k0 k1 k2 k3 k5, o = excClassObj nm q C N bs (.ref CS :: aeT) true sn sub ab col dd k0 k1 k2 k3 k5 "ArithmeticError.__new__" := by
  obtain ⟨oc, od, dt, sl⟩ := o
  cases oc with
  | type m =>
    cases dt with
    | cls kd =>
      obtain ⟨h1, h⟩ := Bool.and_eq_true_iff.mp h
      obtain ⟨h2, h⟩ := Bool.and_eq_true_iff.mp h
      obtain ⟨h3, h⟩ := Bool.and_eq_true_iff.mp h
      obtain ⟨h4, h5⟩ := Bool.and_eq_true_iff.mp h
      have e1 := of_decide_eq_true h1
      have e2 := of_decide_eq_true h2
      obtain ⟨nm, bs, mro, ns, qn, hd, sn, sub, ab, col, del⟩ := kd
      dsimp only at h3 h4 e2
      have e4 : del = false := by
        cases del
        · rfl
        · cases h4
      subst e1 e2 h3 e4
      obtain ⟨l⟩ := sl
      dsimp only at h5
      obtain ⟨k0, k1, k2, k3, k5, e6⟩ : ∃ k0 k1 k2 k3 k5, l = [k0, k1, k2, k3, some (.builtin "ArithmeticError.__new__"), k5] := by
        split at h5
        · exact ⟨_, _, _, _, _, by rw [of_decide_eq_true h5]⟩
        · cases h5
      subst e6
      exact ⟨nm, qn, ns, bs, sn, sub, ab, col, od, k0, k1, k2, k3, k5, rfl⟩
    | _ => cases h
  | _ => cases dt <;> cases h
def ownB (K : PySem.W.Frag) (C CS : Addr) : Bool := (match K.lookup C with
  | some o => ownK C CS o
  | none => false) && (decide (PySem.W.findIn K (.ref C) "__setattr__" = some (some (.builtin "object.__setattr__"))) && (decide (PySem.W.subIn K (.ref C) (.type "BaseException") = some true) && (decide (PySem.W.typeIn K (.ref C) = some (.type "type")) && PySem.W.keepIn K (.ref C))))
theorem ownB_ok {K : PySem.W.Frag} {C CS : Addr} (h : ownB K C CS = true) : OwnA K C CS := by
  obtain ⟨h1, h⟩ := Bool.and_eq_true_iff.mp h
  obtain ⟨h2, h⟩ := Bool.and_eq_true_iff.mp h
  obtain ⟨h3, h⟩ := Bool.and_eq_true_iff.mp h
  obtain ⟨h4, h5⟩ := Bool.and_eq_true_iff.mp h
  refine ⟨?_, of_decide_eq_true h2, of_decide_eq_true h3, of_decide_eq_true h4, h5⟩
  cases e : K.lookup C with
  | none =>
    rw [e] at h1
    cases h1
  | some o =>
    rw [e] at h1
    obtain ⟨nm, q, N, bs, sn, sub, ab, col, dd, k0, k1, k2, k3, k5, eo⟩ := ownK_ok h1
    exact ⟨nm, q, N, bs, sn, sub, ab, col, dd, k0, k1, k2, k3, k5, by rw [eo]⟩
def ecB (K : PySem.W.Frag) (D : Addr) : Bool := decide (PySem.W.findIn K (.ref D) "__getattribute__" = some (some (.builtin "BaseException.__getattribute__"))) && (decide (PySem.W.findIn K (.ref D) "__getattr__" = some none) && (decide (PySem.W.subIn K (.ref D) (.type "BaseException") = some true) && (PySem.W.hasDictIn K D && (decide (PySem.W.findIn K (.ref D) "__class__" = some (some (.builtin "object.__class__"))) &&
  (decide (PySem.W.specialIn K (.builtin "object.__class__") "__get__" = some (some (.builtin "getset_descriptor.__get__"))) && (decide (PySem.W.takesIn K (.builtin "object.__class__") = some true) && decide (PySem.W.mroIn K D (.type "object") = some true)))))))
theorem ecB_ok {K : PySem.W.Frag} {D : Addr} (h : ecB K D = true) : ExcC K D := by
  obtain ⟨h1, h⟩ := Bool.and_eq_true_iff.mp h
  obtain ⟨h2, h⟩ := Bool.and_eq_true_iff.mp h
  obtain ⟨h3, h⟩ := Bool.and_eq_true_iff.mp h
  obtain ⟨h4, h⟩ := Bool.and_eq_true_iff.mp h
  obtain ⟨h5, h⟩ := Bool.and_eq_true_iff.mp h
  obtain ⟨h6, h⟩ := Bool.and_eq_true_iff.mp h
  obtain ⟨h7, h8⟩ := Bool.and_eq_true_iff.mp h
  exact ⟨of_decide_eq_true h1, of_decide_eq_true h2, of_decide_eq_true h3, h4, of_decide_eq_true h5, of_decide_eq_true h6, of_decide_eq_true h7, of_decide_eq_true h8⟩
theorem funD_fun {K : PySem.W.Frag} {x qual : Str} {st : Stmt} {f : Addr} {fd : FuncData} (F : FunD K x qual (defArgs st) (defBody st) (defScope st) [] [] f fd) : Fun K x qual st f fd := by
  obtain ⟨oc, od, dV, kV, doc, pm, an, cdv, ct, osl, e, lk, hcd, hD, _⟩ := F.ex
  rcases hD with ⟨_, rfl⟩ | ⟨z, _⟩
  · exact ⟨⟨oc, od, kV, doc, pm, an, cdv, ct, osl, e, lk, hcd⟩, F.kp⟩
  · exact absurd rfl z
/-! what a made exception leaves -/
/-- the heap behind C(x), C's __init__ storing one field -/
def excH (H : Hp) (a dx C : Addr) (f : Str) (x : V) : Hp := upd (del (upd (upd (upd H a (exo a C none)) dx (exd dx [(f, x)])) a (exo a C (some dx))) a) dx (.xd [(f, x)])
theorem excH_at {H : Hp} {a dx C : Addr} {f : Str} {x : V} : excH H a dx C f x dx = some (.xd [(f, x)]) := upd_same
theorem excH_keep {H : Hp} {a dx C : Addr} {f : Str} {x : V} (ha : H a = none) (hd : H dx = none) {b : Addr} {o : HO} (h : H b = some o) : excH H a dx C f x b = some o := by
  unfold excH
  rw [upd_ne (ne_of_none h hd), del_ne (ne_of_none h ha), upd_ne (ne_of_none h ha), upd_ne (ne_of_none h hd), upd_ne (ne_of_none h ha)]
  exact h
abbrev lamQ : Str := ("law.<locals>." : Str) ++ ("<lambda>" : Str)
end L2
namespace L2
open PySem PySem.Spec PyProof.Rows He
/-! the head's facts, over a written part that holds the statics, too -/
def asY (g : Addr → Option Obj) (n : Nat) : List Addr := cStatics :: asD g n
def obsY (n : Nat) (fa : List Fa) (fn : List DefD) (ts : List Tab) (tf : List Defn) (ex : PySem.W.Frag → Bool) (g : Addr → Option Obj) : AlX := (obsT fa fn ts (frT g (asY g n)), ex (frT g (asY g n)) && tabsB g tf (frT g (asY g n)))
theorem saysY {n : Nat} {fa : List Fa} {fn : List DefD} {ts : List Tab} {tf : List Defn} {ex : PySem.W.Frag → Bool} {w : World} {h : Heap} (e : obsY n fa fn ts tf ex h.get? = valX fn ts w) : SaysX fa fn ts tf ex w h (frT h.get? (asY h.get? n)) := by
  have a1 : obsT fa fn ts (frT h.get? (asY h.get? n)) = valT fn ts w := congrArg (fun z : AlX => z.1) e
  have a2 : (ex (frT h.get? (asY h.get? n)) && tabsB h.get? tf (frT h.get? (asY h.get? n))) = true := congrArg (fun z : AlX => z.2) e
  obtain ⟨b1, b2⟩ := Bool.and_eq_true_iff.mp a2
  have each : ∀ p ∈ tf, PySem.W.codeHdIn (frT h.get? (asY h.get? n)) (cT (frT h.get? (asY h.get? n)) p).1 (cT (frT h.get? (asY h.get? n)) p).2 = true ∧ ∃ o, h.get? (cT (frT h.get? (asY h.get? n)) p).2 = some o ∧ emptyTab o = true := fun p hp => by
    obtain ⟨d1, d2⟩ := Bool.and_eq_true_iff.mp (List.all_eq_true.mp b2 p hp)
    refine ⟨d1, ?_⟩
    split at d2
    · exact ⟨_, by assumption, d2⟩
    · cases d2
  refine { t := a1, more := b1, hd := fun p hp => (each p hp).1, out := fun p hp => ?_, empty := fun p hp => ?_ }
  · obtain ⟨_, o, q, z⟩ := each p hp
    exact frT_none q z
  · obtain ⟨_, o, q, z⟩ := each p hp
    rw [q, emptyTab_eq z]
def hookY (n : Nat) (fa : List Fa) (fn : List DefD) (ts : List Tab) (tf : List Defn) (ex : PySem.W.Frag → Bool) : PySem.W.Hook where
  α := AlX
  obs s := obsY n fa fn ts tf ex s.heap.get?
  val w := valX fn ts w
  says w h := ∃ K : PySem.W.Frag, K.In h ∧ SaysX fa fn ts tf ex w h K
  of _ _ e := ⟨_, frT_in, saysY e⟩
  keeps _ _ _ := fun ⟨K, hK, c⟩ k => ⟨K, PySem.W.Frag.In.keeps hK k, { t := c.t, more := c.more, hd := c.hd, out := c.out, empty := fun p hp => k _ _ (c.empty p hp) }⟩
theorem obsY_eq {n : Nat} {fa : List Fa} {fn : List DefD} {ts : List Tab} {tf : List Defn} {ex : PySem.W.Frag → Bool} {g : Addr → Option Obj} {s : Shared} (h : ∀ a, g a = s.heap.get? a) : obsY n fa fn ts tf ex g = (hookY n fa fn ts tf ex).obs s := congrArg (obsY n fa fn ts tf ex) (funext h)
end L2
namespace SbD
open PySem PySem.Spec PyProof.Rows L2 Evl HT LamX PySem.SbE
/-! ### the text -/
def topS (i : Nat) : Stmt := PySem.Challenge.pw_signbook_k06_products_and_led.main.body.getD i (.Pass ⟨0, 0, 0, 0⟩)
def clsB : Stmt → List Stmt
  | .ClassDef (body := b) .. => b
  | _ => []
abbrev s_init_NoPick : Stmt := (clsB (topS 7)).getD 0 (.Pass ⟨0, 0, 0, 0⟩)
theorem sc_init_NoPick : FnScope ["self", "at"] ["self", "at"] (defScope s_init_NoPick) := ⟨rfl, rfl, rfl, by decide +kernel, rfl, by decide +kernel, by decide +kernel⟩
abbrev s_is_whole : Stmt := topS 9
theorem sc_is_whole : FnScope ["thing"] ["thing"] (defScope s_is_whole) := ⟨rfl, rfl, rfl, by decide +kernel, rfl, by decide +kernel, by decide +kernel⟩
abbrev s_is_fraction : Stmt := topS 10
theorem sc_is_fraction : FnScope ["thing", "top", "bottom"] ["thing"] (defScope s_is_fraction) := ⟨rfl, rfl, rfl, by decide +kernel, rfl, by decide +kernel, by decide +kernel⟩
abbrev s_fraction : Stmt := topS 11
theorem sc_fraction : FnScope ["top", "bottom", "common"] ["top", "bottom"] (defScope s_fraction) := ⟨rfl, rfl, rfl, by decide +kernel, rfl, by decide +kernel, by decide +kernel⟩
abbrev s_plus : Stmt := topS 12
theorem sc_plus : FnScope ["one", "other"] ["one", "other"] (defScope s_plus) := ⟨rfl, rfl, rfl, by decide +kernel, rfl, by decide +kernel, by decide +kernel⟩
abbrev s_times : Stmt := topS 13
theorem sc_times : FnScope ["one", "other"] ["one", "other"] (defScope s_times) := ⟨rfl, rfl, rfl, by decide +kernel, rfl, by decide +kernel, by decide +kernel⟩
abbrev s_is_long : Stmt := topS 15
theorem sc_is_long : FnScope ["thing", "many"] ["thing", "many"] (defScope s_is_long) := ⟨rfl, rfl, rfl, by decide +kernel, rfl, by decide +kernel, by decide +kernel⟩
abbrev s_is_fractions : Stmt := topS 16
theorem sc_is_fractions : FnScope ["thing", "many", "value"] ["thing", "many"] (defScope s_is_fractions) := ⟨rfl, rfl, rfl, by decide +kernel, rfl, by decide +kernel, by decide +kernel⟩
abbrev s_is_table : Stmt := topS 19
theorem sc_is_table : FnScope ["thing", "row"] ["thing"] (defScope s_is_table) := ⟨rfl, rfl, rfl, by decide +kernel, rfl, by decide +kernel, by decide +kernel⟩
abbrev s_is_row : Stmt := topS 20
theorem sc_is_row : FnScope ["thing", "entry"] ["thing"] (defScope s_is_row) := ⟨rfl, rfl, rfl, by decide +kernel, rfl, by decide +kernel, by decide +kernel⟩
abbrev s_check_table : Stmt := topS 21
theorem sc_check_table : FnScope ["thing"] ["thing"] (defScope s_check_table) := ⟨rfl, rfl, rfl, by decide +kernel, rfl, by decide +kernel, by decide +kernel⟩
abbrev s_turned : Stmt := topS 22
theorem sc_turned : FnScope ["table", "at", "row"] ["table"] (defScope s_turned) := ⟨rfl, rfl, rfl, by decide +kernel, rfl, by decide +kernel, by decide +kernel⟩
abbrev s_product : Stmt := topS 23
theorem sc_product : FnScope ["one", "other", "columns", "row", "column", "x", "y"] ["one", "other"] (defScope s_product) := ⟨rfl, rfl, rfl, by decide +kernel, rfl, by decide +kernel, by decide +kernel⟩
abbrev s_led : Stmt := topS 24
theorem sc_led : FnScope ["table", "xs", "row"] ["table", "xs"] (defScope s_led) := ⟨rfl, rfl, rfl, by decide +kernel, rfl, by decide +kernel, by decide +kernel⟩
abbrev s_row_sum : Stmt := topS 25
theorem sc_row_sum : FnScope ["row", "xs", "total", "entry", "x"] ["row", "xs"] (defScope s_row_sum) := ⟨rfl, rfl, rfl, by decide +kernel, rfl, by decide +kernel, by decide +kernel⟩
abbrev s__law_source_of : Stmt := topS 27
theorem sc__law_source_of : FnScope ["_law_cell"] ["_law_cell"] (defScope s__law_source_of) := ⟨rfl, rfl, rfl, by decide +kernel, rfl, by decide +kernel, by decide +kernel⟩
abbrev s__law_next : Stmt := topS 28
theorem sc__law_next : FnScope ["_law_source", "_law_many", "_law_found", "_law_prime", "_law_figure"] ["_law_source", "_law_many"] (defScope s__law_next) := ⟨rfl, rfl, rfl, by decide +kernel, rfl, by decide +kernel, by decide +kernel⟩
abbrev s__law_one : Stmt := topS 29
theorem sc__law_one : FnScope ["_law_source", "_law_some"] ["_law_source", "_law_some"] (defScope s__law_one) := ⟨rfl, rfl, rfl, by decide +kernel, rfl, by decide +kernel, by decide +kernel⟩
abbrev s__law_cell_at : Stmt := topS 30
theorem sc__law_cell_at : FnScope ["_law_script", "_law_k"] ["_law_script", "_law_k"] (defScope s__law_cell_at) := ⟨rfl, rfl, rfl, by decide +kernel, rfl, by decide +kernel, by decide +kernel⟩
abbrev s__law_mixed : Stmt := topS 31
theorem sc__law_mixed : FnScope ["_law_source", "_law_some", "_law_left", "_law_found"] ["_law_source", "_law_some"] (defScope s__law_mixed) := ⟨rfl, rfl, rfl, by decide +kernel, rfl, by decide +kernel, by decide +kernel⟩
abbrev s__law_ends : Stmt := topS 32
theorem sc__law_ends : FnScope ["_law_source", "_law_many", "_law_places", "_law_found", "_law_k", "_law_two"] ["_law_source", "_law_many"] (defScope s__law_ends) := ⟨rfl, rfl, rfl, by decide +kernel, rfl, by decide +kernel, by decide +kernel⟩
abbrev s__law_net : Stmt := topS 33
theorem sc__law_net : FnScope ["_law_ends_here", "_law_arcs", "_law_far", "_law_k", "_law_begin", "_law_goal", "_law_step", "_law_that", "_law_a", "_law_b"] ["_law_ends_here", "_law_arcs"] (defScope s__law_net) := ⟨rfl, rfl, rfl, by decide +kernel, rfl, by decide +kernel, by decide +kernel⟩
abbrev s__law_net_drawn : Stmt := topS 34
theorem sc__law_net_drawn : FnScope ["_law_source", "_law_many", "_law_wide", "_law_arcs", "_law_k"] ["_law_source", "_law_many", "_law_wide"] (defScope s__law_net_drawn) := ⟨rfl, rfl, rfl, by decide +kernel, rfl, by decide +kernel, by decide +kernel⟩
abbrev s__law_stretches : Stmt := topS 35
theorem sc__law_stretches : FnScope ["_law_source", "_law_many", "_law_wide", "_law_order", "_law_found", "_law_k", "_law_start", "_law_length", "_law_column"] ["_law_source", "_law_many", "_law_wide"] (defScope s__law_stretches) := ⟨rfl, rfl, rfl, by decide +kernel, rfl, by decide +kernel, by decide +kernel⟩
abbrev s__law_swung : Stmt := topS 36
theorem sc__law_swung : FnScope ["_law_source", "_law_grid", "_law_rows", "_law_signs", "_law_found", "_law_row", "_law_sign", "_law_k", "_law_column", "_law_a", "_law_b"] ["_law_source", "_law_grid"] (defScope s__law_swung) := ⟨rfl, rfl, rfl, by decide +kernel, rfl, by decide +kernel, by decide +kernel⟩
abbrev s__law_table : Stmt := topS 37
theorem sc__law_table : FnScope ["_law_source", "_law_most", "_law_many", "_law_wide", "_law_kind", "_law_grid", "_law_k", "_law_row"] ["_law_source", "_law_most"] (defScope s__law_table) := ⟨rfl, rfl, rfl, by decide +kernel, rfl, by decide +kernel, by decide +kernel⟩
abbrev s__law_low : Stmt := topS 38
theorem sc__law_low : FnScope ["_law_top", "_law_bottom", "_law_this", "_law_that"] ["_law_top", "_law_bottom"] (defScope s__law_low) := ⟨rfl, rfl, rfl, by decide +kernel, rfl, by decide +kernel, by decide +kernel⟩
abbrev s__law_sum : Stmt := topS 39
theorem sc__law_sum : FnScope ["_law_values_here", "_law_top", "_law_bottom", "_law_a", "_law_b"] ["_law_values_here"] (defScope s__law_sum) := ⟨rfl, rfl, rfl, by decide +kernel, rfl, by decide +kernel, by decide +kernel⟩
abbrev s__law_said : Stmt := topS 40
theorem sc__law_said : FnScope ["_law_deed", "_law_found", "e", "_law_others"] ["_law_deed"] (defScope s__law_said) := ⟨rfl, rfl, rfl, by decide +kernel, rfl, by decide +kernel, by decide +kernel⟩
abbrev s__law_product : Stmt := topS 41
theorem sc__law_product : FnScope ["_law_this", "_law_that", "_law_row", "_law_j", "_law_k"] ["_law_this", "_law_that"] (defScope s__law_product) := ⟨rfl, rfl, rfl, by decide +kernel, rfl, by decide +kernel, by decide +kernel⟩
abbrev s__law_values : Stmt := topS 42
theorem sc__law_values : FnScope ["_law_source", "_law_many", "_law_found", "_law_k", "_law_great"] ["_law_source", "_law_many"] (defScope s__law_values) := ⟨rfl, rfl, rfl, by decide +kernel, rfl, by decide +kernel, by decide +kernel⟩
abbrev s_law : Stmt := topS 43
theorem sc_law : FnScope ["_law_script", "_law_cell", "_law_source", "_law_this", "_law_that", "_law_due", "_law_values_here", "_law_leads", "_law_odd", "_law_third", "_law_both", "_law_row", "_law_j", "_law_a", "_law_x", "_law_y"] ["_law_script"] (defScope s_law) := ⟨rfl, rfl, rfl, by decide +kernel, rfl, by decide +kernel, by decide +kernel⟩
/-- what the top has written -/
structure Txt (K : PySem.W.Frag) (mg : Str → Option Value) where
  f_init_NoPick : Addr
  fd_init_NoPick : FuncData
  F_init_NoPick : Fun K "__init__" "NoPick.__init__" s_init_NoPick f_init_NoPick fd_init_NoPick
  b_init_NoPick : Binds K fd_init_NoPick ["self", "at"] []
  f_is_whole : Addr
  fd_is_whole : FuncData
  F_is_whole : Fun K "is_whole" "is_whole" s_is_whole f_is_whole fd_is_whole
  g_is_whole : mg "is_whole" = some (.ref f_is_whole)
  k_is_whole : PySem.W.keepIn K (.ref f_is_whole) = true
  b_is_whole : Binds K fd_is_whole ["thing"] []
  f_is_fraction : Addr
  fd_is_fraction : FuncData
  F_is_fraction : Fun K "is_fraction" "is_fraction" s_is_fraction f_is_fraction fd_is_fraction
  g_is_fraction : mg "is_fraction" = some (.ref f_is_fraction)
  k_is_fraction : PySem.W.keepIn K (.ref f_is_fraction) = true
  b_is_fraction : Binds K fd_is_fraction ["thing"] []
  f_fraction : Addr
  fd_fraction : FuncData
  F_fraction : FunD K "fraction" "fraction" (defArgs s_fraction) (defBody s_fraction) (defScope s_fraction) [.int 1] [] f_fraction fd_fraction
  g_fraction : mg "fraction" = some (.ref f_fraction)
  k_fraction : PySem.W.keepIn K (.ref f_fraction) = true
  b_fraction : Binds K fd_fraction ["top", "bottom"] []
  d_fraction_1 : List Value
  b_fraction_1 : Vals ([.int 1].drop 0) d_fraction_1 ∧ Binds K fd_fraction ["top", "bottom"] d_fraction_1
  f_plus : Addr
  fd_plus : FuncData
  F_plus : Fun K "plus" "plus" s_plus f_plus fd_plus
  g_plus : mg "plus" = some (.ref f_plus)
  k_plus : PySem.W.keepIn K (.ref f_plus) = true
  b_plus : Binds K fd_plus ["one", "other"] []
  f_times : Addr
  fd_times : FuncData
  F_times : Fun K "times" "times" s_times f_times fd_times
  g_times : mg "times" = some (.ref f_times)
  k_times : PySem.W.keepIn K (.ref f_times) = true
  b_times : Binds K fd_times ["one", "other"] []
  f_is_long : Addr
  fd_is_long : FuncData
  F_is_long : Fun K "is_long" "is_long" s_is_long f_is_long fd_is_long
  g_is_long : mg "is_long" = some (.ref f_is_long)
  k_is_long : PySem.W.keepIn K (.ref f_is_long) = true
  b_is_long : Binds K fd_is_long ["thing", "many"] []
  f_is_fractions : Addr
  fd_is_fractions : FuncData
  F_is_fractions : Fun K "is_fractions" "is_fractions" s_is_fractions f_is_fractions fd_is_fractions
  g_is_fractions : mg "is_fractions" = some (.ref f_is_fractions)
  k_is_fractions : PySem.W.keepIn K (.ref f_is_fractions) = true
  b_is_fractions : Binds K fd_is_fractions ["thing", "many"] []
  f_is_table : Addr
  fd_is_table : FuncData
  F_is_table : Fun K "is_table" "is_table" s_is_table f_is_table fd_is_table
  g_is_table : mg "is_table" = some (.ref f_is_table)
  k_is_table : PySem.W.keepIn K (.ref f_is_table) = true
  b_is_table : Binds K fd_is_table ["thing"] []
  f_is_row : Addr
  fd_is_row : FuncData
  F_is_row : Fun K "is_row" "is_row" s_is_row f_is_row fd_is_row
  g_is_row : mg "is_row" = some (.ref f_is_row)
  k_is_row : PySem.W.keepIn K (.ref f_is_row) = true
  b_is_row : Binds K fd_is_row ["thing"] []
  f_check_table : Addr
  fd_check_table : FuncData
  F_check_table : Fun K "check_table" "check_table" s_check_table f_check_table fd_check_table
  g_check_table : mg "check_table" = some (.ref f_check_table)
  k_check_table : PySem.W.keepIn K (.ref f_check_table) = true
  b_check_table : Binds K fd_check_table ["thing"] []
  f_turned : Addr
  fd_turned : FuncData
  F_turned : Fun K "turned" "turned" s_turned f_turned fd_turned
  g_turned : mg "turned" = some (.ref f_turned)
  k_turned : PySem.W.keepIn K (.ref f_turned) = true
  b_turned : Binds K fd_turned ["table"] []
  f_product : Addr
  fd_product : FuncData
  F_product : Fun K "product" "product" s_product f_product fd_product
  g_product : mg "product" = some (.ref f_product)
  k_product : PySem.W.keepIn K (.ref f_product) = true
  b_product : Binds K fd_product ["one", "other"] []
  f_led : Addr
  fd_led : FuncData
  F_led : Fun K "led" "led" s_led f_led fd_led
  g_led : mg "led" = some (.ref f_led)
  k_led : PySem.W.keepIn K (.ref f_led) = true
  b_led : Binds K fd_led ["table", "xs"] []
  f_row_sum : Addr
  fd_row_sum : FuncData
  F_row_sum : Fun K "row_sum" "row_sum" s_row_sum f_row_sum fd_row_sum
  g_row_sum : mg "row_sum" = some (.ref f_row_sum)
  k_row_sum : PySem.W.keepIn K (.ref f_row_sum) = true
  b_row_sum : Binds K fd_row_sum ["row", "xs"] []
  f__law_source_of : Addr
  fd__law_source_of : FuncData
  F__law_source_of : Fun K "_law_source_of" "_law_source_of" s__law_source_of f__law_source_of fd__law_source_of
  g__law_source_of : mg "_law_source_of" = some (.ref f__law_source_of)
  k__law_source_of : PySem.W.keepIn K (.ref f__law_source_of) = true
  b__law_source_of : Binds K fd__law_source_of ["_law_cell"] []
  f__law_next : Addr
  fd__law_next : FuncData
  F__law_next : Fun K "_law_next" "_law_next" s__law_next f__law_next fd__law_next
  g__law_next : mg "_law_next" = some (.ref f__law_next)
  k__law_next : PySem.W.keepIn K (.ref f__law_next) = true
  b__law_next : Binds K fd__law_next ["_law_source", "_law_many"] []
  f__law_one : Addr
  fd__law_one : FuncData
  F__law_one : Fun K "_law_one" "_law_one" s__law_one f__law_one fd__law_one
  g__law_one : mg "_law_one" = some (.ref f__law_one)
  k__law_one : PySem.W.keepIn K (.ref f__law_one) = true
  b__law_one : Binds K fd__law_one ["_law_source", "_law_some"] []
  f__law_cell_at : Addr
  fd__law_cell_at : FuncData
  F__law_cell_at : Fun K "_law_cell_at" "_law_cell_at" s__law_cell_at f__law_cell_at fd__law_cell_at
  g__law_cell_at : mg "_law_cell_at" = some (.ref f__law_cell_at)
  k__law_cell_at : PySem.W.keepIn K (.ref f__law_cell_at) = true
  b__law_cell_at : Binds K fd__law_cell_at ["_law_script", "_law_k"] []
  f__law_mixed : Addr
  fd__law_mixed : FuncData
  F__law_mixed : Fun K "_law_mixed" "_law_mixed" s__law_mixed f__law_mixed fd__law_mixed
  g__law_mixed : mg "_law_mixed" = some (.ref f__law_mixed)
  k__law_mixed : PySem.W.keepIn K (.ref f__law_mixed) = true
  b__law_mixed : Binds K fd__law_mixed ["_law_source", "_law_some"] []
  f__law_ends : Addr
  fd__law_ends : FuncData
  F__law_ends : Fun K "_law_ends" "_law_ends" s__law_ends f__law_ends fd__law_ends
  g__law_ends : mg "_law_ends" = some (.ref f__law_ends)
  k__law_ends : PySem.W.keepIn K (.ref f__law_ends) = true
  b__law_ends : Binds K fd__law_ends ["_law_source", "_law_many"] []
  f__law_net : Addr
  fd__law_net : FuncData
  F__law_net : Fun K "_law_net" "_law_net" s__law_net f__law_net fd__law_net
  g__law_net : mg "_law_net" = some (.ref f__law_net)
  k__law_net : PySem.W.keepIn K (.ref f__law_net) = true
  b__law_net : Binds K fd__law_net ["_law_ends_here", "_law_arcs"] []
  f__law_net_drawn : Addr
  fd__law_net_drawn : FuncData
  F__law_net_drawn : Fun K "_law_net_drawn" "_law_net_drawn" s__law_net_drawn f__law_net_drawn fd__law_net_drawn
  g__law_net_drawn : mg "_law_net_drawn" = some (.ref f__law_net_drawn)
  k__law_net_drawn : PySem.W.keepIn K (.ref f__law_net_drawn) = true
  b__law_net_drawn : Binds K fd__law_net_drawn ["_law_source", "_law_many", "_law_wide"] []
  f__law_stretches : Addr
  fd__law_stretches : FuncData
  F__law_stretches : Fun K "_law_stretches" "_law_stretches" s__law_stretches f__law_stretches fd__law_stretches
  g__law_stretches : mg "_law_stretches" = some (.ref f__law_stretches)
  k__law_stretches : PySem.W.keepIn K (.ref f__law_stretches) = true
  b__law_stretches : Binds K fd__law_stretches ["_law_source", "_law_many", "_law_wide"] []
  f__law_swung : Addr
  fd__law_swung : FuncData
  F__law_swung : Fun K "_law_swung" "_law_swung" s__law_swung f__law_swung fd__law_swung
  g__law_swung : mg "_law_swung" = some (.ref f__law_swung)
  k__law_swung : PySem.W.keepIn K (.ref f__law_swung) = true
  b__law_swung : Binds K fd__law_swung ["_law_source", "_law_grid"] []
  f__law_table : Addr
  fd__law_table : FuncData
  F__law_table : Fun K "_law_table" "_law_table" s__law_table f__law_table fd__law_table
  g__law_table : mg "_law_table" = some (.ref f__law_table)
  k__law_table : PySem.W.keepIn K (.ref f__law_table) = true
  b__law_table : Binds K fd__law_table ["_law_source", "_law_most"] []
  f__law_low : Addr
  fd__law_low : FuncData
  F__law_low : Fun K "_law_low" "_law_low" s__law_low f__law_low fd__law_low
  g__law_low : mg "_law_low" = some (.ref f__law_low)
  k__law_low : PySem.W.keepIn K (.ref f__law_low) = true
  b__law_low : Binds K fd__law_low ["_law_top", "_law_bottom"] []
  f__law_sum : Addr
  fd__law_sum : FuncData
  F__law_sum : Fun K "_law_sum" "_law_sum" s__law_sum f__law_sum fd__law_sum
  g__law_sum : mg "_law_sum" = some (.ref f__law_sum)
  k__law_sum : PySem.W.keepIn K (.ref f__law_sum) = true
  b__law_sum : Binds K fd__law_sum ["_law_values_here"] []
  f__law_said : Addr
  fd__law_said : FuncData
  F__law_said : Fun K "_law_said" "_law_said" s__law_said f__law_said fd__law_said
  g__law_said : mg "_law_said" = some (.ref f__law_said)
  k__law_said : PySem.W.keepIn K (.ref f__law_said) = true
  b__law_said : Binds K fd__law_said ["_law_deed"] []
  f__law_product : Addr
  fd__law_product : FuncData
  F__law_product : Fun K "_law_product" "_law_product" s__law_product f__law_product fd__law_product
  g__law_product : mg "_law_product" = some (.ref f__law_product)
  k__law_product : PySem.W.keepIn K (.ref f__law_product) = true
  b__law_product : Binds K fd__law_product ["_law_this", "_law_that"] []
  f__law_values : Addr
  fd__law_values : FuncData
  F__law_values : Fun K "_law_values" "_law_values" s__law_values f__law_values fd__law_values
  g__law_values : mg "_law_values" = some (.ref f__law_values)
  k__law_values : PySem.W.keepIn K (.ref f__law_values) = true
  b__law_values : Binds K fd__law_values ["_law_source", "_law_many"] []
  f_law : Addr
  fd_law : FuncData
  F_law : Fun K "law" "law" s_law f_law fd_law
  g_law : mg "law" = some (.ref f_law)
  k_law : PySem.W.keepIn K (.ref f_law) = true
  b_law : Binds K fd_law ["_law_script"] []
  t_MOST : Tok
  g_MOST : mg "MOST" = some (.int 8 t_MOST)
  g_gcd : mg "gcd" = some (.builtin "math.gcd")
  n_abs : mg "abs" = none
  n_all : mg "all" = none
  n_bool : mg "bool" = none
  n_enumerate : mg "enumerate" = none
  n_int : mg "int" = none
  n_isinstance : mg "isinstance" = none
  n_len : mg "len" = none
  n_list : mg "list" = none
  n_range : mg "range" = none
  n_sum : mg "sum" = none
  n_tuple : mg "tuple" = none
  n_zip : mg "zip" = none
  f_SignError : Addr
  g_SignError : mg "SignError" = some (.ref f_SignError)
  f_NoFraction : Addr
  g_NoFraction : mg "NoFraction" = some (.ref f_NoFraction)
  f_BadTable : Addr
  g_BadTable : mg "BadTable" = some (.ref f_BadTable)
  f_NoFit : Addr
  g_NoFit : mg "NoFit" = some (.ref f_NoFit)
  f_NoPivot : Addr
  g_NoPivot : mg "NoPivot" = some (.ref f_NoPivot)
  f_NoPick : Addr
  g_NoPick : mg "NoPick" = some (.ref f_NoPick)
  k_SignError : PySem.W.keepIn K (.ref f_SignError) = true
  ex_SignError : PySem.W.subIn K (.ref f_SignError) (.type "BaseException") = some true
  tx_SignError : PySem.W.typeIn K (.ref f_SignError) = some (.type "type")
  k_NoFraction : PySem.W.keepIn K (.ref f_NoFraction) = true
  ex_NoFraction : PySem.W.subIn K (.ref f_NoFraction) (.type "BaseException") = some true
  tx_NoFraction : PySem.W.typeIn K (.ref f_NoFraction) = some (.type "type")
  x_NoFraction : PySem.W.excIn K f_NoFraction aeT "ArithmeticError.__new__" = true
  k_BadTable : PySem.W.keepIn K (.ref f_BadTable) = true
  ex_BadTable : PySem.W.subIn K (.ref f_BadTable) (.type "BaseException") = some true
  tx_BadTable : PySem.W.typeIn K (.ref f_BadTable) = some (.type "type")
  x_BadTable : PySem.W.excIn K f_BadTable aeT "ArithmeticError.__new__" = true
  k_NoFit : PySem.W.keepIn K (.ref f_NoFit) = true
  ex_NoFit : PySem.W.subIn K (.ref f_NoFit) (.type "BaseException") = some true
  tx_NoFit : PySem.W.typeIn K (.ref f_NoFit) = some (.type "type")
  x_NoFit : PySem.W.excIn K f_NoFit aeT "ArithmeticError.__new__" = true
  k_NoPivot : PySem.W.keepIn K (.ref f_NoPivot) = true
  ex_NoPivot : PySem.W.subIn K (.ref f_NoPivot) (.type "BaseException") = some true
  tx_NoPivot : PySem.W.typeIn K (.ref f_NoPivot) = some (.type "type")
  x_NoPivot : PySem.W.excIn K f_NoPivot aeT "ArithmeticError.__new__" = true
  k_NoPick : PySem.W.keepIn K (.ref f_NoPick) = true
  ex_NoPick : PySem.W.subIn K (.ref f_NoPick) (.type "BaseException") = some true
  tx_NoPick : PySem.W.typeIn K (.ref f_NoPick) = some (.type "type")
  rd_SignError : PySem.W.readsIn K f_SignError (.type "type") = true
  ga_SignError : PySem.W.specialIn K (.ref f_SignError) "__getattribute__" = some (some (.builtin "type.__getattribute__"))
  fi_SignError : PySem.W.findCls K (.ref f_SignError) (.type "type") "__init__" = some (.val (.builtin "ArithmeticError.__init__"))
  own_NoPick : OwnA K f_NoPick f_SignError
  i_NoPick : PySem.W.findIn K (.ref f_NoPick) "__init__" = some (some (.ref f_init_NoPick))
  ty_NoPick : PySem.W.typeIn K (.ref f_init_NoPick) = some (.type "function")
  no_NoPick : PySem.W.findIn K (.ref f_NoPick) "at" = some none
  xf_NoFit : XfC K f_NoFit
  ec_NoFit : ExcC K f_NoFit
  exm_NoFit : PySem.W.exmOne K (.ref f_NoFit) (.ref f_SignError) = some true
  kit_NoFit_BadTable : PySem.W.kitOne K (.ref f_NoFit) (.ref f_BadTable) = some false
  kit_NoFit_NoFit : PySem.W.kitOne K (.ref f_NoFit) (.ref f_NoFit) = some true
  kit_NoFit_NoPivot : PySem.W.kitOne K (.ref f_NoFit) (.ref f_NoPivot) = some false
  kit_NoFit_NoPick : PySem.W.kitOne K (.ref f_NoFit) (.ref f_NoPick) = some false
  c_law : Addr
  P_law : Addr
  lkL : ∃ (oc : Value) (od : Option Addr) (kV doc pm : Value) (an : Option Addr) (ct : Value) (osl : Array (Option Value)), fd_law = PySem.W.fnOf "law" "law" (defArgs s_law) (defBody s_law) (defScope s_law) .none kV doc pm an (.ref c_law) ct ∧ K.lookup f_law = some ⟨oc, od, .func fd_law, osl⟩ ∧ PySem.W.codeIn K (.ref c_law) "law" = true
/-! ### numbers -/
def Bd (n : Nat) (i : Int) : Prop := i.natAbs < 2 ^ n
theorem Bd.mono {a b : Nat} {i : Int} (h : Bd a i) (hab : a ≤ b) : Bd b i := Nat.lt_of_lt_of_le h (Nat.pow_le_pow_right (by decide) hab)
theorem Bd.mul {a b : Nat} {i j : Int} (h : Bd a i) (g : Bd b j) : Bd (a + b) (i * j) := wide_lt h g
theorem Bd.add {a : Nat} {i j : Int} (h : Bd a i) (g : Bd a j) : Bd (a + 1) (i + j) := by
  have h1 : i.natAbs < 2 ^ a := h
  have h2 : j.natAbs < 2 ^ a := g
  show (i + j).natAbs < 2 ^ (a + 1)
  rw [Nat.pow_succ]
  omega
theorem Bd.sub {a : Nat} {i j : Int} (h : Bd a i) (g : Bd a j) : Bd (a + 1) (i - j) := by
  have h1 : i.natAbs < 2 ^ a := h
  have h2 : j.natAbs < 2 ^ a := g
  show (i - j).natAbs < 2 ^ (a + 1)
  rw [Nat.pow_succ]
  omega
theorem Bd.neg {a : Nat} {i : Int} (h : Bd a i) : Bd a (-i) := by
  show (-i).natAbs < 2 ^ a
  rw [Int.natAbs_neg]
  exact h
theorem Bd.abs {a : Nat} {i j : Int} (h : Bd a i) (e : j.natAbs ≤ i.natAbs) : Bd a j := Nat.lt_of_le_of_lt e h
theorem Bd.mulOk {a b : Nat} {i j : Int} (h : Bd a i) (g : Bd b j) (h0 : 0 < a := by decide) (h1 : 0 < b := by decide) (hs : a + b ≤ 1000000 := by decide) : CMulW i j := wide_mul h g h0 h1 hs
theorem Bd.divOk {b : Nat} {i j : Int} (h : 0 < j) (g : Bd b j) (h0 : 0 < b := by decide) (h9 : b ≤ 9000 := by decide) : CDivW i j := wide_div h g h0 h9
/-- // by a divisor other than 0 below 2 ^ 9000 -/
def CDivNW (_ j : Int) : Prop := j ≠ 0 ∧ j.natAbs.log2 < 9000
theorem Bd.divNOk {b : Nat} {i j : Int} (h : j ≠ 0) (g : Bd b j) (h0 : 0 < b := by decide) (h9 : b ≤ 9000 := by decide) : CDivNW i j := ⟨h, Nat.lt_of_lt_of_le (PySem.Flt.log2_lt_of h0 g) h9⟩
theorem op_fdivNW {X : Cx} : OpR X (binaryOp .FloorDiv) (rI CDivNW fun i j => .int (i.fdiv j)) := opI fun _ _ _ _ _ _ _ hc q => floordiv_int hc.1 q (.inl (PyProof.noPylong_of_log2 hc.2))
/-! ### heaps -/
/-- all but what stands at s is as it was -/
def ExB (s : Addr) (H H' : Hp) : Prop := ∀ b o, b ≠ s → H b = some o → H' b = some o
theorem ExB.trans {s : Addr} {H H1 H2 : Hp} (a : ExB s H H1) (b : ExB s H1 H2) : ExB s H H2 := fun c o n h => b c o n (a c o n h)
theorem ExB.refl (s : Addr) (H : Hp) : ExB s H H := fun _ _ _ h => h
theorem ExB.of {s : Addr} {H H1 : Hp} (a : Ex H H1) : ExB s H H1 := fun c o _ h => a c o h
theorem ExB.ex {s : Addr} {H H1 H2 : Hp} (a : ExB s H1 H2) (n : H s = none) (e : Ex H H1) : Ex H H2 := fun b o h => a b o (ne_of_none h n) (e b o h)
theorem ExB.upd (s : Addr) (H : Hp) (o : HO) : ExB s H (upd H s o) := fun b u n h => by
  rw [upd_ne n]
  exact h
theorem Ex.updB {s : Addr} {H H' : Hp} {o : HO} (e : Ex H H') : ExB s H (upd H' s o) := fun b u n h => by
  rw [upd_ne n]
  exact e b u h
/-- the source of a law's numbers: n at least the numbers made so far -/
def SrcAt (H : Hp) (s : Addr) (n : Int) : Prop := ∃ p q r : Int, H s = some (.lst [.int p, .int q, .int r]) ∧ 0 ≤ q ∧ q < 2147483647 ∧ 0 ≤ r ∧ r ≤ n
theorem SrcAt.ex {H H' : Hp} {s : Addr} {n : Int} (h : SrcAt H s n) (e : Ex H H') : SrcAt H' s n := by
  obtain ⟨p, q, r, h1, h2⟩ := h
  exact ⟨p, q, r, e _ _ h1, h2⟩
theorem SrcAt.exB {H H' : Hp} {s t : Addr} {n : Int} (h : SrcAt H s n) (e : ExB t H H') (ne : s ≠ t) : SrcAt H' s n := by
  obtain ⟨p, q, r, h1, h2⟩ := h
  exact ⟨p, q, r, e _ _ ne h1, h2⟩
theorem SrcAt.le {H : Hp} {s : Addr} {n m : Int} (h : SrcAt H s n) (e : n ≤ m) : SrcAt H s m := by
  obtain ⟨p, q, r, h1, h2, h3, h4, h5⟩ := h
  exact ⟨p, q, r, h1, h2, h3, h4, by omega⟩
theorem SrcAt.obj {H : Hp} {s : Addr} {n : Int} (h : SrcAt H s n) : ∃ o, H s = some o := by
  obtain ⟨p, q, r, h1, _⟩ := h
  exact ⟨_, h1⟩
/-- classes that is_whole is asked about -/
def tyOk (t : String) : Prop := t = "int" ∨ t = "bool" ∨ t = "NoneType" ∨ t = "str" ∨ t = "tuple" ∨ t = "list" ∨ t = "dict"
theorem ty_int {t : String} (h : tyOk t) : kitB t "int" = some (t == "int" || t == "bool") := by
  rcases h with rfl | rfl | rfl | rfl | rfl | rfl | rfl <;> decide +kernel
theorem ty_bool {t : String} (h : tyOk t) : kitB t "bool" = some (t == "bool") := by
  rcases h with rfl | rfl | rfl | rfl | rfl | rfl | rfl <;> decide +kernel
theorem ty_tuple {t : String} (h : tyOk t) : kitB t "tuple" = some (t == "tuple") := by
  rcases h with rfl | rfl | rfl | rfl | rfl | rfl | rfl <;> decide +kernel
theorem ty_list {t : String} (h : tyOk t) : kitB t "list" = some (t == "list") := by
  rcases h with rfl | rfl | rfl | rfl | rfl | rfl | rfl <;> decide +kernel
theorem prime_at (r : Int) (h : 0 ≤ r) : ∃ p : Int, atI [V.int 2147483647, V.int 2147483629, V.int 2147483587, V.int 2147483579, V.int 2147483563, V.int 2147483549, V.int 2147483543] (r % 7) = some (.int p) ∧ 0 < p ∧ p ≤ 2147483647 := by
  have h1 : 0 ≤ r % 7 := Int.emod_nonneg _ (by decide)
  have h2 : r % 7 < 7 := Int.emod_lt_of_pos _ (by decide)
  generalize r % 7 = k at h1 h2
  have hk : k = 0 ∨ k = 1 ∨ k = 2 ∨ k = 3 ∨ k = 4 ∨ k = 5 ∨ k = 6 := by omega
  rcases hk with rfl | rfl | rfl | rfl | rfl | rfl | rfl <;> exact ⟨_, rfl, by decide, by decide⟩
/-! ### data, lists, tables -/
mutual
theorem dp_mono {K : PySem.W.Frag} {H H' : Hp} (h : ∀ a xs, SqL K H a xs → SqL K H' a xs) (h2 : ∀ a xs, SqT K H a xs → SqT K H' a xs) : ∀ {v : V} {d : PyData}, Dp K H v d → Dp K H' v d
  | _, _, .non => .non
  | _, _, .bl b => .bl b
  | _, _, .int i => .int i
  | _, _, .str x => .str x
  | _, _, .lst a b => .lst (h _ _ a) (dpAll_mono h h2 b)
  | _, _, .tup a b => .tup (h2 _ _ a) (dpAll_mono h h2 b)
theorem dpAll_mono {K : PySem.W.Frag} {H H' : Hp} (h : ∀ a xs, SqL K H a xs → SqL K H' a xs) (h2 : ∀ a xs, SqT K H a xs → SqT K H' a xs) : ∀ {vs : List V} {ds : List PyData}, DpAll K H vs ds → DpAll K H' vs ds
  | _, _, .nil => .nil
  | _, _, .cons a b => .cons (dp_mono h h2 a) (dpAll_mono h h2 b)
end
theorem dp_ex {K : PySem.W.Frag} {H H' : Hp} (e : Ex H H') {v : V} {d : PyData} (h : Dp K H v d) : Dp K H' v d := dp_mono (fun _ _ => ex_l e) (fun _ _ => ex_t e) h
theorem dpAll_ex {K : PySem.W.Frag} {H H' : Hp} (e : Ex H H') {v : List V} {d : List PyData} (h : DpAll K H v d) : DpAll K H' v d := dpAll_mono (fun _ _ => ex_l e) (fun _ _ => ex_t e) h
def NiceD (d : PyData) : Prop := d.canLay0 = true ∧ d.depth ≤ 8
/-- v is data, whatever becomes of the object at s -/
def DatV (K : PySem.W.Frag) (H : Hp) (s : Addr) (v : V) : Prop := ∀ H', ExB s H H' → ∃ d, Dp K H' v d ∧ NiceD d
theorem DatV.exB {K : PySem.W.Frag} {H H' : Hp} {s : Addr} {v : V} (h : DatV K H s v) (e : ExB s H H') : DatV K H' s v := fun H2 e2 => h H2 (e.trans e2)
theorem datv_int {K : PySem.W.Frag} {H : Hp} {s : Addr} (i : Int) : DatV K H s (.int i) := fun _ _ => ⟨_, .int i, rfl, Nat.zero_le _⟩
theorem datv_pair {K : PySem.W.Frag} {H : Hp} {s a : Addr} {x y : Int} (h : H a = some (.tup [.int x, .int y])) (n : a ≠ s) : DatV K H s (.ref a) := fun H' e =>
  ⟨_, .tup (SqT.of (e _ _ n h)) (.cons (.int x) (.cons (.int y) .nil)), rfl, Nat.le_of_ble_eq_true rfl⟩
theorem dpAll_ints {K : PySem.W.Frag} {H : Hp} : ∀ ns : List Int, DpAll K H (ns.map V.int) (ns.map PyData.int)
  | [] => .nil
  | n :: r => .cons (.int n) (dpAll_ints r)
theorem canLay_ints : ∀ ns : List Int, PyData.canLayAll0 (ns.map PyData.int) = true
  | [] => rfl
  | n :: r => by
    show (true && PyData.canLayAll0 (r.map PyData.int)) = true
    rw [canLay_ints r]
    rfl
theorem depth_ints : ∀ ns : List Int, PyData.depthAll (ns.map PyData.int) = 0
  | [] => rfl
  | n :: r => by
    show max 0 (PyData.depthAll (r.map PyData.int)) = 0
    rw [depth_ints r]
    rfl
theorem datv_row {K : PySem.W.Frag} {H : Hp} {s a : Addr} {ns : List Int} (h : H a = some (.lst (ns.map V.int))) (n : a ≠ s) : DatV K H s (.ref a) := fun H' e =>
  ⟨_, .lst (SqL.of (e _ _ n h)) (dpAll_ints ns), canLay_ints ns, by
    show PyData.depthAll (ns.map PyData.int) + 1 ≤ 8
    rw [depth_ints]
    decide⟩
theorem dat_all {K : PySem.W.Frag} {H : Hp} {s : Addr} : ∀ {xs : List V}, (∀ v ∈ xs, DatV K H s v) → ∃ ds, DpAll K H xs ds ∧ PyData.canLayAll0 ds = true ∧ PyData.depthAll ds ≤ 8
  | [], _ => ⟨[], .nil, rfl, by decide⟩
  | x :: xs, h => by
    obtain ⟨d, h1, h2, h3⟩ := h x (List.mem_cons_self ..) H (ExB.refl _ _)
    obtain ⟨ds, g1, g2, g3⟩ := dat_all (xs := xs) fun v hv => h v (List.mem_cons_of_mem _ hv)
    refine ⟨d :: ds, .cons h1 g1, ?_, ?_⟩
    · show (d.canLay0 && PyData.canLayAll0 ds) = true
      rw [h2, g2]
      rfl
    · show max d.depth (PyData.depthAll ds) ≤ 8
      omega
theorem shaped_list {ds : List PyData} (h : PyData.canLayAll0 ds = true) (h2 : PyData.depthAll ds ≤ 60) : SeqAt.shaped (.list ds) = true := by
  unfold SeqAt.shaped
  have e1 : (PyData.list ds).canLay0 = true := h
  have e2 : (PyData.list ds).depth ≤ 64 := by
    show PyData.depthAll ds + 1 ≤ 64
    omega
  rw [e1, decide_eq_true e2]
  rfl
theorem eqv_nil (ds : List PyData) : PyData.eqv (.list ds) (.list []) = ds.isEmpty := by
  cases ds <;> rfl
theorem Paired.perm {α β : Type} {R : α → β → Prop} {xs xs' : List α} (hp : xs'.Perm xs) : ∀ {ys : List β}, Paired R xs ys → ∃ ys', ys'.Perm ys ∧ Paired R xs' ys' := by
  induction hp with
  | nil => intro ys h; exact ⟨ys, .refl _, h⟩
  | cons x _ ih =>
    intro ys h
    cases h with
    | cons r t =>
      obtain ⟨ys', p, q⟩ := ih t
      exact ⟨_ :: ys', p.cons _, .cons r q⟩
  | swap x y l =>
    intro ys h
    cases h with
    | cons r t =>
      cases t with
      | cons r2 t2 => exact ⟨_, List.Perm.swap .., .cons r2 (.cons r t2)⟩
  | trans _ _ ih1 ih2 =>
    intro ys h
    obtain ⟨y1, p1, q1⟩ := ih2 h
    obtain ⟨y2, p2, q2⟩ := ih1 q1
    exact ⟨y2, p2.trans p1, q2⟩
theorem fresh_B {s p : Addr} {H H' : Hp} (e : ExB s H H') (hp : H' p = none) (hs : ∃ o, H' s = some o) : H p = none := by
  cases q : H p with
  | none => rfl
  | some o =>
    by_cases h : p = s
    · subst h
      obtain ⟨o', ho'⟩ := hs
      rw [ho'] at hp
      cases hp
    · rw [e p o h q] at hp
      cases hp
theorem SrcAt.ne {H : Hp} {s p : Addr} {n : Int} (h : SrcAt H s n) (hp : H p = none) : p ≠ s := by
  intro e
  subst e
  obtain ⟨o, ho⟩ := h.obj
  rw [ho] at hp
  cases hp
theorem SrcAt.neT {H : Hp} {s p : Addr} {n : Int} {xs : List V} (h : SrcAt H s n) (hp : H p = some (.tup xs)) : p ≠ s := by
  intro e
  subst e
  obtain ⟨_, _, _, ho, _⟩ := h
  rw [ho] at hp
  cases hp
theorem ExB.l {K : PySem.W.Frag} {s a : Addr} {H H' : Hp} {xs : List V} (e : ExB s H H') (n : a ≠ s) (h : SqL K H a xs) : SqL K H' a xs := by
  rcases h with (h | ⟨o, h⟩) | h
  · exact .inl (.inl (e _ _ n h))
  · exact .inl (.inr ⟨o, e _ _ n h⟩)
  · exact .inr h
theorem seqIx {i n : Int} {k : Nat} (h0 : 0 ≤ i) (h1 : i < (k : Int)) : seqIndex? i k = some i.toNat := by
  unfold seqIndex?
  split <;> simp_all <;> omega
theorem erase_perm {α : Type} : ∀ {ls : List α} {k : Nat} {y : α}, ls[k]? = some y → (y :: ls.eraseIdx k).Perm ls
  | [], _, _, h => by simp at h
  | a :: l, 0, y, h => by
    have e := Option.some.inj h
    subst e
    exact .refl _
  | a :: l, k + 1, y, h => (List.Perm.swap a y _).trans ((erase_perm (ls := l) (k := k) h).cons a)
theorem perm_pop {α : Type} {fs ls : List α} {k : Nat} {y : α} (h : ls[k]? = some y) : ((fs ++ [y]) ++ ls.eraseIdx k).Perm (fs ++ ls) := by
  have h1 := erase_perm h
  rw [List.append_assoc]
  exact List.Perm.append_left fs h1
/-- the table at p: its rows at the places as -/
def RowsAt (H : Hp) : List Addr → List (List Int) → Prop := Paired fun a r => H a = some (.lst (r.map V.int))
def Tab (H : Hp) (p : Addr) (as : List Addr) (rows : List (List Int)) : Prop := H p = some (.lst (as.map V.ref)) ∧ RowsAt H as rows
theorem RowsAt.ex {H H' : Hp} (e : Ex H H') : ∀ {as : List Addr} {rows : List (List Int)}, RowsAt H as rows → RowsAt H' as rows
  | _, _, .nil => .nil
  | _, _, .cons h t => .cons (e _ _ h) (RowsAt.ex e t)
theorem Tab.ex {H H' : Hp} {p : Addr} {as : List Addr} {rows : List (List Int)} (h : Tab H p as rows) (e : Ex H H') : Tab H' p as rows := ⟨e _ _ h.1, h.2.ex e⟩
/-! ### edges -/
def EdgesAt (H : Hp) : List Addr → List (Int × Int) → Prop := Paired fun a e => H a = some (.tup [.int e.1, .int e.2])
theorem paired_imp {α β : Type} {R R' : α → β → Prop} (h : ∀ a b, R a b → R' a b) : ∀ {xs : List α} {ys : List β}, Paired R xs ys → Paired R' xs ys
  | _, _, .nil => .nil
  | _, _, .cons r t => .cons (h _ _ r) (paired_imp h t)
theorem EdgesAt.mono {H H' : Hp} {as : List Addr} {es : List (Int × Int)} (h : ∀ a xs, H a = some (.tup xs) → H' a = some (.tup xs)) (x : EdgesAt H as es) : EdgesAt H' as es := paired_imp (fun _ _ r => h _ _ r) x
theorem tups_B {H H' : Hp} {s : Addr} {n : Int} (hs : SrcAt H s n) (e : ExB s H H') : ∀ a xs, H a = some (.tup xs) → H' a = some (.tup xs) := fun a _ h => e a _ (hs.neT h) h
theorem tups_E {H H' : Hp} (e : Ex H H') : ∀ a xs, H a = some (.tup xs) → H' a = some (.tup xs) := fun a _ h => e a _ h
theorem tups_U {H : Hp} {l : Addr} {xs : List V} {o : HO} (h : H l = some (.lst xs)) : ∀ a ys, H a = some (.tup ys) → upd H l o a = some (.tup ys) := fun a ys g => by
  rw [upd_ne (ne_of g h (by intro z; cases z))]
  exact g
def Conn (es : List (Int × Int)) (m : Int) : Prop := ∀ S : Int → Bool, (∀ e ∈ es, S e.1 = S e.2) → ∀ a b, 0 ≤ a → a ≤ m → 0 ≤ b → b ≤ m → S a = S b
theorem Conn.perm {es es' : List (Int × Int)} {m : Int} (h : Conn es m) (p : es'.Perm es) : Conn es' m := fun S hS => h S fun e he => hS e (p.mem_iff.mpr he)
def EdgeTree (pl : List Int) (es : List (Int × Int)) : Prop := ∀ j, j < es.length → ∃ i a b, i ≤ j ∧ pl[i]? = some a ∧ pl[j + 1]? = some b ∧ (es[j]? = some (a, b) ∨ es[j]? = some (b, a))
theorem EdgeTree.more {pl : List Int} {es : List (Int × Int)} {e : Int × Int} {i : Nat} {a b : Int} (h : EdgeTree pl es) (hi : i ≤ es.length) (ha : pl[i]? = some a) (hb : pl[es.length + 1]? = some b) (he : e = (a, b) ∨ e = (b, a)) : EdgeTree pl (es ++ [e]) := by
  intro j hj
  rw [List.length_append] at hj
  have hj' : j < es.length + 1 := hj
  by_cases h1 : j < es.length
  · obtain ⟨i', a', b', x1, x2, x3, x4⟩ := h j h1
    refine ⟨i', a', b', x1, x2, x3, ?_⟩
    rw [List.getElem?_append_left h1]
    exact x4
  · have h2 : j = es.length := by omega
    subst h2
    refine ⟨i, a, b, hi, ha, hb, ?_⟩
    rw [List.getElem?_append_right (Nat.le_refl _), Nat.sub_self]
    rcases he with rfl | rfl
    · exact .inl rfl
    · exact .inr rfl
theorem EdgeTree.conn {pl : List Int} {es : List (Int × Int)} {m : Nat} (h : EdgeTree pl es) (hl : es.length = m) (hp : pl.length = m + 1) (hall : ∀ a : Int, 0 ≤ a → a ≤ m → a ∈ pl) : Conn es m := by
  intro S hS
  have key : ∀ j : Nat, ∀ j' : Nat, j' ≤ j → ∀ a, pl[j']? = some a → ∀ z, pl[0]? = some z → S a = S z := by
    intro j
    induction j with
    | zero =>
      intro j' hj' a ha z hz
      have : j' = 0 := by omega
      subst this
      rw [hz] at ha
      rw [Option.some.inj ha]
    | succ j ih =>
      intro j' hj' a ha z hz
      by_cases h1 : j' ≤ j
      · exact ih j' h1 a ha z hz
      · have h2 : j' = j + 1 := by omega
        subst h2
        have hlt : j + 1 < pl.length := (List.getElem?_eq_some_iff.mp ha).1
        obtain ⟨i, x, y, hi, hx, hy, he⟩ := h j (by omega)
        rw [ha] at hy
        have ey := Option.some.inj hy
        subst ey
        have hSe : S x = S a := by
          rcases he with he | he
          · exact hS (x, a) (List.mem_of_getElem? he)
          · exact (hS (a, x) (List.mem_of_getElem? he)).symm
        rw [← hSe]
        exact ih i hi x hx z hz
  intro a b ha ha' hb hb'
  obtain ⟨i, hi⟩ := List.getElem?_of_mem (hall a ha ha')
  obtain ⟨j, hj⟩ := List.getElem?_of_mem (hall b hb hb')
  have hz : ∃ z, pl[0]? = some z := ⟨_, List.getElem?_eq_getElem (by omega)⟩
  obtain ⟨z, hz⟩ := hz
  rw [key i i (Nat.le_refl _) a hi z hz, key j j (Nat.le_refl _) b hj z hz]
theorem paired_map {α β : Type} {R : α → β → Prop} (f : β → α) (h : ∀ b, R (f b) b) : ∀ ys : List β, Paired R (ys.map f) ys
  | [] => .nil
  | b :: r => .cons (h b) (paired_map f h r)
theorem paired_eq_map {α β : Type} {f : β → α} : ∀ {xs : List α} {ys : List β}, Paired (fun x y => x = f y) xs ys → xs = ys.map f
  | _, _, .nil => rfl
  | _, _, .cons r t => by rw [r, paired_eq_map t]; rfl
theorem perm_ints {ys : List V} {ns : List Int} (h : ys.Perm (ns.map V.int)) : ∃ pl : List Int, ys = pl.map V.int ∧ pl.Perm ns := by
  obtain ⟨pl, p, q⟩ := Paired.perm (R := fun (x : V) y => x = V.int y) h (paired_map V.int (fun _ => rfl) ns)
  exact ⟨pl, paired_eq_map q, p⟩
theorem perm_refs {β : Type} {R : Addr → β → Prop} {ys : List V} {as : List Addr} {es : List β} (h : ys.Perm (as.map V.ref)) (hx : Paired R as es) : ∃ (as' : List Addr) (es' : List β), ys = as'.map V.ref ∧ es'.Perm es ∧ Paired R as' es' ∧ as'.Perm as := by
  obtain ⟨as', p, q⟩ := Paired.perm (R := fun (x : V) y => x = V.ref y) h (paired_map V.ref (fun _ => rfl) as)
  obtain ⟨es', p2, q2⟩ := Paired.perm p hx
  exact ⟨as', es', paired_eq_map q, p2, q2, p⟩
def numsTo (m : Nat) : List Int := (List.range m).map fun i : Nat => (i : Int)
theorem rgV_nums (m : Int) : rgV 0 m = (numsTo m.toNat).map V.int := by
  unfold rgV numsTo
  rw [List.map_map, Int.sub_zero]
  refine List.map_congr_left fun i _ => ?_
  show V.int (0 + (i : Int)) = V.int (i : Int)
  rw [Int.zero_add]
theorem mem_numsTo {m : Nat} {a : Int} : a ∈ numsTo m ↔ 0 ≤ a ∧ a < m := by
  unfold numsTo
  rw [List.mem_map]
  constructor
  · rintro ⟨i, hi, rfl⟩
    have := List.mem_range.mp hi
    omega
  · rintro ⟨h0, h1⟩
    exact ⟨a.toNat, List.mem_range.mpr (by omega), by omega⟩
theorem numsTo_length (m : Nat) : (numsTo m).length = m := by
  unfold numsTo
  rw [List.length_map, List.length_range]
theorem paired_snoc {α β : Type} {R : α → β → Prop} {a : α} {b : β} {xs : List α} {ys : List β} (h : Paired R xs ys) (r : R a b) : Paired R (xs ++ [a]) (ys ++ [b]) := Paired.snoc h r
theorem paired_mem {α β : Type} {R : α → β → Prop} : ∀ {xs : List α} {ys : List β} {x : α}, Paired R xs ys → x ∈ xs → ∃ y, y ∈ ys ∧ R x y
  | _, _, _, .nil, h => by simp at h
  | _, _, x, .cons (a := a) r t, h => by
    rcases List.mem_cons.mp h with e | h
    · subst e
      exact ⟨_, List.mem_cons_self .., r⟩
    · obtain ⟨y, hy, hr⟩ := paired_mem t h
      exact ⟨y, List.mem_cons_of_mem _ hy, hr⟩
/-! ### loops and comprehensions over more -/
theorem for_enum {K : PySem.W.Frag} {a : Addr} {xs : List V} {g : TG} {tb : TS} {D : Ends} {σ : L2.St} {H : Hp} (Pv : Nat → L2.St → Hp → Prop) (h0 : Pv 0 σ H) (hq : ∀ i σ H, Pv i σ H → SqL K H a xs)
    (hs : ∀ (i : Nat) (x : V) (T : Addr) (σ : L2.St) (H : Hp), xs[i]? = some x → Pv i σ H → H T = none → g (.ref T) σ (upd H T (.tup [.int (i : Nat), x])) fun σ2 H2 => tb { D with nx := Pv (i + 1), ct := Pv (i + 1), bk := D.nx } σ2 H2) (hd : ∀ σ H, Pv xs.length σ H → D.nx σ H) :
    ∃ W : Nat → Nat → L2.St → Hp → Prop, (∃ m, W 0 m σ H) ∧ ∀ i m σ H, W i m σ H →
      ((Ite K a).stop i H ∧ D.nx σ H) ∨ ((Ite K a).go i H ∧ ∃ N : L2.St → Hp → Prop, (∀ σ' H', N σ' H' → ∃ m', m' < m ∧ W (i + 1) m' σ' H') ∧ ∀ v H', (Ite K a).yld i H v H' → g v σ H' fun σ2 H2 => tb { D with nx := N, ct := N, bk := D.nx } σ2 H2) := by
  refine ⟨fun i m σ H => m = xs.length - i ∧ i ≤ xs.length ∧ Pv i σ H, ⟨xs.length, rfl, Nat.zero_le _, h0⟩, ?_⟩
  rintro i m σ H ⟨rfl, hi, p⟩
  have qx := hq i σ H p
  by_cases hlt : i < xs.length
  · have hx : xs[i]? = some xs[i] := List.getElem?_eq_getElem hlt
    refine .inr ⟨⟨xs, _, qx, hx⟩, Pv (i + 1), fun σ' H' p' => ⟨xs.length - (i + 1), by omega, rfl, hlt, p'⟩, fun v H' y => ?_⟩
    obtain ⟨T, x', rfl, hT, rfl, f1⟩ := y
    exact hs i x' T σ H (f1 xs qx) p hT
  · have e : i = xs.length := by omega
    subst e
    exact .inl ⟨⟨xs, qx, Nat.le_refl _⟩, hd σ H p⟩
theorem lc_zip {K : PySem.W.Frag} {a b : Addr} {xs ys : List V} {g : TG} {tt : TT} {te : TE} {vs : List Nat} {σ : L2.St} {H1 : Hp} {D : Addr} {Qd : Hp → Prop} (hl : xs.length = ys.length) (Pv : Nat → Hp → Prop) (h0 : Pv 0 (upd H1 D (.lst []))) (hq : ∀ i H, Pv i H → SqL K H a xs ∧ SqL K H b ys)
    (hs : ∀ (i : Nat) (x y : V) (T : Addr) (H : Hp), xs[i]? = some x → ys[i]? = some y → Pv i H → H T = none → g (.ref T) (wipe σ vs) (upd H T (.tup [x, y])) fun σ2 H2 => wipe σ2 vs = wipe σ vs ∧ tt σ2 H2 fun b H3 =>
      if b = true then te σ2 H3 fun y H4 => ∃ acc, H4 D = some (.lst acc) ∧ acc.length < sizeLine ∧ Pv (i + 1) (upd H4 D (.lst (acc ++ [y]))) else Pv (i + 1) H3) (hd : ∀ H, Pv xs.length H → Qd H) :
    ∃ W : Nat → Nat → Hp → Prop, (∃ m, W 0 m (upd H1 D (.lst []))) ∧ ∀ i m H, W i m H →
      ((Itz K a b).stop i H ∧ Qd H) ∨ ((Itz K a b).go i H ∧ ∃ Nx : Hp → Prop, (∀ H', Nx H' → ∃ m', m' < m ∧ W (i + 1) m' H') ∧ ∀ x H', (Itz K a b).yld i H x H' → g x (wipe σ vs) H' fun σ2 H2 => wipe σ2 vs = wipe σ vs ∧ tt σ2 H2 fun b H3 =>
        if b = true then te σ2 H3 fun y H4 => ∃ acc, H4 D = some (.lst acc) ∧ acc.length < sizeLine ∧ Nx (upd H4 D (.lst (acc ++ [y]))) else Nx H3) := by
  refine ⟨fun i m H => m = xs.length - i ∧ i ≤ xs.length ∧ Pv i H, ⟨xs.length, rfl, Nat.zero_le _, h0⟩, ?_⟩
  rintro i m H ⟨rfl, hi, p⟩
  obtain ⟨qx, qy⟩ := hq i H p
  by_cases hlt : i < xs.length
  · have hx : xs[i]? = some xs[i] := List.getElem?_eq_getElem hlt
    have hlt2 : i < ys.length := by omega
    have hy : ys[i]? = some ys[i] := List.getElem?_eq_getElem hlt2
    refine .inr ⟨⟨xs, ys, _, _, qx, qy, hx, hy⟩, Pv (i + 1), fun H' p' => ⟨xs.length - (i + 1), by omega, rfl, hlt, p'⟩, fun v H' y => ?_⟩
    obtain ⟨T, x', y', rfl, hT, rfl, f1, f2⟩ := y
    exact hs i x' y' T H (f1 xs qx) (f2 ys qy) p hT
  · have e : i = xs.length := by omega
    subst e
    exact .inl ⟨⟨xs, ys, qx, qy, Or.inl (Nat.le_refl _)⟩, hd H p⟩
abbrev g2 (K : PySem.W.Frag) (j1 j2 : Nat) : TG := gTup K 2 (gCons (gName j1) (gCons (gName j2) gNil))
theorem take_snoc {α : Type} {l : List α} {i : Nat} {x : α} (h : l[i]? = some x) : l.take (i + 1) = l.take i ++ [x] := by
  rw [List.take_add_one, h]
  rfl
/-- [f(x, y) for x, y in zip(xs, ys)] -/
theorem el_zip {K : PySem.W.Frag} {ta : TA} {te : TE} {vs : List Nat} {j1 j2 : Nat} {σ : L2.St} {H : Hp} {a b : Addr} {xs ys : List Int} (f : Int → Int → Int) (h : EvA ta σ H [.ref a, .ref b]) (hx : SqL K H a (xs.map V.int)) (hy : SqL K H b (ys.map V.int)) (hl : xs.length = ys.length) (hz : xs.length ≤ 1000)
    (hw : ∀ u v, wipe (((wipe σ vs).set j1 (some u)).set j2 (some v)) vs = wipe σ vs)
    (he : ∀ x y H1, x ∈ xs → y ∈ ys → Ex H H1 → Ev te (((wipe σ vs).set j1 (some (.int x))).set j2 (some (.int y))) H1 (.int (f x y))) : EvL (tLc (iZip K ta) (g2 K j1 j2) tYes te vs) σ H ((List.zipWith f xs ys).map V.int) := fun H0 e Q q => h H0 e _ fun H1 e1 => by
  have hx1 := ex_l (e.trans e1) hx
  have hy1 := ex_l (e.trans e1) hy
  refine ⟨a, b, _, _, rfl, hx1, hy1, fun D hD => ?_⟩
  refine lc_zip (xs := xs.map V.int) (ys := ys.map V.int) (by rw [List.length_map, List.length_map]; exact hl) (fun i H' => Ex H1 H' ∧ H' D = some (.lst (((List.zipWith f xs ys).take i).map V.int))) ⟨Ex.new hD, upd_same⟩ (fun i H' p => ⟨ex_l p.1 hx1, ex_l p.1 hy1⟩) (fun i x y T H' gx gy p nT => ?_) (fun H' p => ?_)
  · obtain ⟨p1, p2⟩ := p
    rw [List.getElem?_map] at gx gy
    obtain ⟨x', hx', rfl⟩ := Option.map_eq_some_iff.mp gx
    obtain ⟨y', hy', rfl⟩ := Option.map_eq_some_iff.mp gy
    refine ⟨T, _, rfl, SqT.of upd_same, rfl, _, _, rfl, _, _, rfl, rfl, hw _ _, ?_⟩
    show te _ _ _
    have xT : Ex H' (upd H' T (.tup [.int x', .int y'])) := Ex.new nT
    refine he x' y' H (List.mem_of_getElem? hx') (List.mem_of_getElem? hy') (Ex.refl H) _ ((e.trans e1).trans (p1.trans xT)) _ fun H4 e4 => ?_
    refine ⟨_, e4 _ _ (xT _ _ p2), ?_, Ex.mut ((p1.trans xT).trans e4) hD, ?_⟩
    · rw [List.length_map, List.length_take]
      have := (List.getElem?_eq_some_iff.mp hx').1
      exact small1000 (by omega)
    · have hzz : (List.zipWith f xs ys)[i]? = some (f x' y') := by
        rw [List.getElem?_zipWith, hx', hy']
      rw [upd_same, take_snoc hzz, List.map_append]
      rfl
  · obtain ⟨p1, p2⟩ := p
    rw [List.take_of_length_le (by rw [List.length_zipWith, List.length_map]; omega)] at p2
    exact q D H' (fresh_back e1 hD) (e1.trans p1) p2
/-- [g(x, y) for x, y in qs], qs a list of pairs -/
theorem el_pairs {K : PySem.W.Frag} {n : Nat} {te : TE} {vs : List Nat} {j1 j2 : Nat} {σ : L2.St} {H : Hp} {a : Addr} {bs : List Addr} {qs : List (Int × Int)} (f : Int × Int → Int) (hσ : σ[n]? = some (some (.ref a))) (hx : H a = some (.lst (bs.map V.ref))) (hE : EdgesAt H bs qs) (hz : qs.length ≤ 1000)
    (hw : ∀ u v, wipe (((wipe σ vs).set j1 (some u)).set j2 (some v)) vs = wipe σ vs)
    (he : ∀ e H1, e ∈ qs → Ex H H1 → Ev te (((wipe σ vs).set j1 (some (.int e.1))).set j2 (some (.int e.2))) H1 (.int (f e))) : EvL (tLc (iList K (tVar n)) (g2 K j1 j2) tYes te vs) σ H ((qs.map f).map V.int) := fun H1 e1 Q q => by
  have hx1 := e1 _ _ hx
  have el : bs.length = qs.length := Paired.length hE
  refine ⟨_, hσ, a, rfl, ⟨_, SqL.of hx1⟩, fun D hD => ?_⟩
  refine lc_list (K := K) (a := a) (xs := bs.map V.ref) (fun i H' => Ex H1 H' ∧ H' D = some (.lst (((qs.map f).take i).map V.int))) ⟨Ex.new hD, upd_same⟩ (fun i H' _ p => SqL.of (p.1 _ _ hx1)) (fun i x H' gx p => ?_) (fun H' p => ?_)
  · obtain ⟨p1, p2⟩ := p
    rw [List.getElem?_map] at gx
    obtain ⟨b, hb, rfl⟩ := Option.map_eq_some_iff.mp gx
    obtain ⟨ed, hed, hr⟩ := paired_get hE hb
    refine ⟨b, _, rfl, SqT.of ((e1.trans p1) _ _ hr), rfl, _, _, rfl, _, _, rfl, rfl, hw _ _, ?_⟩
    show te _ _ _
    refine he ed H (List.mem_of_getElem? hed) (Ex.refl H) _ (e1.trans p1) _ fun H4 e4 => ?_
    refine ⟨_, e4 _ _ p2, ?_, Ex.mut (p1.trans e4) hD, ?_⟩
    · rw [List.length_map, List.length_take, List.length_map]
      exact small1000 (by omega)
    · have hzz : (qs.map f)[i]? = some (f ed) := by rw [List.getElem?_map, hed]; rfl
      rw [upd_same, take_snoc hzz, List.map_append]
      rfl
  · obtain ⟨p1, p2⟩ := p
    rw [List.take_of_length_le (by rw [List.length_map, List.length_map]; omega)] at p2
    exact q D H' hD p1 p2
/-- [[..] for i in range(m)]: new rows -/
theorem lc_rows {ta : TA} {te : TE} {vs : List Nat} {j : Nat} {σ : L2.St} {H : Hp} {Q : VK} {m : Nat} (F : Nat → List Int) (h : EvA ta σ H [.int (m : Int)]) (hm : m ≤ 1000) (hw : ∀ u, wipe ((wipe σ vs).set j (some u)) vs = wipe σ vs)
    (he : ∀ i H1, Ex H H1 → i < m → EvL te ((wipe σ vs).set j (some (.int (i : Int)))) H1 ((F i).map V.int))
    (k : ∀ p as H2, H p = none → (∀ a ∈ as, H a = none) → as.Nodup → p ∉ as → Ex H H2 → Tab H2 p as ((List.range m).map F) → Q (.ref p) H2) : tLc (iRng1 ta) (gName j) tYes te vs σ H Q := by
  refine h H (Ex.refl H) _ fun H1 e1 => ⟨(m : Int), rfl, by omega, by omega, fun D hD => ?_⟩
  have hDH : H D = none := fresh_back e1 hD
  refine lc_range (lo := 0) (n := (m : Int).toNat) (fun i H' => ∃ as, Ex H1 H' ∧ H' D = some (.lst (as.map V.ref)) ∧ RowsAt H' as ((List.range i).map F) ∧ (∀ a ∈ as, H a = none) ∧ as.Nodup ∧ D ∉ as) ⟨[], Ex.new hD, upd_same, .nil, fun a ha => by simp at ha, List.nodup_nil, by simp⟩ (fun i H' hi p => ?_) (fun H' p => ?_)
  · obtain ⟨as, p1, p2, p3, p4, p5, p6⟩ := p
    have el : as.length = i := by rw [Paired.length p3, List.length_map, List.length_range]
    have e0 : (0 : Int) + (i : Int) = (i : Int) := Int.zero_add _
    refine ⟨hw _, ?_⟩
    show te ((wipe σ vs).set j (some (.int ((0 : Int) + (i : Int))))) H' _
    rw [e0]
    refine he i H' (e1.trans p1) (by omega) H' (Ex.refl _) _ fun r H4 nr e4 hr => ?_
    have nrD : r ≠ D := fun z => by
      rw [z, p2] at nr
      cases nr
    refine ⟨_, e4 _ _ p2, ?_, as ++ [r], Ex.mut (p1.trans e4) hD, ?_, ?_, ?_, ?_, ?_⟩
    · rw [List.length_map, el]
      exact small1000 (by omega)
    · rw [upd_same, List.map_append]
      rfl
    · rw [List.range_succ, List.map_append]
      have st : ∀ a (l : List Int), a ≠ D → H4 a = some (.lst (l.map V.int)) → upd H4 D (.lst (as.map V.ref ++ [.ref r])) a = some (.lst (l.map V.int)) := fun a l n g => by
        rw [upd_ne n]
        exact g
      refine paired_snoc ?_ (st r _ nrD hr)
      have aux : ∀ {as' : List Addr} {rs : List (List Int)}, D ∉ as' → RowsAt H' as' rs → RowsAt (upd H4 D (.lst (as.map V.ref ++ [.ref r]))) as' rs := by
        intro as' rs hn hp
        induction hp with
        | nil => exact .nil
        | cons g t ih => exact .cons (st _ _ (fun z => hn (by rw [z]; exact List.mem_cons_self ..)) (e4 _ _ g)) (ih fun z => hn (List.mem_cons_of_mem _ z))
      exact aux p6 p3
    · intro a ha
      rcases List.mem_append.mp ha with h | h
      · exact p4 a h
      · have : a = r := by simpa using h
        rw [this]
        exact fresh_back (e1.trans p1) nr
    · refine List.nodup_append.mpr ⟨p5, by simp, fun a ha b hb => ?_⟩
      have : b = r := by simpa using hb
      rw [this]
      intro z
      rw [z] at ha
      obtain ⟨x, _, hx⟩ := paired_mem p3 ha
      rw [nr] at hx
      cases hx
    · intro ha
      rcases List.mem_append.mp ha with h | h
      · exact p6 h
      · exact nrD (by simpa using h : D = r).symm
  · obtain ⟨as, p1, p2, p3, p4, p5, p6⟩ := p
    have em : (m : Int).toNat = m := by omega
    rw [em] at p3
    exact k D as H' hDH p4 p5 p6 (e1.trans p1) ⟨p2, p3⟩
/-! ### a dict of rows by places -/
theorem nodup_sub {α : Type} [DecidableEq α] : ∀ {l1 l2 : List α}, l1.Nodup → (∀ x ∈ l1, x ∈ l2) → l1.length ≤ l2.length
  | [], _, _, _ => Nat.zero_le _
  | a :: t, l2, hn, hs => by
    have h1 := List.nodup_cons.mp hn
    have ha := hs a (List.mem_cons_self ..)
    have ih := nodup_sub (l1 := t) (l2 := l2.erase a) h1.2 fun x hx => (List.mem_erase_of_ne (fun z => h1.1 (by rw [← z]; exact hx))).mpr (hs x (List.mem_cons_of_mem _ hx))
    rw [List.length_erase_of_mem ha] at ih
    have := List.length_pos_of_mem ha
    simp only [List.length_cons]
    omega
theorem rep_flat : ∀ m : Nat, (List.replicate m [V.int 0]).flatten = (List.replicate m 0).map V.int
  | 0 => rfl
  | m + 1 => by
    rw [List.replicate_succ, List.flatten_cons, rep_flat m]
    rfl
theorem nodup_nums (m : Nat) : (numsTo m).Nodup := by
  unfold numsTo
  exact List.Pairwise.map _ (fun a b h z => h (by omega)) List.nodup_range
theorem val_mem : ∀ {kvs : List (Key × V)} {L : List Int} {x : Int}, kvs.map (·.1) = L.map Sum.inl → ((valV kvs (Sum.inl x : Key)).isSome = true ↔ x ∈ L)
  | [], L, x, h => by
    cases L with
    | nil => simp [valV]
    | cons a l => simp at h
  | kv :: r, L, x, h => by
    cases L with
    | nil => simp at h
    | cons a l =>
      have h1 : kv.1 = Sum.inl a ∧ r.map (·.1) = l.map Sum.inl := by
        have := List.cons.inj h
        exact ⟨this.1, this.2⟩
      have ih := val_mem (kvs := r) (L := l) (x := x) h1.2
      by_cases e : x = a
      · subst e
        rw [valV_pos h1.1]
        simp
      · have ne : ¬ kv.1 = Sum.inl x := by
          rw [h1.1]
          intro z
          exact e (Sum.inl.inj z).symm
        have e2 : valV (kv :: r) (Sum.inl x : Key) = valV r (Sum.inl x : Key) := by
          simp [valV, List.find?_cons, ne]
        rw [e2, ih, List.mem_cons]
        exact ⟨Or.inr, fun z => z.resolve_left e⟩
/-- the dict at d: rows of m whole numbers by the places L -/
structure FarOk (H : Hp) (d : Addr) (m : Nat) (kvs : List (Key × V)) (L : List Int) : Prop where
  at_ : H d = some (.dK kvs)
  keys : kvs.map (·.1) = L.map Sum.inl
  nd : L.Nodup
  inn : ∀ x ∈ L, 0 ≤ x ∧ x ≤ m
  row : ∀ x v, valV kvs (Sum.inl x : Key) = some v → ∃ (a : Addr) (ns : List Int), v = .ref a ∧ H a = some (.lst (ns.map V.int)) ∧ ns.length = m ∧ ∀ y ∈ ns, y.natAbs ≤ L.length
theorem FarOk.len {H : Hp} {d : Addr} {m : Nat} {kvs : List (Key × V)} {L : List Int} (h : FarOk H d m kvs L) : kvs.length = L.length := by
  rw [← List.length_map (f := (·.1)), h.keys, List.length_map]
theorem FarOk.le {H : Hp} {d : Addr} {m : Nat} {kvs : List (Key × V)} {L : List Int} (h : FarOk H d m kvs L) : L.length ≤ m + 1 := by
  have := nodup_sub (l2 := numsTo (m + 1)) h.nd fun x hx => mem_numsTo.mpr (by have := h.inn x hx; omega)
  rw [numsTo_length] at this
  exact this
theorem FarOk.all {H : Hp} {d : Addr} {m : Nat} {kvs : List (Key × V)} {L : List Int} (h : FarOk H d m kvs L) (hl : m < L.length) : ∀ x : Int, 0 ≤ x → x ≤ m → x ∈ L := by
  intro x h0 h1
  by_cases hx : x ∈ L
  · exact hx
  · have h2 := nodup_sub (l1 := x :: L) (l2 := numsTo (m + 1)) (List.nodup_cons.mpr ⟨hx, h.nd⟩) fun y hy => mem_numsTo.mpr (by
      rcases List.mem_cons.mp hy with rfl | hy
      · omega
      · have := h.inn y hy
        omega)
    rw [numsTo_length, List.length_cons] at h2
    omega
theorem FarOk.ex {H H' : Hp} {d : Addr} {m : Nat} {kvs : List (Key × V)} {L : List Int} (h : FarOk H d m kvs L) (e : Ex H H') : FarOk H' d m kvs L :=
  ⟨e _ _ h.at_, h.keys, h.nd, h.inn, fun x v hv => by
    obtain ⟨a, ns, h1, h2, h3, h4⟩ := h.row x v hv
    exact ⟨a, ns, h1, e _ _ h2, h3, h4⟩⟩
theorem FarOk.get {H : Hp} {d : Addr} {m : Nat} {kvs : List (Key × V)} {L : List Int} (h : FarOk H d m kvs L) {x : Int} (hx : x ∈ L) : ∃ (a : Addr) (ns : List Int), valV kvs (Sum.inl x : Key) = some (.ref a) ∧ H a = some (.lst (ns.map V.int)) ∧ ns.length = m ∧ ∀ y ∈ ns, y.natAbs ≤ L.length := by
  have hs := (val_mem h.keys).mpr hx
  obtain ⟨v, hv⟩ := Option.isSome_iff_exists.mp hs
  obtain ⟨a, ns, h1, h2, h3, h4⟩ := h.row x v hv
  subst h1
  exact ⟨a, ns, hv, h2, h3, h4⟩
theorem FarOk.no {H : Hp} {d : Addr} {m : Nat} {kvs : List (Key × V)} {L : List Int} (h : FarOk H d m kvs L) {x : Int} (hx : x ∉ L) : valV kvs (Sum.inl x : Key) = none := by
  cases q : valV kvs (Sum.inl x : Key) with
  | none => rfl
  | some v => exact absurd ((val_mem h.keys).mp (by rw [q]; rfl)) hx
theorem FarOk.some_ {H : Hp} {d : Addr} {m : Nat} {kvs : List (Key × V)} {L : List Int} (h : FarOk H d m kvs L) (x : Int) : (valV kvs (Sum.inl x : Key)).isSome = decide (x ∈ L) := by
  rw [Bool.eq_iff_iff, val_mem h.keys, decide_eq_true_iff]
theorem FarOk.put {H : Hp} {d : Addr} {m : Nat} {kvs : List (Key × V)} {L : List Int} {x : Int} {a : Addr} {ns : List Int} (h : FarOk H d m kvs L) (hx : x ∉ L) (h0 : 0 ≤ x ∧ x ≤ m) (ha : H a = some (.lst (ns.map V.int))) (hl : ns.length = m) (hb : ∀ y ∈ ns, y.natAbs ≤ L.length + 1) :
    FarOk (upd H d (.dK (putK kvs (Sum.inl x) (.ref a)))) d m (putK kvs (Sum.inl x) (.ref a)) (L ++ [x]) := by
  have hn := h.no hx
  have ne : ∀ b (l : List V), H b = some (.lst l) → b ≠ d := fun b l g => ne_of g h.at_ (by intro z; cases z)
  refine ⟨upd_same, ?_, ?_, ?_, ?_⟩
  · rw [putK_new _ hn, List.map_append, List.map_append, h.keys]
    rfl
  · refine List.nodup_append.mpr ⟨h.nd, by simp, fun y hy z hz => ?_⟩
    have : z = x := by simpa using hz
    rw [this]
    intro e
    exact hx (e ▸ hy)
  · intro y hy
    rcases List.mem_append.mp hy with q | q
    · exact h.inn y q
    · have : y = x := by simpa using q
      rw [this]
      exact h0
  · intro y v hv
    rw [valV_put] at hv
    rw [List.length_append]
    by_cases e : (Sum.inl y : Key) = Sum.inl x
    · rw [if_pos e] at hv
      have ev := Option.some.inj hv
      subst ev
      refine ⟨a, ns, rfl, ?_, hl, hb⟩
      rw [upd_ne (ne a _ ha)]
      exact ha
    · rw [if_neg e] at hv
      obtain ⟨b, l, h1, h2, h3, h4⟩ := h.row y v hv
      refine ⟨b, l, h1, ?_, h3, fun z hz => Nat.le_succ_of_le (h4 z hz)⟩
      rw [upd_ne (ne b _ h2)]
      exact h2
theorem ev_dget {σ : L2.St} {H : Hp} {i j : Nat} {d : Addr} {x : Int} {kvs : List (Key × V)} {v : V} (h1 : σ[i]? = some (some (.ref d))) (h2 : σ[j]? = some (some (.int x))) (hd : H d = some (.dK kvs)) (hv : valV kvs (Sum.inl x : Key) = some v) : Ev (tDGet (tVar i) (tVar j)) σ H v := fun H1 e Q q =>
  ⟨_, h1, _, h2, d, v, rfl, by rw [← hv]; exact DGet.k (k := Sum.inl x) (e _ _ hd), q H1 (Ex.refl _)⟩
/-- the kk-th number of the row that stands by x -/
def rowOf : Option HO → List Int
  | some (.lst xs) => xs.map fun v => match v with | .int i => i | _ => 0
  | _ => []
theorem rowOf_ints (ns : List Int) : rowOf (some (.lst (ns.map V.int))) = ns := by
  show (ns.map V.int).map (fun v => match v with | V.int i => i | _ => 0) = ns
  rw [List.map_map]
  exact List.map_id' ns
def valN (H : Hp) (kvs : List (Key × V)) (x : Int) (kk : Nat) : Int :=
  match valV kvs (Sum.inl x : Key) with
  | some (.ref a) => (rowOf (H a))[kk]?.getD 0
  | _ => 0
theorem valN_eq {H : Hp} {kvs : List (Key × V)} {x : Int} {kk : Nat} {a : Addr} {ns : List Int} (h : valV kvs (Sum.inl x : Key) = some (.ref a)) (g : H a = some (.lst (ns.map V.int))) : valN H kvs x kk = ns[kk]?.getD 0 := by
  unfold valN
  rw [h]
  show (rowOf (H a))[kk]?.getD 0 = _
  rw [g, rowOf_ints]
theorem atI_row {ns : List Int} {kk : Nat} (h : kk < ns.length) : atI (ns.map V.int) (kk : Int) = some (.int (ns[kk]?.getD 0)) := by
  refine atI_nat ?_
  rw [List.getElem?_map, List.getElem?_eq_getElem h]
  rfl
/-- a new table (new since H): m rows of w numbers, none greater than B -/
structure NewTab (H H' : Hp) (p : Addr) (as : List Addr) (rows : List (List Int)) (w B : Nat) : Prop where
  p0 : H p = none
  a0 : ∀ a ∈ as, H a = none
  nd : as.Nodup
  np : p ∉ as
  tab : Tab H' p as rows
  ok : ∀ r ∈ rows, r.length = w ∧ ∀ y ∈ r, y.natAbs ≤ B
theorem NewTab.ex {H H' H2 : Hp} {p : Addr} {as : List Addr} {rows : List (List Int)} {w B : Nat} (h : NewTab H H' p as rows w B) (e : Ex H' H2) : NewTab H H2 p as rows w B := ⟨h.p0, h.a0, h.nd, h.np, h.tab.ex e, h.ok⟩
theorem rows_but {H H' : Hp} : ∀ {as : List Addr} {rows : List (List Int)}, RowsAt H as rows → (∀ a ∈ as, ∀ o, H a = some o → H' a = some o) → RowsAt H' as rows
  | _, _, .nil, _ => .nil
  | _, _, .cons g t, h => .cons (h _ (List.mem_cons_self ..) _ g) (rows_but t fun a ha => h a (List.mem_cons_of_mem _ ha))
theorem NewTab.exB {H H' H2 : Hp} {s p : Addr} {as : List Addr} {rows : List (List Int)} {w B : Nat} (h : NewTab H H' p as rows w B) (e : ExB s H' H2) (hs : ∃ o, H s = some o) : NewTab H H2 p as rows w B := by
  obtain ⟨o, ho⟩ := hs
  have n1 : p ≠ s := fun z => by
    have := h.p0
    rw [z, ho] at this
    cases this
  have n2 : ∀ a ∈ as, a ≠ s := fun a ha z => by
    have := h.a0 a ha
    rw [z, ho] at this
    cases this
  exact ⟨h.p0, h.a0, h.nd, h.np, ⟨e _ _ n1 h.tab.1, rows_but h.tab.2 fun a ha o' g => e a o' (n2 a ha) g⟩, h.ok⟩
theorem NewTab.back {H0 H H' : Hp} {s p : Addr} {as : List Addr} {rows : List (List Int)} {w B : Nat} (h : NewTab H H' p as rows w B) (e : ExB s H0 H) (hs : ∃ o, H s = some o) : NewTab H0 H' p as rows w B :=
  ⟨fresh_B e h.p0 hs, fun a ha => fresh_B e (h.a0 a ha) hs, h.nd, h.np, h.tab, h.ok⟩
theorem NewTab.mono {H H' : Hp} {p : Addr} {as : List Addr} {rows : List (List Int)} {w B B' : Nat} (h : NewTab H H' p as rows w B) (hb : B ≤ B') : NewTab H H' p as rows w B' :=
  ⟨h.p0, h.a0, h.nd, h.np, h.tab, fun r hr => ⟨(h.ok r hr).1, fun y hy => Nat.le_trans ((h.ok r hr).2 y hy) hb⟩⟩
/-- found.append(a new row) -/
theorem NewTab.app {H H' H2 : Hp} {p r : Addr} {as : List Addr} {rows : List (List Int)} {row : List Int} {w B : Nat} (h : NewTab H H' p as rows w B) (e0 : ∀ a, H' a = none → H a = none) (e : Ex H' H2) (nr : H' r = none) (hr : H2 r = some (.lst (row.map V.int))) (hl : row.length = w) (hb : ∀ y ∈ row, y.natAbs ≤ B) :
    NewTab H (upd H2 p (.lst (as.map V.ref ++ [.ref r]))) p (as ++ [r]) (rows ++ [row]) w B := by
  have nrp : r ≠ p := fun z => by
    rw [z, h.tab.1] at nr
    cases nr
  have nra : r ∉ as := fun ha => by
    obtain ⟨x, _, hx⟩ := paired_mem h.tab.2 ha
    rw [nr] at hx
    cases hx
  refine ⟨h.p0, fun a ha => ?_, ?_, ?_, ⟨?_, ?_⟩, fun x hx => ?_⟩
  · rcases List.mem_append.mp ha with q | q
    · exact h.a0 a q
    · have : a = r := by simpa using q
      rw [this]
      exact e0 r nr
  · refine List.nodup_append.mpr ⟨h.nd, by simp, fun a ha b hb z => ?_⟩
    have : b = r := by simpa using hb
    exact nra (by rw [← this, ← z]; exact ha)
  · intro ha
    rcases List.mem_append.mp ha with q | q
    · exact h.np q
    · exact nrp (by simpa using q : p = r).symm
  · rw [upd_same, List.map_append]
    rfl
  · refine paired_snoc (rows_but h.tab.2 fun a ha o g => ?_) ?_
    · rw [upd_ne (fun z => h.np (by rw [← z]; exact ha))]
      exact e a o g
    · rw [upd_ne nrp]
      exact hr
  · rcases List.mem_append.mp hx with q | q
    · exact h.ok x q
    · have : x = row := by simpa using q
      rw [this]
      exact ⟨hl, hb⟩
theorem NewTab.new {H : Hp} {H1 : Hp} {p : Addr} {w B : Nat} (h : H p = none) (h1 : H1 p = some (.lst [])) : NewTab H H1 p [] [] w B := ⟨h, fun a ha => by simp at ha, List.nodup_nil, by simp, ⟨h1, .nil⟩, fun r hr => by simp at hr⟩
theorem noneB {s : Addr} {H H' : Hp} (e : ExB s H H') (hs : ∃ o, H' s = some o) : ∀ a, H' a = none → H a = none := fun a h => fresh_B e h hs
theorem ev_chain {r r' : R2} {ta tb tc : TE} {σ : L2.St} {H : Hp} {x y z : V} {b c : Bool} (ha : Ev ta σ H x) (hb : Ev tb σ H y) (hc : Ev tc σ H z) (h1 : RV r x y H (.bl b)) (h2 : RV r' y z H (.bl c)) : Ev (tChain r r' ta tb tc) σ H (.bl (b && c)) := fun H1 e Q q =>
  ha H1 e _ fun H2 e2 => hb H2 (e.trans e2) _ fun H3 e3 => h1 H3 ((e.trans e2).trans e3) _ fun H4 e4 => ⟨b, rfl, by
    cases b with
    | true =>
      show tc σ H4 _
      exact hc H4 (((e.trans e2).trans e3).trans e4) _ fun H5 e5 => h2 H5 ((((e.trans e2).trans e3).trans e4).trans e5) Q fun H6 e6 => q H6 ((((e2.trans e3).trans e4).trans e5).trans e6)
    | false =>
      show Q (.bl false) H4
      exact q H4 ((e2.trans e3).trans e4)⟩
theorem ev_int1 {ta : TE} {σ : L2.St} {H : Hp} {b : Bool} (h : Ev ta σ H (.bl b)) : Ev (tCB (fun xs H Q => (∃ i, xs = [V.int i] ∧ Q (V.int i) H) ∨ ∃ k, xs = [V.bl k] ∧ Q (V.int (if k = true then 1 else 0)) H) (tCons ta tNil)) σ H (.int (if b = true then 1 else 0)) := fun H1 e Q q =>
  h H1 e _ fun H2 e2 => .inr ⟨b, rfl, q H2 e2⟩
/-- [e for i in range(m)], e whole numbers -/
theorem el_rng {ta : TA} {te : TE} {vs : List Nat} {j m : Nat} {σ : L2.St} {H : Hp} (f : Nat → Int) (h : EvA ta σ H [.int (m : Int)]) (hm : m ≤ 1000) (hw : ∀ x, wipe ((wipe σ vs).set j (some x)) vs = wipe σ vs)
    (he : ∀ (i : Nat) H1, Ex H H1 → i < m → Ev te ((wipe σ vs).set j (some (.int (i : Int)))) H1 (.int (f i))) : EvL (tLc (iRng1 ta) (gName j) tYes te vs) σ H (((List.range m).map f).map V.int) := by
  have g := el_lcR1 (t := tYes) (te := te) (j := j) (vs := vs) (σ := σ) (H := H) (n := (m : Int)) (ta := ta) (fun _ => true) (fun o => .int (f o)) h (by omega) hw (fun o H1 e ho Hx ex Qx qx => qx Hx (Ex.refl _)) (fun o H1 e ho hf => he o H1 e (by omega))
  have eg : given (m : Int).toNat (fun _ => true) (fun o => V.int (f o)) = ((List.range m).map f).map V.int := by
    unfold given
    rw [Int.toNat_natCast, List.filter_eq_self.mpr (fun _ _ => rfl), List.map_map]
    rfl
  rw [eg] at g
  exact g
/-- [f(row) for row in rows] -/
theorem el_col {K : PySem.W.Frag} {n : Nat} {te : TE} {vs : List Nat} {j : Nat} {σ : L2.St} {H : Hp} {a : Addr} {bs : List Addr} {qs : List (List Int)} (f : List Int → Int) (hσ : σ[n]? = some (some (.ref a))) (hx : H a = some (.lst (bs.map V.ref))) (hE : RowsAt H bs qs) (hz : qs.length ≤ 1000)
    (hw : ∀ u, wipe ((wipe σ vs).set j (some u)) vs = wipe σ vs)
    (he : ∀ b r H1, r ∈ qs → H b = some (.lst (r.map V.int)) → Ex H H1 → Ev te ((wipe σ vs).set j (some (.ref b))) H1 (.int (f r))) : EvL (tLc (iList K (tVar n)) (gName j) tYes te vs) σ H ((qs.map f).map V.int) := fun H1 e1 Q q => by
  have hx1 := e1 _ _ hx
  have el : bs.length = qs.length := Paired.length hE
  refine ⟨_, hσ, a, rfl, ⟨_, SqL.of hx1⟩, fun D hD => ?_⟩
  refine lc_list (K := K) (a := a) (xs := bs.map V.ref) (fun i H' => Ex H1 H' ∧ H' D = some (.lst (((qs.map f).take i).map V.int))) ⟨Ex.new hD, upd_same⟩ (fun i H' _ p => SqL.of (p.1 _ _ hx1)) (fun i x H' gx p => ?_) (fun H' p => ?_)
  · obtain ⟨p1, p2⟩ := p
    rw [List.getElem?_map] at gx
    obtain ⟨b, hb, rfl⟩ := Option.map_eq_some_iff.mp gx
    obtain ⟨ed, hed, hr⟩ := paired_get hE hb
    refine ⟨hw _, ?_⟩
    show te _ _ _
    refine he b ed H (List.mem_of_getElem? hed) hr (Ex.refl H) _ (e1.trans p1) _ fun H4 e4 => ?_
    refine ⟨_, e4 _ _ p2, ?_, Ex.mut (p1.trans e4) hD, ?_⟩
    · rw [List.length_map, List.length_take, List.length_map]
      exact small1000 (by omega)
    · have hzz : (qs.map f)[i]? = some (f ed) := by rw [List.getElem?_map, hed]; rfl
      rw [upd_same, take_snoc hzz, List.map_append]
      rfl
  · obtain ⟨p1, p2⟩ := p
    rw [List.take_of_length_le (by rw [List.length_map, List.length_map]; omega)] at p2
    exact q D H' hD p1 p2
/-- [a number drawn for i in range(m)] -/
theorem lc_draw {ta : TA} {te : TE} {vs : List Nat} {j m : Nat} {σ : L2.St} {H : Hp} {Q : VK} {s : Addr} {n : Int} (P : Int → Prop) (h : EvA ta σ H [.int (m : Int)]) (hm : m ≤ 1000) (hs : SrcAt H s n) (hw : ∀ u, wipe ((wipe σ vs).set j (some u)) vs = wipe σ vs)
    (he : ∀ (i : Nat) H1, ExB s H H1 → i < m → SrcAt H1 s (n + i) → ∀ Q1 : VK, (∀ x H2, P x → ExB s H1 H2 → SrcAt H2 s (n + i + 1) → Q1 (.int x) H2) → te ((wipe σ vs).set j (some (.int (i : Int)))) H1 Q1)
    (k : ∀ (D : Addr) (ns : List Int) (H2 : Hp), H D = none → ExB s H H2 → SrcAt H2 s (n + m) → H2 D = some (.lst (ns.map V.int)) → ns.length = m → (∀ x ∈ ns, P x) → Q (.ref D) H2) : tLc (iRng1 ta) (gName j) tYes te vs σ H Q := by
  refine h H (Ex.refl H) _ fun H1 e1 => ⟨(m : Int), rfl, by omega, by omega, fun D hD => ?_⟩
  have hDH : H D = none := fresh_back e1 hD
  have hDs : D ≠ s := (hs.ex e1).ne hD
  refine lc_range (lo := 0) (n := (m : Int).toNat) (fun i H' => ∃ ns, ExB s H H' ∧ SrcAt H' s (n + i) ∧ H' D = some (.lst (ns.map V.int)) ∧ ns.length = i ∧ ∀ x ∈ ns, P x) ⟨[], ExB.of (e1.trans (Ex.new hD)), (hs.ex (e1.trans (Ex.new hD))).le (by omega), upd_same, rfl, fun x hx => by simp at hx⟩ (fun i H' hi p => ?_) (fun H' p => ?_)
  · obtain ⟨ns, p1, p2, p3, p4, p5⟩ := p
    have e0 : (0 : Int) + (i : Int) = (i : Int) := Int.zero_add _
    refine ⟨hw _, ?_⟩
    show te ((wipe σ vs).set j (some (.int ((0 : Int) + (i : Int))))) H' _
    rw [e0]
    refine he i H' p1 (by omega) p2 _ fun x H2 hx e2 s2 => ?_
    refine ⟨_, e2 _ _ hDs p3, small1000 (by rw [List.length_map]; omega), ns ++ [x], ?_, ?_, ?_, ?_, ?_⟩
    · refine fun b o nb hb => ?_
      rw [upd_ne (ne_of_none hb hDH)]
      exact e2 _ _ nb (p1 _ _ nb hb)
    · obtain ⟨a1, a2, a3, a4, a5, a6, a7, a8⟩ := s2
      exact ⟨a1, a2, a3, by rw [upd_ne hDs.symm]; exact a4, a5, a6, a7, by omega⟩
    · rw [upd_same, List.map_append]
      rfl
    · rw [List.length_append, p4]
      rfl
    · intro y hy
      rcases List.mem_append.mp hy with q | q
      · exact p5 y q
      · have : y = x := by simpa using q
        rw [this]
        exact hx
  · obtain ⟨ns, p1, p2, p3, p4, p5⟩ := p
    have em : (m : Int).toNat = m := by omega
    rw [em] at p4 p2
    exact k D ns H' hDH p1 p2 p3 p4 p5
/-- the same over a list of whole numbers -/
theorem lc_drawL {K : PySem.W.Frag} {tl te : TE} {vs : List Nat} {j : Nat} {σ : L2.St} {H : Hp} {Q : VK} {s a : Addr} {n : Int} {xs : List Int} (P : Int → Prop) (h : Ev tl σ H (.ref a)) (hx : H a = some (.lst (xs.map V.int))) (has : a ≠ s) (hm : xs.length ≤ 1000) (hs : SrcAt H s n) (hw : ∀ u, wipe ((wipe σ vs).set j (some u)) vs = wipe σ vs)
    (he : ∀ (i : Nat) (y : Int) H1, ExB s H H1 → i < xs.length → SrcAt H1 s (n + i) → ∀ Q1 : VK, (∀ x H2, P x → ExB s H1 H2 → SrcAt H2 s (n + i + 1) → Q1 (.int x) H2) → te ((wipe σ vs).set j (some (.int y))) H1 Q1)
    (k : ∀ (D : Addr) (ns : List Int) (H2 : Hp), H D = none → ExB s H H2 → SrcAt H2 s (n + xs.length) → H2 D = some (.lst (ns.map V.int)) → ns.length = xs.length → (∀ x ∈ ns, P x) → Q (.ref D) H2) : tLc (iList K tl) (gName j) tYes te vs σ H Q := by
  refine h H (Ex.refl H) _ fun H1 e1 => ⟨a, rfl, ⟨_, SqL.of (e1 _ _ hx)⟩, fun D hD => ?_⟩
  have hDH : H D = none := fresh_back e1 hD
  have hDs : D ≠ s := (hs.ex e1).ne hD
  refine lc_list (K := K) (a := a) (xs := xs.map V.int) (fun i H' => ∃ ns, ExB s H H' ∧ SrcAt H' s (n + i) ∧ H' D = some (.lst (ns.map V.int)) ∧ ns.length = i ∧ ∀ x ∈ ns, P x) ⟨[], ExB.of (e1.trans (Ex.new hD)), (hs.ex (e1.trans (Ex.new hD))).le (by omega), upd_same, rfl, fun x hx => by simp at hx⟩ (fun i H' _ ⟨_, p1, _⟩ => SqL.of (p1 _ _ has hx)) (fun i y H' gy p => ?_) (fun H' p => ?_)
  · obtain ⟨ns, p1, p2, p3, p4, p5⟩ := p
    rw [List.getElem?_map] at gy
    obtain ⟨y', hy', rfl⟩ := Option.map_eq_some_iff.mp gy
    have hi := (List.getElem?_eq_some_iff.mp hy').1
    refine ⟨hw _, ?_⟩
    show te _ H' _
    refine he i y' H' p1 hi p2 _ fun x H2 hx' e2 s2 => ?_
    refine ⟨_, e2 _ _ hDs p3, small1000 (by rw [List.length_map]; omega), ns ++ [x], ?_, ?_, ?_, ?_, ?_⟩
    · refine fun b o nb hb => ?_
      rw [upd_ne (ne_of_none hb hDH)]
      exact e2 _ _ nb (p1 _ _ nb hb)
    · obtain ⟨a1, a2, a3, a4, a5, a6, a7, a8⟩ := s2
      exact ⟨a1, a2, a3, by rw [upd_ne hDs.symm]; exact a4, a5, a6, a7, by omega⟩
    · rw [upd_same, List.map_append]
      rfl
    · rw [List.length_append, p4]
      rfl
    · intro z hz
      rcases List.mem_append.mp hz with q | q
      · exact p5 z q
      · have : z = x := by simpa using q
        rw [this]
        exact hx'
  · obtain ⟨ns, p1, p2, p3, p4, p5⟩ := p
    rw [List.length_map] at p4 p2
    exact k D ns H' hDH p1 p2 p3 p4 p5
theorem rows_set {H : Hp} {v : List V} {x : Addr} : ∀ {as : List Addr} {rows : List (List Int)} {k : Nat} {row : List Int}, RowsAt H as rows → as.Nodup → as[k]? = some x → v = row.map V.int → RowsAt (upd H x (.lst v)) as (rows.set k row)
  | _, _, _, _, .nil, _, h, _ => by simp at h
  | a :: as, r :: rows, 0, row, .cons g t, nd, h, hv => by
    have e : a = x := Option.some.inj h
    subst e
    have h1 := List.nodup_cons.mp nd
    refine .cons (by rw [upd_same, hv]) (rows_but t fun b hb o q => ?_)
    rw [upd_ne (fun z => h1.1 (by rw [← z]; exact hb))]
    exact q
  | a :: as, r :: rows, k + 1, row, .cons g t, nd, h, hv => by
    have h1 := List.nodup_cons.mp nd
    have hx : as[k]? = some x := h
    refine .cons ?_ (rows_set t h1.2 hx hv)
    rw [upd_ne (fun z => h1.1 (by rw [z]; exact List.mem_of_getElem? hx))]
    exact g
theorem NewTab.set {H H' : Hp} {p x : Addr} {as : List Addr} {rows : List (List Int)} {w B k j : Nat} {row : List Int} {y : Int} (h : NewTab H H' p as rows w B) (hx : as[k]? = some x) (hr : rows[k]? = some row) (hy : y.natAbs ≤ B) : NewTab H (upd H' x (.lst ((row.map V.int).set j (.int y)))) p as (rows.set k (row.set j y)) w B := by
  have npx : p ≠ x := fun z => h.np (by rw [z]; exact List.mem_of_getElem? hx)
  have o := h.ok row (List.mem_of_getElem? hr)
  refine ⟨h.p0, h.a0, h.nd, h.np, ⟨?_, rows_set h.tab.2 h.nd hx (by rw [List.map_set])⟩, fun r hr' => ?_⟩
  · rw [upd_ne npx]
    exact h.tab.1
  · rcases List.mem_or_eq_of_mem_set hr' with q | q
    · exact h.ok r q
    · rw [q]
      refine ⟨by rw [List.length_set]; exact o.1, fun z hz => ?_⟩
      rcases List.mem_or_eq_of_mem_set hz with q2 | q2
      · exact o.2 z q2
      · rw [q2]
        exact hy
section
variable {prog : Program} {w : World} {A : Around} {E : Value → Shared → Prop} {s : Shared}
theorem slice_rev2 {sl : Addr} {vl vu vs : Value} {Q : Int × Int × Nat → Shared → Prop} (hs : s.heap.IsSliceOf sl vl vu vs) (pl : IsPart vl none) (pu : IsPart vu none) (ps : IsPart vs (some (-1)))
    (h : Q (1, -1, 2) s) : wpAny (model prog w) A (Builtin.Slice.sliceApplied (.ref sl) (pure ((2 : Nat) : Int))) Q E s := by
  obtain ⟨os, hos, hcs, hds⟩ := id hs
  unfold Builtin.Slice.sliceApplied Builtin.Slice.sliceFields
  refine wpAny_bind (wpAny_bind (wpAny_field hos hds (x := vl) rfl (wpAny_bind (wpAny_field hos hds (x := vu) rfl (wpAny_bind (wpAny_field hos hds (x := vs) rfl (wpAny_pure ?_)))))))
  refine wpAny_bind (slicePart_ ps ?_)
  show wpAny _ _ (if ((-1 : Int) == 0) = true then _ else _) _ _ s
  rw [if_neg (by decide)]
  refine wpAny_bind (slicePart_ pl (wpAny_bind (slicePart_ pu (wpAny_bind (wpAny_pure ?_)))))
  exact wpAny_pure h
theorem item_rev2 {t sl : Addr} {x y vl vu vs : Value} {Q : Value → Shared → Prop} (ht : IsTup s.heap t #[x, y]) (hs : s.heap.IsSliceOf sl vl vu vs) (pl : IsPart vl none) (pu : IsPart vu none) (ps : IsPart vs (some (-1)))
    (h : Q (.ref s.heap.objs.size) { s with heap := s.heap.push { cls := .type "tuple", data := .seq #[y, x] } }) : wpAny (model prog w) A (getItem (.ref t) (.ref sl)) Q E s := by
  have htake : sizeOk (.seq (#[y, x] : Array Value)) := by
    show 2 ≤ sizeLine
    decide
  obtain ⟨os, hos, hcs, hds⟩ := id hs
  have hTs : s.TypeIs (.ref sl) "slice" := ⟨os, hos, hcs⟩
  unfold getItem
  try with_reducible refine wpAny_holding ?_
  first | refine wpAny_bind (wpAny_pure ?_) | skip
  refine wpAny_bind (wpAny_sequenceKey ht.typeIs (by decide) ?_)
  refine wpAny_bind (wpAny_callSpecial?_slot (name := Str.ofString "__getitem__") ht.typeIs PyProof.Rows.slot_tuple_getitem
    (wpAny_call_entry PyProof.Rows.slot_tuple_getitem ht.typeIs entry_tuple_getitem ?_ (args_tuple_getitem _ _)))
  show wpAny _ _ (Builtin.Tuple.tupleItemsOf (.ref t) >>= _) _ _ s
  refine wpAny_bind (tupleItemsOf_ ht ?_)
  refine wpAny_bind (wpAny_typeOf hTs ?_)
  rw [if_pos (by decide)]
  refine wpAny_bind (slice_rev2 hs pl pu ps ?_)
  show wpAny _ _ (if (((1 : Int) == 0 && (-1 : Int) == 1 && (2 : Nat) == 2) = true) then _ else _) _ _ s
  rw [if_neg (by decide)]
  first
    | exact wpAny_bind (m := Builtin.Tuple.tupleExact _) (wpAny_newObj_type (wpAny_pure ⟨_, rfl, wpAny_pure h⟩) htake)
    | exact wpAny_bind (m := Builtin.Tuple.tupleExact _) (wpAny_newObj_type (wpAny_bind (wpAny_pure (wpAny_pure ⟨_, rfl, wpAny_pure h⟩))) htake)
    | exact wpAny_bind (wpAny_bind (m := Builtin.Tuple.tupleExact _) (wpAny_newObj_type (wpAny_pure (wpAny_pure ⟨_, rfl, wpAny_pure h⟩)) htake))
    | exact wpAny_bind (wpAny_bind (m := Builtin.Tuple.tupleExact _) (wpAny_newObj_type (wpAny_pure ⟨_, rfl, wpAny_pure h⟩) htake))
end
section
variable {X : Cx}
/-- t[::-1], t a pair -/
def tRevT (K : PySem.W.Frag) (te : TE) : TE := fun σ H Q => te σ H fun v H1 => ∃ a x y, v = .ref a ∧ SqT K H1 a [x, y] ∧ ∀ p, H1 p = none → Q (.ref p) (upd H1 p (.tup [y, x]))
theorem pe_revT {e : Expr} {te : TE} {k : Nat} {p1 p2 p3 pos : Pos} (he : PE X e te) : PE X (.Subscript e (.Slice none none (some (.UnaryOp .USub (.Constant (.int 1) k p1) p2)) p3) pos) (tRevT X.K te) := by
  refine ⟨fun pins s σ H Q I h => ?_⟩
  refine Subscript_ (thn (he.run pins s σ H _ I h) fun v s1 ⟨z, H1, I1, r1, q1⟩ => ?_)
  obtain ⟨a, x, y, ex, hx, q⟩ := q1
  subst ex
  cases r1
  have hst : PO X (some (.UnaryOp .USub (.Constant (.int 1) k p1) p2)) (tPart (tUn (rU fun i => .int (-i)) (tC (.int 1)))) := po_some (pe_un un_neg pe_int)
  refine wpAny_Slice (thn (po_none.run pins s1 σ H1 (fun o H2 => o = none ∧ H2 = H1) I1 ⟨rfl, rfl⟩) fun vl s2 ⟨l, H2, I2, pl, el, e2⟩ => ?_)
  subst el e2
  refine thn (po_none.run pins s2 σ H2 (fun o H3 => o = none ∧ H3 = H2) I2 ⟨rfl, rfl⟩) fun vu s3 ⟨u, H3, I3, pu, eu, e3⟩ => ?_
  subst eu e3
  refine thn (hst.run pins s3 σ H3 (fun o H4 => o = some (-1) ∧ H4 = H3) I3 ⟨1, rfl, -1, rfl, rfl, rfl⟩) fun vs s4 ⟨o, H4, I4, ps, eo, e4⟩ => ?_
  subst eo e4
  have I5 : Inv X pins σ H4 { s4 with heap := s4.heap.push { cls := .type "slice", data := .fields #[vl, vu, vs] } } := I4.kept (t' := s4.toks) fun b ob q => Heap.get?_push_of_some _ q
  obtain ⟨its, r, ht, hz⟩ := I5.tuple hx
  obtain ⟨ua, ub, rfl, ra, rb⟩ := vals2 r
  show wpAny (model X.prog X.w) X.A (subscriptTail e (.Slice none none (some (.UnaryOp .USub (.Constant (.int 1) k p1) p2)) p3) (.ref a) (.ref s4.heap.objs.size)) (EP X pins σ Q) X.xe { s4 with heap := s4.heap.push { cls := .type "slice", data := .fields #[vl, vu, vs] } }
  refine tail_any (ops := [.ref a, .ref s4.heap.objs.size]) ht.typeIs (PyProof.Rows.slot_tuple_getitem.lookup) ?_ (by with_unfolding_all rfl)
  refine item_rev2 ht (Heap.IsSliceOf.new _ vl vu vs) pl pu ps ?_
  refine ⟨.ref _, _, I5.laid (t' := s4.toks) (o := .tup [y, x]) (fun b ob q => Heap.get?_push_of_some _ q) (Nat.le_refl _) ?_, rfl, q _ (I5.hok.fresh (Nat.le_refl _))⟩
  exact ⟨by show 2 ≤ sizeLine; decide, [ub, ua], .cons rb (.cons ra .nil), IsTup.new _ _⟩
end

theorem mem_dims {rows : List (List Int)} {w B : Nat} (h : ∀ r ∈ rows, r.length = w ∧ ∀ y ∈ r, y.natAbs ≤ B) {r : List Int} (hr : r ∈ rows) : r.length = w := (h r hr).1
/-- a table as the program takes it: 1 to 8 rows of 1 to 8 -/
structure TabOk (H : Hp) (p : Addr) (as : List Addr) (rows : List (List Int)) (m w : Nat) : Prop where
  tab : Tab H p as rows
  m_ : rows.length = m
  w_ : ∀ r ∈ rows, r.length = w
  b : 1 ≤ m ∧ m ≤ 8 ∧ 1 ≤ w ∧ w ≤ 8
theorem TabOk.ex {H H' : Hp} {p : Addr} {as : List Addr} {rows : List (List Int)} {m w : Nat} (h : TabOk H p as rows m w) (e : Ex H H') : TabOk H' p as rows m w := ⟨h.tab.ex e, h.m_, h.w_, h.b⟩
theorem TabOk.al {H : Hp} {p : Addr} {as : List Addr} {rows : List (List Int)} {m w : Nat} (h : TabOk H p as rows m w) : as.length = m := by rw [Paired.length h.tab.2, h.m_]
theorem TabOk.row0 {H : Hp} {p : Addr} {as : List Addr} {rows : List (List Int)} {m w : Nat} (h : TabOk H p as rows m w) : ∃ a0 r0, as[0]? = some a0 ∧ rows[0]? = some r0 ∧ H a0 = some (.lst (r0.map V.int)) ∧ r0.length = w ∧ atI (as.map V.ref) 0 = some (.ref a0) := by
  have hb := h.b
  have hl := h.al
  obtain ⟨a0, ha0⟩ : ∃ a0, as[0]? = some a0 := ⟨_, List.getElem?_eq_getElem (by omega)⟩
  obtain ⟨r0, hr0, hh⟩ := paired_get h.tab.2 ha0
  exact ⟨a0, r0, ha0, hr0, hh, h.w_ r0 (List.mem_of_getElem? hr0), atI_nat (j := 0) (by rw [List.getElem?_map, ha0]; rfl)⟩
theorem all_true (n : Nat) : (List.replicate n true).all id = true := by
  induction n with
  | zero => rfl
  | succ n ih => rw [List.replicate_succ, List.all_cons, ih]; rfl
/-- [f(x) for x in xs], each True -/
theorem el_yes {K : PySem.W.Frag} {n j : Nat} {a : Addr} {xs : List V} {te : TE} {vs : List Nat} {σ : L2.St} {H : Hp} (hσ : σ[n]? = some (some (.ref a))) (hx : H a = some (.lst xs)) (hl : xs.length ≤ 1000)
    (hs : ∀ x H', x ∈ xs → Ex H H' → Ev te ((wipe σ vs).set j (some x)) H' (.bl true)) (hw : ∀ x, wipe ((wipe σ vs).set j (some x)) vs = wipe σ vs) : EvL (tLc (iList K (tVar n)) (gName j) tYes te vs) σ H ((List.replicate xs.length true).map V.bl) := by
  intro H0 e0 Q0 q0
  have hx0 := e0 _ _ hx
  refine ⟨_, hσ, a, rfl, ⟨_, SqL.of hx0⟩, fun D hD => ?_⟩
  refine lc_list (K := K) (a := a) (xs := xs) (fun i H' => Ex H0 H' ∧ H' D = some (.lst ((List.replicate i true).map V.bl))) ⟨Ex.new hD, upd_same⟩ (fun i H' _ p => SqL.of (p.1 _ _ hx0)) (fun i x H' gx p => ?_) (fun H' p => ?_)
  · obtain ⟨p1, p2⟩ := p
    have hi := (List.getElem?_eq_some_iff.mp gx).1
    refine ⟨hw _, ?_⟩
    show te _ _ _
    refine hs x H (List.mem_of_getElem? gx) (Ex.refl H) _ (e0.trans p1) _ fun H4 e4 => ?_
    refine ⟨_, e4 _ _ p2, ?_, Ex.mut (p1.trans e4) hD, ?_⟩
    · rw [List.length_map, List.length_replicate]
      exact small1000 (by omega)
    · rw [upd_same, List.replicate_succ', List.map_append]
      rfl
  · obtain ⟨p1, p2⟩ := p
    exact q0 D H' hD p1 p2
theorem ev_all {K : PySem.W.Frag} {ta : TE} {n : Nat} {σ : L2.St} {H : Hp} (h : EvL ta σ H ((List.replicate n true).map V.bl)) : Ev (tCB (rAll K) (tCons ta tNil)) σ H (.bl true) := fun H1 e Q q =>
  h H1 e _ fun p H2 _ e2 hp => ⟨p, _, rfl, SqL.of hp, by rw [all_true]; exact q H2 e2⟩
theorem ev_fn {sp : Sp} {E : XK} {ta : TA} {σ : L2.St} {H : Hp} {vs : List V} {z : V} (h : EvA ta σ H vs) (hs : ∀ H1, Ex H H1 → ∀ Q : VK, (∀ H2, Ex H1 H2 → Q z H2) → sp vs H1 Q E) : Ev (tCall sp [] E ta) σ H z := fun H1 e Q q =>
  h H1 e _ fun H2 e2 => by
    rw [List.append_nil]
    exact hs H2 (e.trans e2) Q fun H3 e3 => q H3 (e2.trans e3)
theorem ev_isi {K : PySem.W.Frag} {ta tb : TE} {σ : L2.St} {H : Hp} {x : V} {n : String} {t : String} {b : Bool} (ha : Ev ta σ H x) (hb : Ev tb σ H (.ty n)) (ht : ∀ H1, Ex H H1 → TyX K H1 x (.type t)) (hk : kitB t n = some b) : Ev (tCB (rIsi K) (tCons ta (tCons tb tNil))) σ H (.bl b) := fun H1 e Q q =>
  ha H1 e _ fun H2 e2 => hb H2 (e.trans e2) _ fun H3 e3 => ⟨x, .ty n, _, _, b, rfl, .ty n, ht H3 ((e.trans e2).trans e3), kit_ty hk, q H3 (e2.trans e3)⟩
theorem rv_le {i j : Int} {H : Hp} : RV (rI0 fun i j => .bl (decide (i ≤ j))) (.int i) (.int j) H (.bl (decide (i ≤ j))) := rv_I0
/-- a rising list of places below n -/
def Rising (n : Int) (ns : List Int) : Prop := (∀ x ∈ ns, 0 ≤ x ∧ x < n) ∧ ns.Pairwise (· < ·)

/-- [[..] for y in ys], ys whole numbers: new rows -/
theorem lc_rowsL {K : PySem.W.Frag} {nn : Nat} {te : TE} {vs : List Nat} {j : Nat} {σ : L2.St} {H : Hp} {Q : VK} {a : Addr} {ys : List Int} (F : Int → List Int) (hσ : σ[nn]? = some (some (.ref a))) (hx : H a = some (.lst (ys.map V.int))) (hm : ys.length ≤ 1000) (hw : ∀ u, wipe ((wipe σ vs).set j (some u)) vs = wipe σ vs)
    (he : ∀ y H1, y ∈ ys → Ex H H1 → EvL te ((wipe σ vs).set j (some (.int y))) H1 ((F y).map V.int))
    (k : ∀ p as H2, H p = none → (∀ a ∈ as, H a = none) → as.Nodup → p ∉ as → Ex H H2 → Tab H2 p as (ys.map F) → Q (.ref p) H2) : tLc (iList K (tVar nn)) (gName j) tYes te vs σ H Q := by
  refine ⟨_, hσ, a, rfl, ⟨_, SqL.of hx⟩, fun D hD => ?_⟩
  refine lc_list (K := K) (a := a) (xs := ys.map V.int) (fun i H' => ∃ as, Ex H H' ∧ H' D = some (.lst (as.map V.ref)) ∧ RowsAt H' as ((ys.take i).map F) ∧ (∀ a ∈ as, H a = none) ∧ as.Nodup ∧ D ∉ as) ⟨[], Ex.new hD, upd_same, .nil, fun a ha => by simp at ha, List.nodup_nil, by simp⟩ (fun i H' _ ⟨_, p1, _⟩ => SqL.of (p1 _ _ hx)) (fun i x H' gx p => ?_) (fun H' p => ?_)
  · obtain ⟨as, p1, p2, p3, p4, p5, p6⟩ := p
    rw [List.getElem?_map] at gx
    obtain ⟨y, hy, rfl⟩ := Option.map_eq_some_iff.mp gx
    have hi := (List.getElem?_eq_some_iff.mp hy).1
    have el : as.length = i := by rw [Paired.length p3, List.length_map, List.length_take]; omega
    refine ⟨hw _, ?_⟩
    show te _ H' _
    refine he y H' (List.mem_of_getElem? hy) p1 H' (Ex.refl _) _ fun r H4 nr e4 hr => ?_
    have nrD : r ≠ D := fun z => by
      rw [z, p2] at nr
      cases nr
    refine ⟨_, e4 _ _ p2, ?_, as ++ [r], Ex.mut (p1.trans e4) hD, ?_, ?_, ?_, ?_, ?_⟩
    · rw [List.length_map, el]
      exact small1000 (by omega)
    · rw [upd_same, List.map_append]
      rfl
    · rw [take_snoc hy, List.map_append]
      refine paired_snoc (rows_but p3 fun b hb o g => ?_) ?_
      · rw [upd_ne (fun z => p6 (by rw [← z]; exact hb))]
        exact e4 _ _ g
      · rw [upd_ne nrD]
        exact hr
    · intro b hb
      rcases List.mem_append.mp hb with h | h
      · exact p4 b h
      · rw [show b = r by simpa using h]
        exact fresh_back p1 nr
    · refine List.nodup_append.mpr ⟨p5, by simp, fun b hb c hc z => ?_⟩
      have : c = r := by simpa using hc
      have hb' : r ∈ as := by rw [← this, ← z]; exact hb
      obtain ⟨x, _, hx'⟩ := paired_mem p3 hb'
      rw [nr] at hx'
      cases hx'
    · intro hb
      rcases List.mem_append.mp hb with h | h
      · exact p6 h
      · exact nrD (by simpa using h : D = r).symm
  · obtain ⟨as, p1, p2, p3, p4, p5, p6⟩ := p
    rw [List.length_map, List.take_length] at p3
    exact k D as H' hD p4 p5 p6 p1 ⟨p2, p3⟩
/-- [f(y) for y in ys], ys whole numbers -/
theorem el_mapI {K : PySem.W.Frag} {n : Nat} {te : TE} {vs : List Nat} {j : Nat} {σ : L2.St} {H : Hp} {a : Addr} {qs : List Int} (f : Int → Int) (hσ : σ[n]? = some (some (.ref a))) (hx : H a = some (.lst (qs.map V.int))) (hz : qs.length ≤ 1000)
    (hw : ∀ u, wipe ((wipe σ vs).set j (some u)) vs = wipe σ vs)
    (he : ∀ y H1, y ∈ qs → Ex H H1 → Ev te ((wipe σ vs).set j (some (.int y))) H1 (.int (f y))) : EvL (tLc (iList K (tVar n)) (gName j) tYes te vs) σ H ((qs.map f).map V.int) := fun H1 e1 Q q => by
  have hx1 := e1 _ _ hx
  refine ⟨_, hσ, a, rfl, ⟨_, SqL.of hx1⟩, fun D hD => ?_⟩
  refine lc_list (K := K) (a := a) (xs := qs.map V.int) (fun i H' => Ex H1 H' ∧ H' D = some (.lst (((qs.map f).take i).map V.int))) ⟨Ex.new hD, upd_same⟩ (fun i H' _ p => SqL.of (p.1 _ _ hx1)) (fun i x H' gx p => ?_) (fun H' p => ?_)
  · obtain ⟨p1, p2⟩ := p
    rw [List.getElem?_map] at gx
    obtain ⟨b, hb, rfl⟩ := Option.map_eq_some_iff.mp gx
    refine ⟨hw _, ?_⟩
    show te _ _ _
    refine he b H (List.mem_of_getElem? hb) (Ex.refl H) _ (e1.trans p1) _ fun H4 e4 => ?_
    refine ⟨_, e4 _ _ p2, ?_, Ex.mut (p1.trans e4) hD, ?_⟩
    · rw [List.length_map, List.length_take, List.length_map]
      exact small1000 (by omega)
    · have hzz : (qs.map f)[i]? = some (f b) := by rw [List.getElem?_map, hb]; rfl
      rw [upd_same, take_snoc hzz, List.map_append]
      rfl
  · obtain ⟨p1, p2⟩ := p
    rw [List.take_of_length_le (by rw [List.length_map, List.length_map]; omega)] at p2
    exact q D H' hD p1 p2
theorem TabOk.row {H : Hp} {p : Addr} {as : List Addr} {rows : List (List Int)} {m w : Nat} (h : TabOk H p as rows m w) {i : Int} (h0 : 0 ≤ i) (h1 : i < m) : ∃ a r, atI (as.map V.ref) i = some (.ref a) ∧ rows[i.toNat]? = some r ∧ H a = some (.lst (r.map V.int)) ∧ r.length = w := by
  have hl := h.al
  obtain ⟨a, ha⟩ : ∃ a, as[i.toNat]? = some a := ⟨_, List.getElem?_eq_getElem (by omega)⟩
  obtain ⟨r, hr, hh⟩ := paired_get h.tab.2 ha
  exact ⟨a, r, at_of (j := i.toNat) (by omega) (by rw [List.getElem?_map, ha]; rfl), hr, hh, h.w_ r (List.mem_of_getElem? hr)⟩
theorem atI_rowI {ns : List Int} {i : Int} (h0 : 0 ≤ i) (h : i < ns.length) : atI (ns.map V.int) i = some (.int (ns[i.toNat]?.getD 0)) := by
  have e : i = ((i.toNat : Nat) : Int) := by omega
  have h2 := atI_row (ns := ns) (kk := i.toNat) (by omega)
  rw [← e] at h2
  exact h2

/-- [[..] for x, row in zip(xs, rows)]: new rows -/
theorem lc_rowsZ {K : PySem.W.Frag} {ta : TA} {te : TE} {vs : List Nat} {j1 j2 : Nat} {σ : L2.St} {H : Hp} {Q : VK} {a b : Addr} {xs : List Int} {as : List Addr} {rows : List (List Int)} (F : Int → List Int → List Int) (h : EvA ta σ H [.ref a, .ref b]) (hx : H a = some (.lst (xs.map V.int))) (ht : Tab H b as rows) (hl : xs.length = rows.length) (hz : xs.length ≤ 1000)
    (hw : ∀ u v, wipe (((wipe σ vs).set j1 (some u)).set j2 (some v)) vs = wipe σ vs)
    (he : ∀ x c r H1, x ∈ xs → r ∈ rows → H c = some (.lst (r.map V.int)) → Ex H H1 → EvL te (((wipe σ vs).set j1 (some (.int x))).set j2 (some (.ref c))) H1 ((F x r).map V.int))
    (k : ∀ p bs H2, H p = none → (∀ a ∈ bs, H a = none) → bs.Nodup → p ∉ bs → Ex H H2 → Tab H2 p bs (List.zipWith F xs rows) → Q (.ref p) H2) : tLc (iZip K ta) (g2 K j1 j2) tYes te vs σ H Q := by
  refine h H (Ex.refl H) _ fun H1 e1 => ⟨a, b, _, _, rfl, SqL.of (e1 _ _ hx), SqL.of (e1 _ _ ht.1), fun D hD => ?_⟩
  have hDH : H D = none := fresh_back e1 hD
  have el0 : as.length = rows.length := Paired.length ht.2
  refine lc_zip (xs := xs.map V.int) (ys := as.map V.ref) (by rw [List.length_map, List.length_map, el0]; exact hl) (fun i H' => ∃ bs, Ex H1 H' ∧ H' D = some (.lst (bs.map V.ref)) ∧ RowsAt H' bs ((List.zipWith F xs rows).take i) ∧ (∀ a ∈ bs, H a = none) ∧ bs.Nodup ∧ D ∉ bs) ⟨[], Ex.new hD, upd_same, .nil, fun a ha => by simp at ha, List.nodup_nil, by simp⟩ (fun i H' ⟨_, p1, _⟩ => ⟨SqL.of ((e1.trans p1) _ _ hx), SqL.of ((e1.trans p1) _ _ ht.1)⟩) (fun i x y T H' gx gy p nT => ?_) (fun H' p => ?_)
  · obtain ⟨bs, p1, p2, p3, p4, p5, p6⟩ := p
    rw [List.getElem?_map] at gx gy
    obtain ⟨x', hx', rfl⟩ := Option.map_eq_some_iff.mp gx
    obtain ⟨c, hc, rfl⟩ := Option.map_eq_some_iff.mp gy
    obtain ⟨r, hr, hh⟩ := paired_get ht.2 hc
    have hi := (List.getElem?_eq_some_iff.mp hx').1
    have el : bs.length = i := by rw [Paired.length p3, List.length_take, List.length_zipWith]; omega
    have xT : Ex H' (upd H' T (.tup [.int x', .ref c])) := Ex.new nT
    refine ⟨T, _, rfl, SqT.of upd_same, rfl, _, _, rfl, _, _, rfl, rfl, hw _ _, ?_⟩
    show te _ _ _
    refine he x' c r H (List.mem_of_getElem? hx') (List.mem_of_getElem? hr) hh (Ex.refl H) _ ((e1.trans p1).trans xT) _ fun q H4 nq e4 hq => ?_
    have nqD : q ≠ D := fun z => by
      rw [z, xT _ _ p2] at nq
      cases nq
    have nqH' : H' q = none := fresh_back xT nq
    refine ⟨_, e4 _ _ (xT _ _ p2), ?_, bs ++ [q], Ex.mut ((p1.trans xT).trans e4) hD, ?_, ?_, ?_, ?_, ?_⟩
    · rw [List.length_map, el]
      exact small1000 (by omega)
    · rw [upd_same, List.map_append]
      rfl
    · have hzz : (List.zipWith F xs rows)[i]? = some (F x' r) := by rw [List.getElem?_zipWith, hx', hr]
      rw [take_snoc hzz]
      refine paired_snoc (rows_but p3 fun b hb o g => ?_) ?_
      · rw [upd_ne (fun z => p6 (by rw [← z]; exact hb))]
        exact e4 _ _ (xT _ _ g)
      · rw [upd_ne nqD]
        exact hq
    · intro b hb
      rcases List.mem_append.mp hb with h | h
      · exact p4 b h
      · rw [show b = q by simpa using h]
        exact fresh_back (e1.trans p1) nqH'
    · refine List.nodup_append.mpr ⟨p5, by simp, fun b hb c' hc' z => ?_⟩
      have : c' = q := by simpa using hc'
      have hb' : q ∈ bs := by rw [← this, ← z]; exact hb
      obtain ⟨y, _, hy⟩ := paired_mem p3 hb'
      rw [nqH'] at hy
      cases hy
    · intro hb
      rcases List.mem_append.mp hb with h | h
      · exact p6 h
      · exact nqD (by simpa using h : D = q).symm
  · obtain ⟨bs, p1, p2, p3, p4, p5, p6⟩ := p
    rw [List.take_of_length_le (by rw [List.length_zipWith, List.length_map]; omega)] at p3
    exact k D bs H' hDH p4 p5 p6 (e1.trans p1) ⟨p2, p3⟩
theorem flat_ints (ns : List Int) : (ns.map V.int).all flatV = true := by
  rw [List.all_eq_true]
  intro x hx
  obtain ⟨i, _, rfl⟩ := List.mem_map.mp hx
  rfl
/-- -1 at the picked places, else 1 -/
def sgnAt (ns : List Int) (kk : Nat) : Int := if inV (.int (kk : Int)) (ns.map V.int) = true then -1 else 1
theorem sgnAt_two (ns : List Int) (kk : Nat) : sgnAt ns kk = 1 ∨ sgnAt ns kk = -1 := by
  unfold sgnAt
  split
  · exact .inr rfl
  · exact .inl rfl
def sgns (ns : List Int) (m : Nat) : List Int := (List.range m).map (sgnAt ns)
theorem sgns_mem {ns : List Int} {m : Nat} {x : Int} (h : x ∈ sgns ns m) : x = 1 ∨ x = -1 := by
  obtain ⟨kk, _, rfl⟩ := List.mem_map.mp h
  exact sgnAt_two ns kk
def signedOf (rows : List (List Int)) (ris cis : List Int) (m w : Nat) : List (List Int) := List.zipWith (fun s r => List.zipWith (fun c y => s * c * y) (sgns cis w) r) (sgns ris m) rows
theorem bd_sgn {x : Int} (h : x = 1 ∨ x = -1) : Bd 2 x := by
  rcases h with rfl | rfl <;> (unfold Bd; decide)

/-! ### values of any kind -/
/-- all that is no table of code and doesn't stand at s stays -/
def Kp (s : Addr) (H H' : Hp) : Prop := ∀ b o, b ≠ s → H b = some o → (∀ ps, o ≠ .tbl ps) → H' b = some o
theorem Kp.of {s : Addr} {H H' : Hp} (e : Ex H H') : Kp s H H' := fun b o _ h _ => e b o h
theorem Kp.ofB {s : Addr} {H H' : Hp} (e : ExB s H H') : Kp s H H' := fun b o n h _ => e b o n h
theorem Kp.ofN {s : Addr} {H H' : Hp} (e : LamX.ExtN H H') : Kp s H H' := fun b o _ h n => e b o h n
theorem Kp.trans {s : Addr} {H H1 H2 : Hp} (a : Kp s H H1) (b : Kp s H1 H2) : Kp s H H2 := fun c o n h z => b c o n (a c o n h z) z
inductive Kd (s : Addr) (H : Hp) : V → String → Prop
  | non : Kd s H .non "NoneType"
  | bl (b : Bool) : Kd s H (.bl b) "bool"
  | int (i : Int) : Kd s H (.int i) "int"
  | str (x : Str) : Kd s H (.str x) "str"
  | lst {a : Addr} {xs : List V} (h : H a = some (.lst xs)) (n : a ≠ s) : Kd s H (.ref a) "list"
  | tup {a : Addr} {xs : List V} (h : H a = some (.tup xs)) (n : a ≠ s) : Kd s H (.ref a) "tuple"
  | dct {a : Addr} {kvs : List (Key × V)} (h : H a = some (.dK kvs)) (n : a ≠ s) : Kd s H (.ref a) "dict"
theorem Kd.kp {s : Addr} {H H' : Hp} {v : V} {t : String} (h : Kd s H v t) (e : Kp s H H') : Kd s H' v t := by
  cases h with
  | non => exact .non
  | bl b => exact .bl b
  | int i => exact .int i
  | str x => exact .str x
  | lst h n => exact .lst (e _ _ n h (fun _ z => by cases z)) n
  | tup h n => exact .tup (e _ _ n h (fun _ z => by cases z)) n
  | dct h n => exact .dct (e _ _ n h (fun _ z => by cases z)) n
theorem Kd.ty {s : Addr} {H : Hp} {v : V} {t : String} (h : Kd s H v t) : tyOk t := by
  cases h <;> simp [tyOk]
theorem Kd.tyX {K : PySem.W.Frag} {s : Addr} {H : Hp} {v : V} {t : String} (h : Kd s H v t) : TyX K H v (.type t) := by
  cases h with
  | non => exact .base .non
  | bl b => exact .base (.bl b)
  | int i => exact .base (.int i)
  | str x => exact .base (.str x)
  | lst h n => exact .base (.lst h)
  | tup h n => exact .base (.tup h)
  | dct h n => exact .base (.dK h)
theorem ev_isK {K : PySem.W.Frag} {ta tb : TE} {σ : L2.St} {H : Hp} {x : V} {s : Addr} {n t : String} {b : Bool} (ha : Ev ta σ H x) (hb : Ev tb σ H (.ty n)) (ht : Kd s H x t) (hk : kitB t n = some b) : Ev (tCB (rIsi K) (tCons ta (tCons tb tNil))) σ H (.bl b) :=
  ev_isi ha hb (fun H1 e => (ht.kp (.of e)).tyX) hk
/-- an item that may be anything -/
def ItemV (s : Addr) (H : Hp) (x : V) : Prop := (∃ i, x = .int i) ∨ ∃ t, t ≠ "int" ∧ Kd s H x t
theorem ItemV.kp {s : Addr} {H H' : Hp} {x : V} (h : ItemV s H x) (e : Kp s H H') : ItemV s H' x := by
  rcases h with h | ⟨t, n, k⟩
  · exact .inl h
  · exact .inr ⟨t, n, k.kp e⟩
def scan (n : Int) : Int → List V → Nat → Option Nat
  | _, [], _ => none
  | last, .int i :: r, k => if 0 ≤ i ∧ i < n ∧ last < i then scan n i r (k + 1) else some k
  | _, _ :: _, k => some k
theorem scan_non {s : Addr} {H : Hp} {n last : Int} {x : V} {r : List V} {k : Nat} {t : String} (h : Kd s H x t) (n1 : t ≠ "int") : scan n last (x :: r) k = some k := by
  cases h <;> first | rfl | exact absurd rfl n1
theorem scan_lt {n : Int} : ∀ {xs : List V} {last : Int} {k i : Nat}, scan n last xs k = some i → i < k + xs.length
  | [], _, _, _, h => by cases h
  | .int v :: r, last, k, i, h => by
    unfold scan at h
    split at h
    · have := scan_lt h
      simp only [List.length_cons]
      omega
    · cases h
      simp only [List.length_cons]
      omega
  | .non :: r, _, k, i, h => by cases h; simp only [List.length_cons]; omega
  | .bl _ :: r, _, k, i, h => by cases h; simp only [List.length_cons]; omega
  | .str _ :: r, _, k, i, h => by cases h; simp only [List.length_cons]; omega
  | .byt _ :: r, _, k, i, h => by cases h; simp only [List.length_cons]; omega
  | .flt _ :: r, _, k, i, h => by cases h; simp only [List.length_cons]; omega
  | .ref _ :: r, _, k, i, h => by cases h; simp only [List.length_cons]; omega
  | .ty _ :: r, _, k, i, h => by cases h; simp only [List.length_cons]; omega
theorem scan_ok {n : Int} : ∀ {xs : List V} {last : Int} {k : Nat}, scan n last xs k = none → ∃ ns : List Int, xs = ns.map V.int ∧ (∀ x ∈ ns, 0 ≤ x ∧ x < n ∧ last < x) ∧ ns.Pairwise (· < ·)
  | [], _, _, _ => ⟨[], rfl, fun x hx => by simp at hx, .nil⟩
  | .int v :: r, last, k, h => by
    unfold scan at h
    split at h
    · rename_i c
      obtain ⟨ns, e, h1, h2⟩ := scan_ok h
      refine ⟨v :: ns, by rw [e]; rfl, fun x hx => ?_, .cons (fun y hy => (h1 y hy).2.2) h2⟩
      rcases List.mem_cons.mp hx with rfl | hx
      · exact c
      · have := h1 x hx
        omega
    · cases h
  | .non :: r, _, k, h => by cases h
  | .bl _ :: r, _, k, h => by cases h
  | .str _ :: r, _, k, h => by cases h
  | .byt _ :: r, _, k, h => by cases h
  | .flt _ :: r, _, k, h => by cases h
  | .ref _ :: r, _, k, h => by cases h
  | .ty _ :: r, _, k, h => by cases h
/-- what may be handed in as a pick: a list of things, or what is none -/
inductive PickAt (s : Addr) (H : Hp) : V → Option (List V) → Prop
  | lst {a : Addr} {xs : List V} (h : H a = some (.lst xs)) (n : a ≠ s) (l : xs.length ≤ 20) (i : ∀ x ∈ xs, ItemV s H x) : PickAt s H (.ref a) (some xs)
  | oth {v : V} {t : String} (h : Kd s H v t) (n : t ≠ "list") : PickAt s H v none
theorem PickAt.kp {s : Addr} {H H' : Hp} {v : V} {p : Option (List V)} (h : PickAt s H v p) (e : Kp s H H') : PickAt s H' v p := by
  cases h with
  | lst h n l i => exact .lst (e _ _ n h (fun _ z => by cases z)) n l fun x hx => (i x hx).kp e
  | oth h n => exact .oth (h.kp e) n
def firstOf (p : Option (List V)) (n : Int) (least : Nat) : Option Int := match p with
  | none => some (-1)
  | some xs => if xs.length < least then some (-1) else match scan n (-1) xs 0 with
    | none => none
    | some k => some (k : Int)
theorem first_few {xs : List V} {n : Int} {least : Nat} (h : xs.length < least) : firstOf (some xs) n least = some (-1) := if_pos h
theorem first_bad {xs : List V} {n : Int} {least i : Nat} (h : ¬ xs.length < least) (z : scan n (-1) xs 0 = some i) : firstOf (some xs) n least = some (i : Int) := by
  unfold firstOf
  dsimp only
  rw [if_neg h, z]
theorem first_ok {xs : List V} {n : Int} {least : Nat} (h : ¬ xs.length < least) (z : scan n (-1) xs 0 = none) : firstOf (some xs) n least = none := by
  unfold firstOf
  dsimp only
  rw [if_neg h, z]
theorem first_none {xs : List V} {n : Int} {least : Nat} (h : firstOf (some xs) n least = none) : least ≤ xs.length ∧ scan n (-1) xs 0 = none := by
  unfold firstOf at h
  dsimp only at h
  split at h
  · cases h
  · rename_i c
    cases e : scan n (-1) xs 0 with
    | none => exact ⟨Nat.le_of_not_lt c, rfl⟩
    | some k =>
      rw [e] at h
      cases h
/-! ### NoPick -/
def RaiseNP (C : Addr) (H : Hp) (i : Int) (E : XK) : Prop := ∀ d H', Ex H H' → H' d = some (.xd [("at", .int i)]) → E (.ref C) (some d) H'
theorem RaiseNP.ex {C : Addr} {H H1 : Hp} {i : Int} {E : XK} (h : RaiseNP C H i E) (e : Ex H H1) : RaiseNP C H1 i E := fun d H' e' => h d H' (e.trans e')
def spNP (K : PySem.W.Frag) : Sp := fun vs H Q _ => ∃ (a C CS : Addr) (i : Int), vs = [.ref a, .int i] ∧ OwnA K C CS ∧ PySem.W.findIn K (.ref C) "at" = some none ∧ i.natAbs.log2 < 1920 ∧ H a = some (exo a C none) ∧ ∀ dx, H dx = none → dx ≠ a → Q .non (upd (upd H dx (exd dx [("at", .int i)])) a (exo a C (some dx)))
theorem np_made {K : PySem.W.Frag} {C CS : Addr} (own : OwnA K C CS) (no : PySem.W.findIn K (.ref C) "at" = some none) {H1 : Hp} {i : Int} {W : XK} (hi : i.natAbs.log2 < 1920) (h : RaiseNP C H1 i W) :
    [V.int i].length ≤ 1000 ∧ ∀ a, H1 a = none → spNP K (.ref a :: [V.int i]) (upd H1 a (exo a C none))
      (fun v H2 => v = .non ∧ ∃ (d : Addr) (fs : List (Str × V)), H2 a = some (exo a C (some d)) ∧ H2 d = some (exd d fs) ∧ H1 d = none ∧ W (.ref C) (some d) (upd (del H2 a) d (.xd fs))) (fun _ _ _ => False) := by
  refine ⟨(by show 1 ≤ 1000; decide), fun a ha => ⟨a, C, CS, i, rfl, own, no, hi, upd_same, fun dx hd nd => ⟨rfl, dx, [("at", .int i)], upd_same, ?_, ?_, ?_⟩⟩⟩
  · rw [upd_ne nd]
    exact upd_same
  · rw [upd_ne nd] at hd
    exact hd
  · rw [upd_ne nd] at hd
    exact h dx _ (fun b o hb => excH_keep ha hd hb) excH_at
theorem log_small {i : Int} (h : -1 ≤ i) (h2 : i ≤ 100) : i.natAbs.log2 < 1920 := by
  by_cases z : i.natAbs = 0
  · rw [z]
    decide
  · exact (Nat.log2_lt z).mpr (Nat.lt_of_le_of_lt (show i.natAbs ≤ 100 by omega) (by decide +kernel))
theorem int_text_small {i : Int} (h : i.natAbs.log2 < 1920) : (Str.ofString (toString i)).length ≤ 1000 := by
  have h2 : i.natAbs < 10 ^ 600 := by
    by_cases z : i.natAbs = 0
    · rw [z]; decide +kernel
    · exact Nat.lt_of_lt_of_le ((Nat.log2_lt z).mp h) (by decide +kernel)
  have e := PySem.int_text_length_le10 (k := 600) (by decide) h2
  rw [PySem.ofString_length]
  omega
/-! ### fractions -/
def gcdI (t b : Int) : Int := ((Nat.gcd t.natAbs b.natAbs : Nat) : Int)
/-- the divisor that fraction takes -/
def comI (t b : Int) : Int := if b < 0 then -(gcdI t b) else gcdI t b
theorem gcdI_pos {t b : Int} (h : b ≠ 0) : 0 < gcdI t b := by
  unfold gcdI
  have : 0 < Nat.gcd t.natAbs b.natAbs := Nat.gcd_pos_of_pos_right _ (by omega)
  omega
theorem comI_ne {t b : Int} (h : b ≠ 0) : comI t b ≠ 0 := by
  have := gcdI_pos (t := t) h
  unfold comI
  split <;> omega
theorem gcdI_le {t b : Int} (h : b ≠ 0) : (gcdI t b).natAbs ≤ b.natAbs := by
  unfold gcdI
  rw [Int.natAbs_natCast]
  exact Nat.gcd_le_right _ (by omega)
theorem comI_bd {t b : Int} {n : Nat} (h : b ≠ 0) (g : Bd n b) : Bd n (comI t b) := by
  have e : (comI t b).natAbs = (gcdI t b).natAbs := by
    unfold comI
    split
    · exact Int.natAbs_neg _
    · rfl
  exact Bd.abs g (by rw [e]; exact gcdI_le h)
/-- a value that is_fraction is asked of, and its answer -/
inductive FracV (K : PySem.W.Frag) (H : Hp) : V → Bool → Prop where
  | two {p : Addr} {t b : Int} (e : H p = some (.tup [.int t, .int b])) : FracV K H (.ref p) (decide (1 ≤ b) && decide (gcdI t b = 1))
  | odd1 {p : Addr} {x y : V} {t : String} (e : H p = some (.tup [x, y])) (h : TyX K H x (.type t)) (k : tyOk t) (n : t ≠ "int") : FracV K H (.ref p) false
  | odd2 {p : Addr} {t : Int} {y : V} {u : String} (e : H p = some (.tup [.int t, y])) (h : TyX K H y (.type u)) (k : tyOk u) (n : u ≠ "int") : FracV K H (.ref p) false
  | len {p : Addr} {xs : List V} (e : H p = some (.tup xs)) (n : xs.length ≠ 2) : FracV K H (.ref p) false
  | no {x : V} {t : String} (h : TyX K H x (.type t)) (k : tyOk t) (n : t ≠ "tuple") : FracV K H x false

theorem great_at (k : Int) (h0 : 0 ≤ k) (h1 : k < 4) : ∃ g : Int, atI [V.int 7, V.int 1000, V.int (10 ^ (12 : Int).toNat), V.int (10 ^ (39 : Int).toNat)] k = some (.int g) ∧ 0 < g ∧ Bd 130 g := by
  have hk : k = 0 ∨ k = 1 ∨ k = 2 ∨ k = 3 := by omega
  rcases hk with rfl | rfl | rfl | rfl <;> exact ⟨_, rfl, by decide +kernel, by unfold Bd; decide +kernel⟩
theorem gcdI_dvd_l (t b : Int) : gcdI t b ∣ t := Int.gcd_dvd_left ..
theorem gcdI_dvd_r (t b : Int) : gcdI t b ∣ b := Int.gcd_dvd_right ..
theorem gcdI_mul (m a b : Int) : gcdI (m * a) (m * b) = (m.natAbs : Int) * gcdI a b := by
  unfold gcdI
  rw [Int.natAbs_mul, Int.natAbs_mul, Nat.gcd_mul_left, Int.natCast_mul]
/-- what low tells is in lowest terms -/
theorem low_terms {t b : Int} (h : 0 < b) : 0 < b / gcdI t b ∧ gcdI (t / gcdI t b) (b / gcdI t b) = 1 ∧ (t / gcdI t b).natAbs ≤ t.natAbs ∧ (b / gcdI t b).natAbs ≤ b.natAbs := by
  have gp := gcdI_pos (t := t) (show b ≠ 0 by omega)
  obtain ⟨x, hx⟩ := gcdI_dvd_l t b
  obtain ⟨y, hy⟩ := gcdI_dvd_r t b
  generalize hg : gcdI t b = g at gp hx hy ⊢
  have e1 : t / g = x := by rw [hx]; exact Int.mul_ediv_cancel_left _ (by omega)
  have e2 : b / g = y := by rw [hy]; exact Int.mul_ediv_cancel_left _ (by omega)
  rw [e1, e2]
  have hy0 : 0 < y := by
    rw [hy] at h
    exact Int.pos_of_mul_pos_right h gp |> fun z => z
  refine ⟨hy0, ?_, ?_, ?_⟩
  · have e3 := gcdI_mul g x y
    rw [← hx, ← hy, hg] at e3
    have e4 : (g.natAbs : Int) = g := by omega
    rw [e4] at e3
    have e5 : g * 1 = g * gcdI x y := by rw [Int.mul_one]; exact e3
    exact (Int.eq_of_mul_eq_mul_left (by omega) e5).symm
  · rw [hx, Int.natAbs_mul]
    exact Nat.le_mul_of_pos_left _ (by omega)
  · rw [hy, Int.natAbs_mul]
    exact Nat.le_mul_of_pos_left _ (by omega)
/-- fraction and low agree -/
theorem frac_low {t b : Int} (h : 0 < b) : t.fdiv (comI t b) = t / gcdI t b ∧ b.fdiv (comI t b) = b / gcdI t b := by
  have e : comI t b = gcdI t b := by
    unfold comI
    rw [if_neg (by omega)]
  have gp := gcdI_pos (t := t) (show b ≠ 0 by omega)
  rw [e]
  exact ⟨Int.fdiv_eq_ediv_of_nonneg _ (by omega), Int.fdiv_eq_ediv_of_nonneg _ (by omega)⟩
theorem gcdI_neg_neg (t b : Int) : gcdI (-t) (-b) = gcdI t b := by
  unfold gcdI
  rw [Int.natAbs_neg, Int.natAbs_neg]
theorem frac_low_neg {t b : Int} (h : b < 0) : t.fdiv (comI t b) = (-t) / gcdI (-t) (-b) ∧ b.fdiv (comI t b) = (-b) / gcdI (-t) (-b) := by
  have e : comI t b = -(gcdI t b) := by
    unfold comI
    rw [if_pos h]
  have gp := gcdI_pos (t := t) (show b ≠ 0 by omega)
  rw [e, gcdI_neg_neg]
  obtain ⟨x, hx⟩ := gcdI_dvd_l t b
  obtain ⟨y, hy⟩ := gcdI_dvd_r t b
  generalize gcdI t b = g at gp hx hy ⊢
  have aux : ∀ z w : Int, z = g * w → z.fdiv (-g) = (-z) / g := by
    intro z w hz
    have e1 : z = (-g) * (-w) := by rw [hz, Int.neg_mul_neg]
    have e2 : -z = g * (-w) := by rw [hz, Int.mul_neg]
    have e3 : z.fdiv (-g) = -w := by rw [e1]; exact Int.mul_fdiv_cancel_left _ (by omega)
    rw [e3, e2, Int.mul_ediv_cancel_left _ (by omega)]
  exact ⟨aux t x hx, aux b y hy⟩
theorem frac_share {m a b : Int} (hm : m ≠ 0) (hb : 0 < b) (hg : gcdI a b = 1) : (m * a).fdiv (comI (m * a) (m * b)) = a ∧ (m * b).fdiv (comI (m * a) (m * b)) = b := by
  have e : comI (m * a) (m * b) = m := by
    unfold comI
    rw [gcdI_mul, hg, Int.mul_one]
    by_cases h : m < 0
    · rw [if_pos (Int.mul_neg_of_neg_of_pos h hb)]
      omega
    · rw [if_neg (by have := Int.mul_pos (show 0 < m by omega) hb; omega)]
      omega
  rw [e]
  exact ⟨Int.mul_fdiv_cancel_left _ hm, Int.mul_fdiv_cancel_left _ hm⟩
theorem frac_one (a : Int) : a.fdiv (comI a 1) = a ∧ (1 : Int).fdiv (comI a 1) = 1 := by
  have e : comI a 1 = 1 := by
    unfold comI gcdI
    rw [if_neg (by decide)]
    show ((Nat.gcd a.natAbs 1 : Nat) : Int) = 1
    rw [Nat.gcd_one_right]
    rfl
  rw [e]
  exact ⟨Int.fdiv_one a, rfl⟩

theorem paired_get {α β : Type} {R : α → β → Prop} : ∀ {xs : List α} {ys : List β} {i : Nat} {x : α}, Paired R xs ys → xs[i]? = some x → ∃ y, ys[i]? = some y ∧ R x y
  | _, _, _, _, .nil, h => by simp at h
  | _, _, 0, _, .cons r _, h => ⟨_, rfl, by
      have e := Option.some.inj h
      subst e
      exact r⟩
  | _, _, i + 1, _, .cons _ t, h => paired_get (i := i) t h
theorem tyx_ex {K : PySem.W.Frag} {H H' : Hp} (e : Ex H H') {x : V} {t : String} (k : tyOk t) (h : TyX K H x (.type t)) : TyX K H' x (.type t) := by
    cases h with
    | base b =>
      cases b with
      | non => exact .base .non
      | bl y => exact .base (.bl y)
      | int i => exact .base (.int i)
      | str y => exact .base (.str y)
      | flt y => exact .base (.flt y)
      | lst h => exact .base (.lst (e _ _ h))
      | frz h => exact .base (.frz (e _ _ h))
      | tup h => exact .base (.tup (e _ _ h))
      | dK h => exact .base (.dK (e _ _ h))
      | dT h => exact .base (.dT (e _ _ h))
    | byt y => exact .byt y
    | set h => exact .set (e _ _ h)
    | kList h c => exact .kList h c
    | kTuple h c => exact .kTuple h c
    | kDict h c => exact .kDict h c
    | fTuple h => exact .fTuple (e _ _ h)
    | fDict h => exact .fDict (e _ _ h)
theorem FracV.ex {K : PySem.W.Frag} {H H' : Hp} {x : V} {r : Bool} (e : Ex H H') (f : FracV K H x r) : FracV K H' x r := by
  cases f with
  | two h => exact .two (e _ _ h)
  | odd1 h a k n => exact .odd1 (e _ _ h) (tyx_ex e k a) k n
  | odd2 h a k n => exact .odd2 (e _ _ h) (tyx_ex e k a) k n
  | len h n => exact .len (e _ _ h) n
  | no a k n => exact .no (tyx_ex e k a) k n
/-- what is_whole is asked of, and its answer -/
def WhoV (K : PySem.W.Frag) (H : Hp) (x : V) (r : Bool) : Prop := ∃ t, TyX K H x (.type t) ∧ tyOk t ∧ r = (t == "int")
theorem dp_bools {K : PySem.W.Frag} {H : Hp} : ∀ bs : List Bool, DpAll K H (bs.map V.bl) (bs.map PyData.bool)
  | [] => .nil
  | b :: r => .cons (.bl b) (dp_bools r)
theorem sgn_at (c : Int) : atI [V.int 1, V.int (-1)] (if decide (c < 0) = true then 1 else 0) = some (.int (if c < 0 then -1 else 1)) := by
  by_cases h : c < 0
  · rw [decide_eq_true h, if_pos rfl, if_pos h]
    rfl
  · rw [decide_eq_false h, if_neg Bool.false_ne_true, if_neg h]
    rfl
theorem turn_at (f : Int) (h0 : 0 ≤ f) (h1 : f < 2) : ∃ t : Int, atI [V.int 1, V.int (-1)] f = some (.int t) ∧ t ≠ 0 ∧ Bd 2 t := by
  have : f = 0 ∨ f = 1 := by omega
  rcases this with rfl | rfl <;> exact ⟨_, rfl, by decide, by unfold Bd; decide⟩
theorem c_tup {ta : TA} {σ : L2.St} {H : Hp} {Q : VK} {vs : List V} (h : EvA ta σ H vs) (hl : vs.length ≤ 100000) (k : ∀ p H2, H p = none → Ex H H2 → H2 p = some (.tup vs) → Q (.ref p) H2) : tTup ta σ H Q := eu_tup h hl H (Ex.refl H) Q k
theorem c_lst {ta : TA} {σ : L2.St} {H : Hp} {Q : VK} {vs : List V} (h : EvA ta σ H vs) (hl : vs.length ≤ 100000) (k : ∀ p H2, H p = none → Ex H H2 → H2 p = some (.lst vs) → Q (.ref p) H2) : tLst ta σ H Q := el_lst h hl H (Ex.refl H) Q k
/-- [f(x) for x in xs], the answers rs -/
theorem t_ask {K : PySem.W.Frag} {n j : Nat} {a : Addr} {xs : List V} {rs : List Bool} {R : V → Bool → Prop} {te : TE} {vs : List Nat} {σ : L2.St} {H : Hp} {Q : VK} (hσ : σ[n]? = some (some (.ref a))) (hx : H a = some (.lst xs)) (hl : xs.length ≤ 1000) (hR : Paired R xs rs)
    (hs : ∀ x r H', Ex H H' → R x r → ∀ Q : VK, Q (.bl r) H' → te ((wipe σ vs).set j (some x)) H' Q) (hw : ∀ x, wipe ((wipe σ vs).set j (some x)) vs = wipe σ vs)
    (hd : ∀ D H', H D = none → Ex H H' → H' D = some (.lst (rs.map V.bl)) → Q (.ref D) H') : tLc (iList K (tVar n)) (gName j) tYes te vs σ H Q := by
  refine ⟨_, hσ, a, rfl, ⟨_, SqL.of hx⟩, fun D hD => ?_⟩
  refine lc_list (K := K) (a := a) (xs := xs) (fun i H' => Ex H H' ∧ H' D = some (.lst ((rs.take i).map V.bl))) ⟨Ex.new hD, upd_same⟩ (fun i H' _ h => SqL.of (h.1 _ _ hx)) (fun i x H' hi h => ?_) (fun H' h => ?_)
  · obtain ⟨e, hD'⟩ := h
    obtain ⟨r, hr, f⟩ := paired_get hR hi
    refine ⟨hw x, ?_⟩
    show te ((wipe σ vs).set j (some x)) H' _
    refine hs x r H' e f _ ⟨_, hD', ?_, Ex.mut e hD, ?_⟩
    · rw [List.length_map, List.length_take]
      have h1 := (List.getElem?_eq_some_iff.mp hi).1
      exact small1000 (by omega)
    · rw [upd_same, List.take_add_one, hr, List.map_append]
      rfl
  · obtain ⟨e, hD'⟩ := h
    have el : xs.length = rs.length := Paired.length hR
    rw [el, List.take_length] at hD'
    exact hd D H' hD e hD'
theorem el_ask {K : PySem.W.Frag} {n j : Nat} {a : Addr} {xs : List V} {rs : List Bool} {R : V → Bool → Prop} {te : TE} {vs : List Nat} {σ : L2.St} {H : Hp} (hσ : σ[n]? = some (some (.ref a))) (hx : H a = some (.lst xs)) (hl : xs.length ≤ 1000) (hR : Paired R xs rs)
    (hs : ∀ x r H', Ex H H' → R x r → ∀ Q : VK, Q (.bl r) H' → te ((wipe σ vs).set j (some x)) H' Q) (hw : ∀ x, wipe ((wipe σ vs).set j (some x)) vs = wipe σ vs) : EvL (tLc (iList K (tVar n)) (gName j) tYes te vs) σ H (rs.map V.bl) :=
  fun H1 e Q q => t_ask hσ (e _ _ hx) hl hR (fun x r H' e' f => hs x r H' (e.trans e') f) hw q
theorem rv_neB {K : PySem.W.Frag} {p q : Addr} {bs : List Bool} {H : Hp} (hp : SqL K H p (bs.map V.bl)) (hq : SqL K H q (bs.map V.bl)) (hs : SeqAt.shaped (.list (bs.map PyData.bool)) = true) : RV (rNeD K) (.ref p) (.ref q) H (.bl false) := fun H1 e Q k =>
  ⟨_, _, .lst (ex_l e hp) (dp_bools bs), .lst (ex_l e hq) (dp_bools bs), hs, hs, by
    rw [SeqAt.eqv_refl _ (SeqAt.canLay_of_shaped hs)]
    exact k H1 (Ex.refl _)⟩
theorem el_cat {σ : L2.St} {H : Hp} {ta tb : TE} {xs ys : List V} (ha : EvL ta σ H xs) (hb : EvL tb σ H ys) (hz : xs.length + ys.length ≤ 100000) : EvL (tOp rCat ta tb) σ H (xs ++ ys) := fun H1 e Q q =>
  ha H1 e _ fun p H2 _ e2 hp => hb H2 (e.trans e2) _ fun r H3 _ e3 hr => ⟨p, r, xs, ys, rfl, rfl, e3 _ _ hp, hr, sz_of hz, fun u hu => q u _ (fresh_back (e2.trans e3) hu) ((e2.trans e3).trans (Ex.new hu)) upd_same⟩
theorem el_rep {σ : L2.St} {H : Hp} {ta tb : TE} {xs : List V} {k : Int} (ha : EvL ta σ H xs) (hb : Ev tb σ H (.int k)) (h0 : 0 ≤ k ∧ k ≤ 100000) (hz : xs.length * k.toNat ≤ 100000) : EvL (tOp rRep ta tb) σ H (List.replicate k.toNat xs).flatten := fun H1 e Q q =>
  ha H1 e _ fun p H2 _ e2 hp => hb H2 (e.trans e2) _ fun H3 e3 => ⟨p, k, xs, rfl, rfl, e3 _ _ hp, by omega, by omega, sz_of hz, fun u hu => q u _ (fresh_back (e2.trans e3) hu) ((e2.trans e3).trans (Ex.new hu)) upd_same⟩
theorem tcons_c {v : V} {r : TA} {σ : L2.St} {H : Hp} {Q : List V → Hp → Prop} (h : r σ H fun xs H2 => Q (v :: xs) H2) : tCons (tC v) r σ H Q := h
theorem due_eq {b c : Int} (X : Int) (hb : 0 < b) (hc : c ≠ 0) :
    (X * (if c < 0 then -1 else 1)) / gcdI (X * (if c < 0 then -1 else 1)) (b * (if (if c < 0 then -c else c) > 1 then (if c < 0 then -c else c) else 1)) = X.fdiv (comI X (b * c)) ∧
    (b * (if (if c < 0 then -c else c) > 1 then (if c < 0 then -c else c) else 1)) / gcdI (X * (if c < 0 then -1 else 1)) (b * (if (if c < 0 then -c else c) > 1 then (if c < 0 then -c else c) else 1)) = (b * c).fdiv (comI X (b * c)) := by
  have e : (if (if c < 0 then -c else c) > 1 then (if c < 0 then -c else c) else 1) = (if c < 0 then -c else c) := by
    split <;> split <;> omega
  rw [e]
  by_cases h : c < 0
  · rw [if_pos h, if_pos h, Int.mul_neg, Int.mul_neg, Int.mul_one]
    have hn : b * c < 0 := Int.mul_neg_of_pos_of_neg hb h
    exact ⟨(frac_low_neg hn).1.symm, (frac_low_neg hn).2.symm⟩
  · rw [if_neg h, if_neg h, Int.mul_one]
    have hp : 0 < b * c := Int.mul_pos hb (by omega)
    exact ⟨(frac_low hp).1.symm, (frac_low hp).2.symm⟩
theorem max_abs (c : Int) (h : c ≠ 0) : (if (if c < 0 then -c else c) > 1 then (if c < 0 then -c else c) else 1) = (if c < 0 then -c else c) := by
  split <;> split <;> omega
/-! ### fractions as the rational numbers -/
def frV (q : Rat) : List V := [.int q.num, .int (q.den : Int)]
theorem fr_low {t b : Int} (h : 0 < b) : [V.int (t / gcdI t b), V.int (b / gcdI t b)] = frV (mkRat t b.toNat) := by
  have e : b.toNat ≠ 0 := by omega
  have g : gcdI t b = ((b.toNat.gcd t.natAbs : Nat) : Int) := by
    unfold gcdI
    rw [Nat.gcd_comm, show b.natAbs = b.toNat by omega]
  have hb : b = (b.toNat : Int) := by omega
  unfold frV
  rw [Rat.num_mkRat, Rat.den_mkRat, if_neg e, if_neg e, g, Int.natCast_ediv, ← hb]
theorem fr_com {t b : Int} (h : 0 < b) : [V.int (t.fdiv (comI t b)), V.int (b.fdiv (comI t b))] = frV (mkRat t b.toNat) := by
  have e : comI t b = gcdI t b := if_neg (by omega)
  have g := gcdI_pos (t := t) (b := b) (by omega)
  rw [e, Int.fdiv_eq_ediv_of_nonneg _ (by omega), Int.fdiv_eq_ediv_of_nonneg _ (by omega)]
  exact fr_low h
theorem den_pos (x y : Rat) : 0 < (x.den : Int) * (y.den : Int) := Int.mul_pos (Int.natCast_pos.mpr x.den_pos) (Int.natCast_pos.mpr y.den_pos)
theorem den_ne (x y : Rat) : (x.den : Int) * (y.den : Int) ≠ 0 := Int.ne_of_gt (den_pos x y)
theorem den_nat (x y : Rat) : ((x.den : Int) * (y.den : Int)).toNat = x.den * y.den := by
  rw [← Int.natCast_mul]
  exact Int.toNat_natCast _
theorem fr_plus {x y : Rat} : mkRat (x.num * (y.den : Int) + y.num * (x.den : Int)) ((x.den : Int) * (y.den : Int)).toNat = x + y := by
  rw [den_nat, ← Rat.add_def']
theorem fr_mul {x y : Rat} : mkRat (x.num * y.num) ((x.den : Int) * (y.den : Int)).toNat = x * y := by
  rw [den_nat, ← Rat.mul_def']
theorem num_one (a : Int) : (mkRat a 1).num = a := by
  rw [Rat.num_mkRat]
  simp
theorem den_one (a : Int) : (mkRat a 1).den = 1 := by
  rw [Rat.den_mkRat]
  simp
theorem fr_int {a : Int} {x : Rat} : mkRat (a * x.num) x.den = mkRat a 1 * x := by
  have h := Rat.mkRat_mul_mkRat a x.num 1 x.den
  rw [Rat.mkRat_self, Nat.one_mul] at h
  exact h.symm
def BdQ (n d : Nat) (q : Rat) : Prop := Bd n q.num ∧ Bd d (q.den : Int)
theorem BdQ.mono {n d n' d' : Nat} {q : Rat} (h : BdQ n d q) (a : n ≤ n') (b : d ≤ d') : BdQ n' d' q := ⟨h.1.mono a, h.2.mono b⟩
theorem mk_bd {n d : Nat} {t : Int} {b : Nat} (hb : b ≠ 0) (h1 : Bd n t) (h2 : Bd d (b : Int)) : BdQ n d (mkRat t b) := by
  unfold BdQ
  rw [Rat.num_mkRat, Rat.den_mkRat, if_neg hb, if_neg hb]
  constructor
  · refine h1.abs ?_
    exact Int.natAbs_ediv_le_natAbs _ _
  · refine h2.abs ?_
    rw [Int.natAbs_natCast, Int.natAbs_natCast]
    exact Nat.div_le_self _ _
theorem add_bd {n d n' d' k : Nat} {x y : Rat} (hx : BdQ n d x) (hy : BdQ n' d' y) (h1 : n + d' ≤ k) (h2 : n' + d ≤ k) : BdQ (k + 1) (d + d') (x + y) := by
  rw [Rat.add_def']
  refine mk_bd (Nat.mul_ne_zero x.den_nz y.den_nz) (((hx.1.mul hy.2).mono h1).add ((hy.1.mul hx.2).mono h2)) ?_
  rw [Int.natCast_mul]
  exact hx.2.mul hy.2
theorem times_bd {n m d : Nat} {a : Int} {x : Rat} (ha : Bd n a) (hx : BdQ m d x) : BdQ (n + m) d (mkRat a 1 * x) := by
  rw [← fr_int]
  exact mk_bd x.den_nz (ha.mul hx.1) hx.2
def terms (ns : List Int) (qs : List Rat) : List Rat := List.zipWith (fun a x => mkRat a 1 * x) ns qs
def psum (ts : List Rat) (i : Nat) : Rat := (ts.take i).foldl (· + ·) 0
def fsum (ns : List Int) (qs : List Rat) : Rat := (terms ns qs).foldl (· + ·) 0
theorem psum_succ {ts : List Rat} {i : Nat} {x : Rat} (h : ts[i]? = some x) : psum ts (i + 1) = psum ts i + x := by
  unfold psum
  rw [take_snoc h, List.foldl_append]
  rfl
theorem psum_all {ts : List Rat} {i : Nat} (h : ts.length ≤ i) : psum ts i = ts.foldl (· + ·) 0 := by
  unfold psum
  rw [List.take_of_length_le h]
theorem terms_at {ns : List Int} {qs : List Rat} {i : Nat} {n : Int} {q : Rat} (h1 : ns[i]? = some n) (h2 : qs[i]? = some q) : (terms ns qs)[i]? = some (mkRat n 1 * q) := by
  unfold terms
  rw [List.getElem?_zipWith, h1, h2]
theorem terms_bd {n m d : Nat} {ns : List Int} {qs : List Rat} (hn : ∀ y ∈ ns, Bd n y) (hq : ∀ q ∈ qs, BdQ m d q) : ∀ t ∈ terms ns qs, BdQ (n + m) d t := by
  intro t ht
  obtain ⟨i, hi⟩ := List.mem_iff_getElem?.mp ht
  unfold terms at hi
  rw [List.getElem?_zipWith] at hi
  cases h1 : ns[i]? with
  | none => rw [h1] at hi; cases hi
  | some a =>
    cases h2 : qs[i]? with
    | none => rw [h1, h2] at hi; cases hi
    | some q =>
      rw [h1, h2] at hi
      cases hi
      exact times_bd (hn a (List.mem_of_getElem? h1)) (hq q (List.mem_of_getElem? h2))
theorem psum_bd {n d : Nat} {ts : List Rat} (h : ∀ t ∈ ts, BdQ n d t) : ∀ i : Nat, BdQ (1 + i * (n + d + 1)) (1 + i * d) (psum ts i)
  | 0 => by
    unfold psum
    rw [List.take_zero, Nat.zero_mul, Nat.zero_mul]
    exact ⟨by show (0 : Nat) < _; exact Nat.two_pow_pos _, by show (1 : Nat) < 2 ^ (1 + 0); decide⟩
  | i + 1 => by
    have ih := psum_bd h i
    cases e : ts[i]? with
    | none =>
      have : psum ts (i + 1) = psum ts i := by
        have hl := List.getElem?_eq_none_iff.mp e
        rw [psum_all hl, psum_all (by omega)]
      rw [this]
      exact ih.mono (by rw [Nat.succ_mul]; omega) (by rw [Nat.succ_mul]; omega)
    | some x =>
      rw [psum_succ e]
      have e1 : i * (n + d + 1) = i * n + i * d + i := by rw [Nat.mul_add, Nat.mul_add, Nat.mul_one]
      exact (add_bd (k := i * (n + d + 1) + n + d + 1) ih (h x (List.mem_of_getElem? e)) (by omega) (by omega)).mono (by rw [Nat.succ_mul]; omega) (by rw [Nat.succ_mul]; omega)
/-- fractions in a list -/
def FrsAt (H : Hp) : List Addr → List Rat → Prop := Paired fun a q => H a = some (.tup (frV q))
def FrL (H : Hp) (p : Addr) (bs : List Addr) (qs : List Rat) : Prop := H p = some (.lst (bs.map V.ref)) ∧ FrsAt H bs qs
theorem FrsAt.ex {H H' : Hp} {bs : List Addr} {qs : List Rat} (h : FrsAt H bs qs) (e : Ex H H') : FrsAt H' bs qs := paired_imp (fun _ _ r => e _ _ r) h
theorem FrL.ex {H H' : Hp} {p : Addr} {bs : List Addr} {qs : List Rat} (h : FrL H p bs qs) (e : Ex H H') : FrL H' p bs qs := ⟨e _ _ h.1, h.2.ex e⟩
/-- [f(x) for x in xs], truths -/
theorem el_bools {K : PySem.W.Frag} {n j : Nat} {a : Addr} {xs : List V} {bs : List Bool} {te : TE} {vs : List Nat} {σ : L2.St} {H : Hp} (hσ : σ[n]? = some (some (.ref a))) (hx : H a = some (.lst xs)) (hl : xs.length ≤ 1000) (hb : xs.length = bs.length)
    (hs : ∀ (i : Nat) (x : V) (r : Bool) (H' : Hp), xs[i]? = some x → bs[i]? = some r → Ex H H' → Ev te ((wipe σ vs).set j (some x)) H' (.bl r)) (hw : ∀ x, wipe ((wipe σ vs).set j (some x)) vs = wipe σ vs) : EvL (tLc (iList K (tVar n)) (gName j) tYes te vs) σ H (bs.map V.bl) := by
  intro H0 e0 Q0 q0
  have hx0 := e0 _ _ hx
  refine ⟨_, hσ, a, rfl, ⟨_, SqL.of hx0⟩, fun D hD => ?_⟩
  refine lc_list (K := K) (a := a) (xs := xs) (fun i H' => Ex H0 H' ∧ H' D = some (.lst ((bs.take i).map V.bl))) ⟨Ex.new hD, upd_same⟩ (fun i H' _ p => SqL.of (p.1 _ _ hx0)) (fun i x H' gx p => ?_) (fun H' p => ?_)
  · obtain ⟨p1, p2⟩ := p
    have hi := (List.getElem?_eq_some_iff.mp gx).1
    have gb : bs[i]? = some bs[i] := List.getElem?_eq_getElem (by omega)
    refine ⟨hw _, ?_⟩
    show te _ _ _
    refine hs i x _ H gx gb (Ex.refl H) _ (e0.trans p1) _ fun H4 e4 => ?_
    refine ⟨_, e4 _ _ p2, ?_, Ex.mut (p1.trans e4) hD, ?_⟩
    · rw [List.length_map, List.length_take]
      exact small1000 (by omega)
    · rw [upd_same, take_snoc gb, List.map_append]
      rfl
  · obtain ⟨p1, p2⟩ := p
    rw [hb, List.take_length] at p2
    exact q0 D H' hD p1 p2
theorem all_map {bs : List Bool} : bs.all id = true ↔ ∀ b ∈ bs, b = true := by
  rw [List.all_eq_true]
  rfl
theorem ev_allB {K : PySem.W.Frag} {ta : TE} {σ : L2.St} {H : Hp} {bs : List Bool} (h : EvL ta σ H (bs.map V.bl)) : Ev (tCB (rAll K) (tCons ta tNil)) σ H (.bl (bs.all id)) := fun H1 e Q q =>
  h H1 e _ fun p H2 _ e2 hp => ⟨p, _, rfl, SqL.of hp, q H2 e2⟩

section
variable {P : Program} {w : World} {K : PySem.W.Frag} {mg : Str → Option Value} {base : Heap}
-- TODO init_NoPick
-- DEF is_whole

def sp_is_whole (K : PySem.W.Frag) : Sp := fun vs H Q _ => ∃ (x : V) (t : String), vs = [x] ∧ TyX K H x (.type t) ∧ tyOk t ∧ Q (.bl (t == "int")) H

theorem ok_is_whole (T : Txt K mg) : FnOk P w K mg base CX0 1 T.f_is_whole T.fd_is_whole ["thing"] (sp_is_whole K) := by
  refine Fun.ok T.F_is_whole sc_is_whole (fun vs H Q E h => ?_) (fun cdv A outer s H vs Q E hr h => ?_)
  · obtain ⟨_, _, rfl, _⟩ := h; rfl
  · refine ⟨_, (pss_one (ps_ret (pe_and (pe_callB (id := "isinstance") (r := rIsi K) call_isi (by rfl) T.n_isinstance (by decide +kernel) (pa_cons (pv 0) (pa_cons (pe_bltn (v := .ty "int") (by rfl) T.n_int (by decide +kernel) rfl) pa_nil))) (pe_one (pe_not (pe_callB (id := "isinstance") (r := rIsi K) call_isi (by rfl) T.n_isinstance (by decide +kernel) (pa_cons (pv 0) (pa_cons (pe_bltn (v := .ty "bool") (by rfl) T.n_bool (by decide +kernel) rfl) pa_nil)))))))), ?_⟩
    obtain ⟨x, t, rfl, ty, ok, q⟩ := h
    refine ⟨x, rfl, x, _, _, _, _, rfl, ClsV.ty _, ty, kit_ty (ty_int ok), _, rfl, ?_⟩
    rcases ok with rfl | rfl | rfl | rfl | rfl | rfl | rfl
    · exact iteT ⟨x, rfl, x, _, _, _, _, rfl, ClsV.ty _, ty, kit_ty (ty_bool (.inl rfl)), _, rfl, q⟩
    · exact iteT ⟨x, rfl, x, _, _, _, _, rfl, ClsV.ty _, ty, kit_ty (ty_bool (.inr (.inl rfl))), _, rfl, q⟩
    all_goals exact iteF q
-- DEF _law_source_of

def sp__law_source_of (K : PySem.W.Frag) : Sp := fun vs H Q _ => ∃ c : Int, vs = [.int c] ∧ ∀ (s : Addr) (H' : Hp), H s = none → Ex H H' → SrcAt H' s 0 → Q (.ref s) H'

theorem ok__law_source_of (T : Txt K mg) : FnOk P w K mg base CX0 1 T.f__law_source_of T.fd__law_source_of ["_law_cell"] (sp__law_source_of K) := by
  refine Fun.ok T.F__law_source_of sc__law_source_of (fun vs H Q E h => ?_) (fun cdv A outer s H vs Q E hr h => ?_)
  · obtain ⟨_, rfl, _⟩ := h; rfl
  · refine ⟨_, (pss_one (ps_ret (pe_lst (pa_cons (pe_op op_mul (pv 0) (pe_callTy (T := "int") call_int1 (by rfl) T.n_int (by decide +kernel) (pa_cons (pe_cmpR op_ge (pv 0) (pe_op op_pow pe_int pe_int) (nomark _)) pa_nil))) (pa_cons (pe_op op_mod (pv 0) pe_int) (pa_cons pe_int pa_nil)))))), ?_⟩
    obtain ⟨c, rfl, k⟩ := h
    refine ⟨_, rfl, _, rfl, _, _, rfl, rfl, ⟨by decide, by decide, by decide⟩, _, _, rfl, rfl, .inr ⟨_, rfl, _, _, rfl, rfl, .inr ?_, ?_⟩⟩
    · split <;> exact ⟨by decide, by decide⟩
    refine ⟨_, rfl, _, _, rfl, rfl, (by show (0 : Int) < 2147483647; decide), (by show 3 ≤ sizeLine; decide), fun s hs => ?_⟩
    exact k s _ hs (Ex.new hs) ⟨_, _, _, upd_same, Int.emod_nonneg _ (by decide), Int.emod_lt_of_pos _ (by decide), Int.le_refl _, Int.le_refl _⟩
-- DEF _law_next

def sp__law_next (K : PySem.W.Frag) : Sp := fun vs H Q _ => ∃ (s : Addr) (m n : Int), vs = [.ref s, .int m] ∧ SrcAt H s n ∧ n ≤ 1000000000 ∧ 0 < m ∧ Bd 8000 m ∧
  ∀ (f : Int) (H' : Hp), 0 ≤ f → f < m → ExB s H H' → SrcAt H' s (n + 1) → Q (.int f) H'

theorem ok__law_next (T : Txt K mg) : FnOk P w K mg base CX0 1 T.f__law_next T.fd__law_next ["_law_source", "_law_many"] (sp__law_next K) := by
  refine Fun.ok T.F__law_next sc__law_next (fun vs H Q E h => ?_) (fun cdv A outer s H vs Q E hr h => ?_)
  · obtain ⟨_, _, _, rfl, _⟩ := h; rfl
  · refine ⟨_, (pss_cons (ps_if (pt_cmpR op_gt (pe_ix (r := rIxL K) ix_list (pv 0) pe_int (fun _ _ => rfl)) pe_int (nomark _))
        (pss_cons (ps_set (i := 2) sc__law_next.nd rfl (by first | exact Or.inl rfl | exact Or.inr rfl) (pe_op op_mod (pe_ix (r := rIxL K) ix_list (pv 0) pe_int (fun _ _ => rfl)) (pv 1)))
          (pss_cons (ps_asg (pe_op op_fdivW (pe_ix (r := rIxL K) ix_list (pv 0) pe_int (fun _ _ => rfl)) (pv 1)) (pg_sub (pv 0) pe_int set_list))
          (pss_one (ps_ret (pv 2)))))
        pss_nil)
      (pss_cons (ps_asg (pe_op op_add (pe_ix (r := rIxL K) ix_list (pv 0) pe_int (fun _ _ => rfl)) pe_int) (pg_sub (pv 0) pe_int set_list))
      (pss_cons (ps_set (i := 3) sc__law_next.nd rfl (by first | exact Or.inl rfl | exact Or.inr rfl) (pe_ix (r := rIxL K) ix_list (pe_lst (pa_cons pe_int (pa_cons pe_int (pa_cons pe_int (pa_cons pe_int (pa_cons pe_int (pa_cons pe_int (pa_cons pe_int pa_nil)))))))) (pe_op op_mod (pe_ix (r := rIxL K) ix_list (pv 0) pe_int (fun _ _ => rfl)) pe_int) (fun _ _ => rfl)))
      (pss_cons (ps_set (i := 4) sc__law_next.nd rfl (by first | exact Or.inl rfl | exact Or.inr rfl) (pe_op op_mod (pe_op op_pow (pe_op op_add (pe_op op_add (pe_ix (r := rIxL K) ix_list (pv 0) pe_int (fun _ _ => rfl)) (pe_op op_mul pe_int (pe_ix (r := rIxL K) ix_list (pv 0) pe_int (fun _ _ => rfl)))) pe_int) pe_int) (pv 3)))
      (pss_cons (ps_set (i := 4) sc__law_next.nd rfl (by first | exact Or.inl rfl | exact Or.inr rfl) (pe_op op_mod (pe_op op_mul (pe_op op_add (pv 4) (pe_ix (r := rIxL K) ix_list (pv 0) pe_int (fun _ _ => rfl))) (pe_op op_add (pe_op op_fdiv (pv 4) pe_int) pe_int)) (pv 3)))
      (pss_one (ps_ret (pe_op op_mod (pe_op op_fdiv (pv 4) pe_int) (pv 1))))))))), ?_⟩
    obtain ⟨s, m, n, rfl, ⟨p, u, r, hs, hu0, hu1, hr0, hr1⟩, hn, hm, bm, k⟩ := h
    refine ⟨_, rfl, s, _, _, _, rfl, rfl, SqL.of hs, rfl, _, _, rfl, rfl, _, rfl, ?_⟩
    refine ite2 (fun hp => ?_) (fun _ => ?_)
    · refine ⟨_, rfl, s, _, _, _, rfl, rfl, SqL.of hs, rfl, _, rfl, _, _, rfl, rfl, hm, ?_⟩
      refine ⟨_, rfl, s, _, _, _, rfl, rfl, SqL.of hs, rfl, _, rfl, _, _, rfl, rfl, Bd.divOk hm (bm.mono (by decide : 8000 ≤ 9000)), ?_⟩
      refine ⟨_, rfl, s, _, _, 0, rfl, rfl, hs, rfl, ?_⟩
      refine ⟨_, rfl, ?_⟩
      exact k _ _ (Int.emod_nonneg _ (by omega)) (Int.emod_lt_of_pos _ hm) (ExB.upd _ _ _) ⟨_, _, _, upd_same, hu0, hu1, hr0, by omega⟩
    · refine ⟨_, rfl, s, _, _, _, rfl, rfl, SqL.of hs, rfl, _, _, rfl, rfl, ?_⟩
      refine ⟨_, rfl, s, _, _, 2, rfl, rfl, hs, rfl, ?_⟩
      have hs2 : upd H s (.lst [.int p, .int u, .int (r + 1)]) s = some (.lst [.int p, .int u, .int (r + 1)]) := upd_same
      show tSeq _ _ _ _ (upd H s (.lst [.int p, .int u, .int (r + 1)]))
      generalize hH : upd H s (.lst [.int p, .int u, .int (r + 1)]) = H2 at hs2 ⊢
      refine ⟨(by show 7 ≤ sizeLine; decide), fun l hl => ?_⟩
      have nls : s ≠ l := ne_of_none hs2 hl
      have hs3 : upd H2 l (.lst [V.int 2147483647, V.int 2147483629, V.int 2147483587, V.int 2147483579, V.int 2147483563, V.int 2147483549, V.int 2147483543]) s = some (.lst [.int p, .int u, .int (r + 1)]) := by
        rw [upd_ne nls]
        exact hs2
      obtain ⟨pr, hpr, hp0, hp1⟩ := prime_at (r + 1) (by omega)
      refine ⟨_, rfl, s, _, _, _, rfl, rfl, SqL.of hs3, rfl, _, _, rfl, rfl, (by show (0 : Int) < 7; decide), l, _, _, _, rfl, rfl, SqL.of upd_same, hpr, ?_⟩
      have eH : ExB s H2 (upd H2 l (.lst [V.int 2147483647, V.int 2147483629, V.int 2147483587, V.int 2147483579, V.int 2147483563, V.int 2147483549, V.int 2147483543])) := ExB.of (Ex.new hl)
      generalize upd H2 l (.lst [V.int 2147483647, V.int 2147483629, V.int 2147483587, V.int 2147483579, V.int 2147483563, V.int 2147483549, V.int 2147483543]) = H3 at hs3 eH ⊢
      -- figure
      refine ⟨_, rfl, s, _, _, _, rfl, rfl, SqL.of hs3, rfl, _, rfl, s, _, _, _, rfl, rfl, SqL.of hs3, rfl, _, _, rfl, rfl, .inl ⟨by decide, by decide⟩, _, _, rfl, rfl, _, _, rfl, rfl, _, _, rfl, rfl, ⟨by decide, by decide, ?_⟩, ?_⟩
      · show (u + 7919 * (r + 1) + 1).natAbs < 2 ^ 64
        omega
      refine ⟨_, rfl, _, _, rfl, rfl, hp0, ?_⟩
      have f0 : 0 ≤ (u + 7919 * (r + 1) + 1) ^ (5 : Int).toNat % pr := Int.emod_nonneg _ (by omega)
      have f1 : (u + 7919 * (r + 1) + 1) ^ (5 : Int).toNat % pr < pr := Int.emod_lt_of_pos _ hp0
      show tSeq _ _ _ [some (.ref s), some (.int m), _, some (.int pr), some (.int ((u + 7919 * (r + 1) + 1) ^ (5 : Int).toNat % pr))] _
      generalize (u + 7919 * (r + 1) + 1) ^ (5 : Int).toNat % pr = f at f0 f1 ⊢
      refine ⟨_, rfl, _, rfl, s, _, _, _, rfl, rfl, SqL.of hs3, rfl, _, _, rfl, rfl, ?_⟩
      refine ⟨_, rfl, _, _, rfl, rfl, ⟨by decide, by decide⟩, _, _, rfl, rfl, _, _, rfl, rfl, .inl ?_, ?_⟩
      · constructor <;> omega
      refine ⟨_, rfl, _, _, rfl, rfl, hp0, ?_⟩
      refine ⟨_, rfl, _, _, rfl, rfl, ⟨by decide, by decide⟩, _, rfl, _, _, rfl, rfl, hm, ?_⟩
      refine k _ _ (Int.emod_nonneg _ (by omega)) (Int.emod_lt_of_pos _ hm) (ExB.trans ?_ eH) ⟨_, _, _, hs3, hu0, hu1, by omega, by omega⟩
      rw [← hH]
      exact ExB.upd _ _ _
-- DEF _law_cell_at

def sp__law_cell_at (K : PySem.W.Frag) : Sp := fun vs H Q _ => ∃ (a : Addr) (ns : List Int) (k : Int), vs = [.ref a, .int k] ∧ SqL K H a (ns.map V.int) ∧ 0 ≤ k ∧ ∀ c : Int, Q (.int c) H

theorem ok__law_cell_at (T : Txt K mg) : FnOk P w K mg base CX0 1 T.f__law_cell_at T.fd__law_cell_at ["_law_script", "_law_k"] (sp__law_cell_at K) := by
  refine Fun.ok T.F__law_cell_at sc__law_cell_at (fun vs H Q E h => ?_) (fun cdv A outer s H vs Q E hr h => ?_)
  · obtain ⟨_, _, _, rfl, _⟩ := h; rfl
  · refine ⟨_, (pss_cons (ps_if (pt_cmpR op_lt (pv 1) (pe_callB (id := "len") (r := rLenS K) call_len_seq (by rfl) T.n_len PySem.boot_len (pa_cons (pv 0) pa_nil)) (nomark _))
        (pss_one (ps_ret (pe_ix (r := rIxL K) ix_list (pv 0) (pv 1) (fun _ _ => rfl))))
        pss_nil)
      (pss_one (ps_ret pe_int))), ?_⟩
    obtain ⟨a, ns, k, rfl, hS, hk, q⟩ := h
    refine ⟨_, rfl, _, rfl, a, _, rfl, .inl hS, _, _, rfl, rfl, _, rfl, ?_⟩
    refine ite2 (fun hp => ?_) (fun _ => q 0)
    have hlt : k < ((ns.map V.int).length : Int) := of_decide_eq_true hp
    rw [List.length_map] at hlt
    have hn : k.toNat < ns.length := by omega
    have g : (ns.map V.int)[k.toNat]? = some (.int ns[k.toNat]) := by
      rw [List.getElem?_map, List.getElem?_eq_getElem hn]
      rfl
    refine ⟨_, rfl, _, rfl, a, _, k, _, rfl, rfl, hS, at_of (j := k.toNat) (by omega) g, ?_⟩
    exact q _
-- DEF _law_net

def sp__law_net (K : PySem.W.Frag) : Sp := fun vs H Q _ => ∃ (pE pA : Addr) (as bs : List Addr) (es qs : List (Int × Int)) (m : Nat), vs = [.ref pE, .ref pA] ∧ es.length = m ∧ 1 ≤ m ∧ m ≤ 8 ∧ H pE = some (.lst (as.map V.ref)) ∧ EdgesAt H as es ∧ H pA = some (.lst (bs.map V.ref)) ∧ EdgesAt H bs qs ∧ qs.length ≤ 8 ∧
  (∀ e ∈ es, 0 ≤ e.1 ∧ e.1 ≤ m ∧ 0 ≤ e.2 ∧ e.2 ≤ m) ∧ (∀ e ∈ qs, 0 ≤ e.1 ∧ e.1 ≤ m ∧ 0 ≤ e.2 ∧ e.2 ≤ m) ∧ Conn es m ∧
  ∀ (rs : List Addr) (rows : List (List Int)) (p : Addr) (H' : Hp), H p = none → (∀ a ∈ rs, H a = none) → rs.Nodup → p ∉ rs → Ex H H' → Tab H' p rs rows → rows.length = m → (∀ r ∈ rows, r.length = qs.length ∧ ∀ y ∈ r, y.natAbs ≤ 100) → Q (.ref p) H'

theorem ok__law_net (T : Txt K mg) : FnOk P w K mg base CX0 1 T.f__law_net T.fd__law_net ["_law_ends_here", "_law_arcs"] (sp__law_net K) := by
  refine Fun.ok T.F__law_net sc__law_net (fun vs H Q E h => ?_) (fun cdv A outer s H vs Q E hr h => ?_)
  · obtain ⟨_, _, _, _, _, _, _, rfl, _⟩ := h; rfl
  · refine ⟨_, (pss_cons (ps_set (i := 2) sc__law_net.nd rfl (by first | exact Or.inl rfl | exact Or.inr rfl) (pe_disp (pps_cons (pe_ix (r := rIxT K) ix_tup (pe_ix (r := rIxL K) ix_list (pv 0) pe_int (fun _ _ => rfl)) pe_int (fun _ _ => rfl)) (pe_op op_rep (pe_lst (pa_cons pe_int pa_nil)) (pe_callB (id := "len") (r := rLenS K) call_len_seq (by rfl) T.n_len PySem.boot_len (pa_cons (pv 0) pa_nil))) pps_nil) (by rfl) (by rfl) (fun z => by cases z) (by decide)))
      (pss_cons (ps_while PassesOwn.never (pt_cmpR op_le (pe_callB (id := "len") call_lenD (by rfl) T.n_len PySem.boot_len (pa_cons (pv 2) pa_nil)) (pe_callB (id := "len") (r := rLenS K) call_len_seq (by rfl) T.n_len PySem.boot_len (pa_cons (pv 0) pa_nil)) (nomark _))
        (pss_one (ps_for PassesOwn.never rfl (pi_enum (by rfl) T.n_enumerate (pa_cons (pv 0) pa_nil)) (pg_tup rfl (pgs_cons (pg_name (i := 3) sc__law_net.nd rfl (by first | exact Or.inl rfl | exact Or.inr rfl)) (pgs_cons (pg_tup rfl (pgs_cons (pg_name (i := 4) sc__law_net.nd rfl (by first | exact Or.inl rfl | exact Or.inr rfl)) (pgs_cons (pg_name (i := 5) sc__law_net.nd rfl (by first | exact Or.inl rfl | exact Or.inr rfl)) pgs_nil))) pgs_nil)))
            (pss_cons (ps_setLc (i := 6) (own := [("_law_that", 7)]) (g := gName 7) (tt := tYes) rfl sc__law_net.nd rfl rfl (sw_true rfl rfl rfl (by decide +kernel)) (pi_range1 (by rfl) T.n_range (pa_cons (pe_callB (id := "len") (r := rLenS K) call_len_seq (by rfl) T.n_len PySem.boot_len (pa_cons (pv 0) pa_nil)) pa_nil)) (blkOk_by (N := ["_law_ends_here", "_law_arcs", "_law_far", "_law_k", "_law_begin", "_law_goal", "_law_step", "_law_that", "_law_a", "_law_b"]) (sc := (defScope s__law_net)) (by decide +kernel)) (fun _ _ _ _ _ => pg_name (i := 7) sc__law_net.nd rfl (Or.inl rfl)) (fun _ _ _ _ _ => pts_nil) (fun _ _ _ _ _ => (pe_callTy (T := "int") call_int1 (by rfl) T.n_int (by decide +kernel) (pa_cons (pe_cmpR op_eq (pv 3) (pv 7) (nomark _)) pa_nil))))
              (pss_one (ps_if (PW.pt (pw_and (pt_cmp (pc_din (hu_of hr) (pv 4) (pv 2))) (pw_and1 (pt_cmp (pc_dnotin (hu_of hr) (pv 5) (pv 2))))))
                (pss_one (ps_dput (hu_of hr) (pv 2) (pv 5) (pe_lc (own := [("_law_a", 8), ("_law_b", 9)]) (wi := iZip K _) (g := gTup K 2 (gCons (gName 8) (gCons (gName 9) gNil))) (tt := tYes) rfl sc__law_net.nd (pi_zip (by rfl) T.n_zip (pa_cons (pe_dget (hu_of hr) (pv 2) (pv 4) (fun _ _ => rfl)) (pa_cons (pv 6) pa_nil))) (blkOk_by (N := ["_law_ends_here", "_law_arcs", "_law_far", "_law_k", "_law_begin", "_law_goal", "_law_step", "_law_that", "_law_a", "_law_b"]) (sc := (defScope s__law_net)) (by decide +kernel)) (fun _ _ _ _ _ => (pg_tup rfl (pgs_cons (pg_name (i := 8) sc__law_net.nd rfl (Or.inl rfl)) (pgs_cons (pg_name (i := 9) sc__law_net.nd rfl (Or.inl rfl)) pgs_nil)))) (fun _ _ _ _ _ => pts_nil) (fun _ _ _ _ _ => (pe_op op_add (pv 8) (pv 9)))) rfl))
                (pss_one (ps_if (PW.pt (pw_and (pt_cmp (pc_din (hu_of hr) (pv 5) (pv 2))) (pw_and1 (pt_cmp (pc_dnotin (hu_of hr) (pv 4) (pv 2))))))
                    (pss_one (ps_dput (hu_of hr) (pv 2) (pv 4) (pe_lc (own := [("_law_a", 8), ("_law_b", 9)]) (wi := iZip K _) (g := gTup K 2 (gCons (gName 8) (gCons (gName 9) gNil))) (tt := tYes) rfl sc__law_net.nd (pi_zip (by rfl) T.n_zip (pa_cons (pe_dget (hu_of hr) (pv 2) (pv 5) (fun _ _ => rfl)) (pa_cons (pv 6) pa_nil))) (blkOk_by (N := ["_law_ends_here", "_law_arcs", "_law_far", "_law_k", "_law_begin", "_law_goal", "_law_step", "_law_that", "_law_a", "_law_b"]) (sc := (defScope s__law_net)) (by decide +kernel)) (fun _ _ _ _ _ => (pg_tup rfl (pgs_cons (pg_name (i := 8) sc__law_net.nd rfl (Or.inl rfl)) (pgs_cons (pg_name (i := 9) sc__law_net.nd rfl (Or.inl rfl)) pgs_nil)))) (fun _ _ _ _ _ => pts_nil) (fun _ _ _ _ _ => (pe_op op_sub (pv 8) (pv 9)))) rfl))
                    pss_nil))))))))
      (pss_one (ps_ret (pe_lc (own := [("_law_k", 3)]) (g := gName 3) (tt := tYes) rfl sc__law_net.nd (pi_range1 (by rfl) T.n_range (pa_cons (pe_callB (id := "len") (r := rLenS K) call_len_seq (by rfl) T.n_len PySem.boot_len (pa_cons (pv 0) pa_nil)) pa_nil)) (blkOk_by (N := ["_law_ends_here", "_law_arcs", "_law_far", "_law_k", "_law_begin", "_law_goal", "_law_step", "_law_that", "_law_a", "_law_b"]) (sc := (defScope s__law_net)) (by decide +kernel)) (fun _ _ _ _ _ => pg_name (i := 3) sc__law_net.nd rfl (Or.inr rfl)) (fun _ _ _ _ _ => pts_nil) (fun _ _ _ _ _ => (pe_lc (own := [("_law_begin", 4), ("_law_goal", 5)]) (wi := iList K _) (g := gTup K 2 (gCons (gName 4) (gCons (gName 5) gNil))) (tt := tYes) rfl sc__law_net.nd (pi_list (pv 1)) (blkOk_by (N := ["_law_ends_here", "_law_arcs", "_law_far", "_law_k", "_law_begin", "_law_goal", "_law_step", "_law_that", "_law_a", "_law_b"]) (sc := (relS ({ kind := .function, names := [(".0", .local), ("_law_k", .cell), ("_law_arcs", .free), ("_law_far", .free)], isGenerator := false, isCoroutine := false } : Scope) (defScope s__law_net))) (by decide +kernel)) (fun _ _ _ _ _ => (pg_tup rfl (pgs_cons (pg_name (i := 4) sc__law_net.nd rfl (Or.inl rfl)) (pgs_cons (pg_name (i := 5) sc__law_net.nd rfl (Or.inl rfl)) pgs_nil)))) (fun _ _ _ _ _ => pts_nil) (fun _ _ _ _ _ => (pe_op op_sub (pe_ix (r := rIxL K) ix_list (pe_dget (hu_of hr) (pv 2) (pv 5) (fun _ _ => rfl)) (pv 3) (fun _ _ => rfl)) (pe_ix (r := rIxL K) ix_list (pe_dget (hu_of hr) (pv 2) (pv 4) (fun _ _ => rfl)) (pv 3) (fun _ _ => rfl))))))))))), ?_⟩
    obtain ⟨pE, pA, as, bs, es, qs, m, rfl, hes, hm1, hm8, hE, hEE, hA, hAE, hq8, he0, hq0, hC, k⟩ := h
    have hal : as.length = m := by rw [Paired.length hEE, hes]
    -- far
    obtain ⟨a0, as', rfl⟩ : ∃ a0 as', as = a0 :: as' := by
      cases as with
      | nil => simp at hal; omega
      | cons a r => exact ⟨a, r, rfl⟩
    obtain ⟨e0, es', rfl, h00⟩ : ∃ e0 es', es = e0 :: es' ∧ H a0 = some (.tup [.int e0.1, .int e0.2]) := by
      cases hEE with
      | cons g t => exact ⟨_, _, rfl, g⟩
    have hE0 := he0 e0 (List.mem_cons_self ..)
    refine fun d nd => ?_
    have x0 : Ex H (upd H d (.dK [])) := Ex.new nd
    refine ⟨_, rfl, pE, _, 0, _, rfl, rfl, SqL.of (x0 _ _ hE), atI_nat (j := 0) rfl, a0, _, 0, _, rfl, rfl, SqT.of (x0 _ _ h00), rfl, ?_⟩
    refine ⟨Nat.le_of_ble_eq_true rfl, fun z1 nz1 => ?_⟩
    have x1 : Ex (upd H d (.dK [])) (upd (upd H d (.dK [])) z1 (.lst [.int 0])) := Ex.new nz1
    refine ⟨_, rfl, pE, _, rfl, .inl (SqL.of ((x0.trans x1) _ _ hE)), z1, _, _, rfl, rfl, upd_same, ?_, ?_, ?_, fun z2 nz2 => ?_⟩
    · rw [List.length_map, hal]; omega
    · rw [List.length_map, hal]; omega
    · rw [List.length_map, hal]
      exact sz_of (by simp; omega)
    have zz : (List.replicate (((a0 :: as').map V.ref).length : Int).toNat [V.int 0]).flatten = (List.replicate m 0).map V.int := by
      rw [List.length_map, hal, Int.toNat_natCast]
      exact rep_flat m
    rw [zz]
    have x2 : Ex (upd (upd H d (.dK [])) z1 (.lst [.int 0])) (upd (upd (upd H d (.dK [])) z1 (.lst [.int 0])) z2 (.lst ((List.replicate m 0).map V.int))) := Ex.new nz2
    have hd2 := (x1.trans x2) _ _ (upd_same (H := H) (a := d) (o := .dK []))
    refine ⟨hd2, [(Sum.inl e0.1, .ref z2)], rfl, Nat.le_of_ble_eq_true rfl, ?_⟩
    have xa := (x0.trans x1).trans x2
    have hz2 : upd (upd (upd H d (.dK [])) z1 (.lst [.int 0])) z2 (.lst ((List.replicate m 0).map V.int)) z2 = some (.lst ((List.replicate m 0).map V.int)) := upd_same
    generalize upd (upd (upd H d (.dK [])) z1 (.lst [.int 0])) z2 (.lst ((List.replicate m 0).map V.int)) = H2 at hd2 xa hz2 ⊢
    clear x0 x1 x2 nz1 nz2 zz
    have z2d : z2 ≠ d := ne_of hz2 hd2 (by intro z; cases z)
    have F0 : FarOk (upd H2 d (.dK (mergeK [] [(Sum.inl e0.1, .ref z2)]))) d m [(Sum.inl e0.1, .ref z2)] [e0.1] := by
      refine ⟨upd_same, rfl, by simp, fun x hx => ?_, fun x v hv => ?_⟩
      · have : x = e0.1 := by simpa using hx
        rw [this]
        exact ⟨hE0.1, hE0.2.1⟩
      · have hx : x = e0.1 ∧ v = .ref z2 := by
          by_cases h : (Sum.inl e0.1 : Key) = Sum.inl x
          · rw [valV_pos (p := (Sum.inl e0.1, V.ref z2)) h] at hv
            exact ⟨(Sum.inl.inj h).symm, (Option.some.inj hv).symm⟩
          · have : valV [((Sum.inl e0.1 : Key), V.ref z2)] (Sum.inl x : Key) = none := by simp [valV, List.find?_cons, h]
            rw [this] at hv
            cases hv
        obtain ⟨_, rfl⟩ := hx
        refine ⟨z2, List.replicate m 0, rfl, ?_, List.length_replicate, fun y hy => ?_⟩
        · rw [upd_ne z2d]
          exact hz2
        · rw [List.eq_of_mem_replicate hy]
          exact Nat.zero_le _
    have XB : ExB d H (upd H2 d (.dK (mergeK [] [(Sum.inl e0.1, .ref z2)]))) := Ex.updB xa
    have ndl : ∀ {b : Addr} {o : HO}, H b = some o → b ≠ d := fun g => ne_of_none g nd
    generalize upd H2 d (.dK (mergeK [] [(Sum.inl e0.1, .ref z2)])) = H3 at F0 XB
    clear hz2 hd2 xa
    -- the loop
    refine ⟨fun μ σ H' => ∃ (y3 y4 y5 y6 y7 y8 y9 : Option V) (kvs : List (Key × V)) (L : List Int), σ = [some (.ref pE), some (.ref pA), some (.ref d), y3, y4, y5, y6, y7, y8, y9] ∧ μ = m + 1 - L.length ∧ ExB d H H' ∧ FarOk H' d m kvs L ∧ 1 ≤ L.length,
      ⟨m, _, _, _, _, _, _, _, _, _, rfl, rfl, XB, F0, Nat.le_refl 1⟩, ?_⟩
    rintro μ σ H4 ⟨y3, y4, y5, y6, y7, y8, y9, kvs, L, rfl, rfl, e4, F4, hL1⟩
    refine ⟨_, rfl, d, kvs, rfl, F4.at_, _, rfl, pE, _, rfl, .inl (SqL.of (e4 _ _ (ndl hE) hE)), _, _, rfl, rfl, _, rfl, ?_⟩
    rw [F4.len, List.length_map, hal]
    refine ite2 (fun hc => ?_) (fun hc => ?_)
    · have hLm : L.length ≤ m := by have := of_decide_eq_true hc; omega
      refine ⟨fun σ' H' => ∃ (y3 y4 y5 y6 y7 y8 y9 : Option V) (kvs' : List (Key × V)) (L' : List Int), σ' = [some (.ref pE), some (.ref pA), some (.ref d), y3, y4, y5, y6, y7, y8, y9] ∧ L.length < L'.length ∧ ExB d H H' ∧ FarOk H' d m kvs' L',
        fun σ' H' ⟨z3, z4, z5, z6, z7, z8, z9, kvs', L', a1, a2, a3, a4⟩ => ⟨m + 1 - L'.length, by omega, z3, z4, z5, z6, z7, z8, z9, kvs', L', a1, rfl, a3, a4, by omega⟩, ?_⟩
      refine ⟨_, rfl, pE, _, rfl, SqL.of (e4 _ _ (ndl hE) hE), for_enum (xs := (a0 :: as').map V.ref) (fun i σ' H' => ∃ (y3 y4 y5 y6 y7 y8 y9 : Option V) (kvs' : List (Key × V)) (L' : List Int), σ' = [some (.ref pE), some (.ref pA), some (.ref d), y3, y4, y5, y6, y7, y8, y9] ∧ ExB d H H' ∧ FarOk H' d m kvs' L' ∧
        (L.length < L'.length ∨ (L' = L ∧ ∀ j, j < i → ∀ e, (e0 :: es')[j]? = some e → (e.1 ∈ L ↔ e.2 ∈ L)))) ?_ (fun i σ' H' ⟨_, _, _, _, _, _, _, _, _, _, x, _, _⟩ => SqL.of (x _ _ (ndl hE) hE)) ?_ ?_⟩
      · exact ⟨_, _, _, _, _, _, _, _, _, rfl, e4, F4, .inr ⟨rfl, fun j hj => absurd hj (Nat.not_lt_zero _)⟩⟩
      · rintro i x T σ' H5 hi ⟨z3, z4, z5, z6, z7, z8, z9, kvs', L', rfl, e5, F5, hor⟩ nT
        rw [List.getElem?_map] at hi
        obtain ⟨ai, hai, rfl⟩ := Option.map_eq_some_iff.mp hi
        obtain ⟨ei, hei, hti⟩ := paired_get hEE hai
        have xT : Ex H5 (upd H5 T (.tup [.int (i : Nat), .ref ai])) := Ex.new nT
        have mi := he0 ei (List.mem_of_getElem? hei)
        refine ⟨T, _, rfl, SqT.of upd_same, rfl, _, _, rfl, _, _, rfl, ⟨ai, _, rfl, SqT.of (xT _ _ (e5 _ _ (ndl hti) hti)), rfl, _, _, rfl, _, _, rfl, rfl, rfl, ?_⟩⟩
        have F6 := F5.ex xT
        have e6 : ExB d H (upd H5 T (.tup [.int (i : Nat), .ref ai])) := e5.trans (ExB.of xT)
        generalize upd H5 T (.tup [.int (i : Nat), .ref ai]) = H6 at F6 e6 ⊢
        -- step
        have Est : EvL (tLc (iRng1 (tCons (tCB (rLenS K) (tCons (tVar 0) tNil)) tNil)) (gName 7) tYes (tCB (fun xs H Q => (∃ i, xs = [V.int i] ∧ Q (V.int i) H) ∨ ∃ k, xs = [V.bl k] ∧ Q (V.int (if k = true then 1 else 0)) H) (tCons (tOp rEq (tVar 3) (tVar 7)) tNil)) [7])
            [some (.ref pE), some (.ref pA), some (.ref d), some (.int (i : Nat)), some (.int ei.1), some (.int ei.2), z6, z7, z8, z9] H6 (((List.range m).map fun o => if decide (V.int (i : Nat) = V.int (o : Nat)) = true then (1 : Int) else 0).map V.int) := by
          have g := el_lcR1 (t := tYes) (te := tCB (fun xs H Q => (∃ i, xs = [V.int i] ∧ Q (V.int i) H) ∨ ∃ k, xs = [V.bl k] ∧ Q (V.int (if k = true then 1 else 0)) H) (tCons (tOp rEq (tVar 3) (tVar 7)) tNil)) (j := 7) (vs := [7]) (σ := [some (.ref pE), some (.ref pA), some (.ref d), some (.int (i : Nat)), some (.int ei.1), some (.int ei.2), z6, z7, z8, z9]) (H := H6) (n := (m : Int)) (ta := tCons (tCB (rLenS K) (tCons (tVar 0) tNil)) tNil)
            (fun _ => true) (fun o => .int (if decide (V.int (i : Nat) = V.int (o : Nat)) = true then 1 else 0)) (ea_cons (ev_is (ev_len (ev_var rfl) (SqL.of (e6 _ _ (ndl hE) hE))) (by rw [List.length_map, hal])) ea_nil) (by omega) (fun x => rfl) (fun o H1 e ho Hx ex Qx qx => qx Hx (Ex.refl _)) (fun o H1 e ho hf H2 e2 Q2 q2 => ⟨_, rfl, _, rfl, rfl, .inr ⟨_, rfl, q2 H2 (Ex.refl _)⟩⟩)
          have eg : given (m : Int).toNat (fun _ => true) (fun o => V.int (if decide (V.int (i : Nat) = V.int (o : Nat)) = true then 1 else 0)) = ((List.range m).map fun o => if decide (V.int (i : Nat) = V.int (o : Nat)) = true then (1 : Int) else 0).map V.int := by
            unfold given
            rw [Int.toNat_natCast, List.filter_eq_self.mpr (fun _ _ => rfl), List.map_map]
            rfl
          rw [eg] at g
          exact g
        refine q_asgL Est fun st H7 _ e7 hst => ?_
        have F7 := F6.ex e7
        have e07 := e6.trans (ExB.of e7)
        have stb : ∀ y ∈ (List.range m).map fun o => if decide (V.int (i : Nat) = V.int (o : Nat)) = true then (1 : Int) else 0, y = 0 ∨ y = 1 := by
          intro y hy
          obtain ⟨o, _, rfl⟩ := List.mem_map.mp hy
          split
          · exact .inr rfl
          · exact .inl rfl
        have stl : ((List.range m).map fun o => if decide (V.int (i : Nat) = V.int (o : Nat)) = true then (1 : Int) else 0).length = m := by
          rw [List.length_map, List.length_range]
        generalize ((List.range m).map fun o => if decide (V.int (i : Nat) = V.int (o : Nat)) = true then (1 : Int) else 0) = sl at hst stb stl
        -- the ifs
        have nxt : ∀ H', ExB d H H' → FarOk H' d m kvs' L' → (ei.1 ∈ L' ↔ ei.2 ∈ L') → ∃ (y3 y4 y5 y6 y7 y8 y9 : Option V) (kvs' : List (Key × V)) (L' : List Int), [some (V.ref pE), some (.ref pA), some (.ref d), some (.int (i : Nat)), some (.int ei.1), some (.int ei.2), some (.ref st), z7, z8, z9] = [some (.ref pE), some (.ref pA), some (.ref d), y3, y4, y5, y6, y7, y8, y9] ∧ ExB d H H' ∧ FarOk H' d m kvs' L' ∧
            (L.length < L'.length ∨ (L' = L ∧ ∀ j, j < i + 1 → ∀ e, (e0 :: es')[j]? = some e → (e.1 ∈ L ↔ e.2 ∈ L))) := by
          intro H' x1 x2 x3
          refine ⟨_, _, _, _, _, _, _, kvs', L', rfl, x1, x2, ?_⟩
          rcases hor with h | ⟨rfl, h⟩
          · exact .inl h
          · refine .inr ⟨rfl, fun j hj e he => ?_⟩
            by_cases hji : j < i
            · exact h j hji e he
            · have : j = i := by omega
              subst this
              rw [hei] at he
              have := Option.some.inj he
              rw [← this]
              exact x3
        have grow : ∀ (x : Int) (a : Addr) (ns : List Int) (H' : Hp), ExB d H H' → FarOk H' d m kvs' L' → x ∉ L' → 0 ≤ x ∧ x ≤ m → H' a = some (.lst (ns.map V.int)) → ns.length = m → (∀ y ∈ ns, y.natAbs ≤ L'.length + 1) → ∃ (y3 y4 y5 y6 y7 y8 y9 : Option V) (kvs2 : List (Key × V)) (L2 : List Int), [some (V.ref pE), some (.ref pA), some (.ref d), some (.int (i : Nat)), some (.int ei.1), some (.int ei.2), some (.ref st), z7, z8, z9] = [some (.ref pE), some (.ref pA), some (.ref d), y3, y4, y5, y6, y7, y8, y9] ∧ ExB d H (upd H' d (.dK (putK kvs' (Sum.inl x) (.ref a)))) ∧ FarOk (upd H' d (.dK (putK kvs' (Sum.inl x) (.ref a)))) d m kvs2 L2 ∧
            (L.length < L2.length ∨ (L2 = L ∧ ∀ j, j < i + 1 → ∀ e, (e0 :: es')[j]? = some e → (e.1 ∈ L ↔ e.2 ∈ L))) := by
          intro x a ns H' x1 x2 x3 x4 x5 x6 x7
          refine ⟨_, _, _, _, _, _, _, _, L' ++ [x], rfl, x1.trans (ExB.upd _ _ _), x2.put x3 x4 x5 x6 x7, .inl ?_⟩
          rw [List.length_append]
          simp only [List.length_cons, List.length_nil]
          rcases hor with h | ⟨rfl, _⟩ <;> omega
        have hkv : kvs'.length < sizeLine := small1000 (by have := F7.len; have := F7.le; omega)
        show tIfS _ _ _ _ [some (V.ref pE), some (.ref pA), some (.ref d), some (.int (i : Nat)), some (.int ei.1), some (.int ei.2), some (.ref st), z7, z8, z9] H7
        refine ⟨_, rfl, _, rfl, d, _, rfl, DGet.k (k := Sum.inl ei.1) F7.at_, _, rfl, ?_⟩
        rw [F7.some_ ei.1]
        have snd : (∀ H', Ex H7 H' → ei.1 ∉ L' ∨ ei.2 ∈ L' → tIfS (tAnd (tB (tDIn (tVar 5) (tVar 2))) (tB (tDNotIn (tVar 4) (tVar 2)))) (sDPut (tVar 2) (tVar 4) (tLc (iZip K (tCons (tDGet (tVar 2) (tVar 5)) (tCons (tVar 6) tNil))) (g2 K 8 9) tYes (tOp (rI0 fun i j => V.int (i - j)) (tVar 8) (tVar 9)) [8, 9])) tNext
            { nx := fun σ' H' => ∃ (y3 y4 y5 y6 y7 y8 y9 : Option V) (kvs' : List (Key × V)) (L' : List Int), σ' = [some (.ref pE), some (.ref pA), some (.ref d), y3, y4, y5, y6, y7, y8, y9] ∧ ExB d H H' ∧ FarOk H' d m kvs' L' ∧ (L.length < L'.length ∨ (L' = L ∧ ∀ j, j < i + 1 → ∀ e, (e0 :: es')[j]? = some e → (e.1 ∈ L ↔ e.2 ∈ L))), rt := Q,
              bk := fun σ' H' => ∃ (y3 y4 y5 y6 y7 y8 y9 : Option V) (kvs' : List (Key × V)) (L' : List Int), σ' = [some (.ref pE), some (.ref pA), some (.ref d), y3, y4, y5, y6, y7, y8, y9] ∧ L.length < L'.length ∧ ExB d H H' ∧ FarOk H' d m kvs' L',
              ct := fun σ' H' => ∃ (y3 y4 y5 y6 y7 y8 y9 : Option V) (kvs' : List (Key × V)) (L' : List Int), σ' = [some (.ref pE), some (.ref pA), some (.ref d), y3, y4, y5, y6, y7, y8, y9] ∧ ExB d H H' ∧ FarOk H' d m kvs' L' ∧ (L.length < L'.length ∨ (L' = L ∧ ∀ j, j < i + 1 → ∀ e, (e0 :: es')[j]? = some e → (e.1 ∈ L ↔ e.2 ∈ L))) }
            [some (V.ref pE), some (.ref pA), some (.ref d), some (.int (i : Nat)), some (.int ei.1), some (.int ei.2), some (.ref st), z7, z8, z9] H') := by
          intro H' x1 hno
          have F8 := F7.ex x1
          have e8 := e07.trans (ExB.of x1)
          refine ⟨_, rfl, _, rfl, d, _, rfl, DGet.k (k := Sum.inl ei.2) F8.at_, _, rfl, ?_⟩
          rw [F8.some_ ei.2]
          by_cases h2 : ei.2 ∈ L'
          · rw [decide_eq_true h2]
            refine iteT ?_
            refine ⟨_, rfl, _, rfl, d, _, rfl, DGet.k (k := Sum.inl ei.1) F8.at_, _, rfl, ?_⟩
            rw [F8.some_ ei.1]
            by_cases h1 : ei.1 ∈ L'
            · rw [decide_eq_true h1]
              exact iteF (nxt _ e8 F8 ⟨fun _ => h2, fun _ => h1⟩)
            · rw [decide_eq_false h1]
              refine iteT ?_
              obtain ⟨ar, ns, hv, har, hnl, hnb⟩ := F8.get h2
              refine el_zip (K := K) (f := fun i j => i - j) (xs := ns) (ys := sl) (ea_cons (ev_dget rfl rfl F8.at_ hv) (ea_cons (ev_var rfl) ea_nil)) (SqL.of har) (SqL.of (x1 _ _ hst)) (by rw [hnl, stl]) (by omega) (fun u v => rfl) (fun x y H1 _ _ _ => ev_op (ev_var rfl) (ev_var rfl) rv_I0) H' (Ex.refl _) _ fun r H9 nr e9 hr => ?_
              have F9 := F8.ex e9
              refine ⟨_, rfl, _, rfl, d, _, rfl, DPut.k (k := Sum.inl ei.1) F9.at_ hkv, ?_⟩
              refine grow _ r _ H9 (e8.trans (ExB.of e9)) F9 h1 ⟨mi.1, mi.2.1⟩ hr (by rw [List.length_zipWith]; omega) fun y hy => ?_
              obtain ⟨u, v, hu, hv', rfl⟩ : ∃ u v, u ∈ ns ∧ v ∈ sl ∧ u - v = y := by
                obtain ⟨j, hj⟩ := List.getElem?_of_mem hy
                rw [List.getElem?_zipWith] at hj
                cases h3 : ns[j]? with
                | none => rw [h3] at hj; simp at hj
                | some u =>
                  cases h4 : sl[j]? with
                  | none => rw [h3, h4] at hj; simp at hj
                  | some v =>
                    rw [h3, h4] at hj
                    exact ⟨u, v, List.mem_of_getElem? h3, List.mem_of_getElem? h4, Option.some.inj hj⟩
              have b1 := hnb u hu
              rcases stb v hv' with rfl | rfl <;> omega
          · rw [decide_eq_false h2]
            refine iteF ?_
            have h1 : ei.1 ∉ L' := hno.resolve_right h2
            exact nxt _ e8 F8 ⟨fun z => absurd z h1, fun z => absurd z h2⟩
        by_cases h1 : ei.1 ∈ L'
        · rw [decide_eq_true h1]
          refine iteT ?_
          refine ⟨_, rfl, _, rfl, d, _, rfl, DGet.k (k := Sum.inl ei.2) F7.at_, _, rfl, ?_⟩
          rw [F7.some_ ei.2]
          by_cases h2 : ei.2 ∈ L'
          · rw [decide_eq_true h2]
            exact iteF (snd H7 (Ex.refl _) (.inr h2))
          · rw [decide_eq_false h2]
            refine iteT ?_
            obtain ⟨ar, ns, hv, har, hnl, hnb⟩ := F7.get h1
            refine el_zip (K := K) (f := fun i j => i + j) (xs := ns) (ys := sl) (ea_cons (ev_dget rfl rfl F7.at_ hv) (ea_cons (ev_var rfl) ea_nil)) (SqL.of har) (SqL.of hst) (by rw [hnl, stl]) (by omega) (fun u v => rfl) (fun x y H1 _ _ _ => ev_op (ev_var rfl) (ev_var rfl) rv_I0) H7 (Ex.refl _) _ fun r H9 nr e9 hr => ?_
            have F9 := F7.ex e9
            refine ⟨_, rfl, _, rfl, d, _, rfl, DPut.k (k := Sum.inl ei.2) F9.at_ hkv, ?_⟩
            refine grow _ r _ H9 (e07.trans (ExB.of e9)) F9 h2 ⟨mi.2.2.1, mi.2.2.2⟩ hr (by rw [List.length_zipWith]; omega) fun y hy => ?_
            obtain ⟨u, v, hu, hv', rfl⟩ : ∃ u v, u ∈ ns ∧ v ∈ sl ∧ u + v = y := by
              obtain ⟨j, hj⟩ := List.getElem?_of_mem hy
              rw [List.getElem?_zipWith] at hj
              cases h3 : ns[j]? with
              | none => rw [h3] at hj; simp at hj
              | some u =>
                cases h4 : sl[j]? with
                | none => rw [h3, h4] at hj; simp at hj
                | some v =>
                  rw [h3, h4] at hj
                  exact ⟨u, v, List.mem_of_getElem? h3, List.mem_of_getElem? h4, Option.some.inj hj⟩
            have b1 := hnb u hu
            rcases stb v hv' with rfl | rfl <;> omega
        · rw [decide_eq_false h1]
          exact iteF (snd H7 (Ex.refl _) (.inl h1))
      · rintro σ' H5 ⟨z3, z4, z5, z6, z7, z8, z9, kvs', L', rfl, e5, F5, hor⟩
        refine ⟨z3, z4, z5, z6, z7, z8, z9, kvs', L', rfl, ?_, e5, F5⟩
        rcases hor with h | ⟨rfl, h⟩
        · exact h
        · exfalso
          rw [List.length_map, hal] at h
          obtain ⟨x0, hx0⟩ : ∃ x0, x0 ∈ L' := by
            cases L' with
            | nil => simp at hL1
            | cons x r => exact ⟨x, List.mem_cons_self ..⟩
          have hS := hC (fun x => decide (x ∈ L')) (fun e he => by
            obtain ⟨j, hj⟩ := List.getElem?_of_mem he
            have := h j (by have := (List.getElem?_eq_some_iff.mp hj).1; omega) e hj
            by_cases q : e.1 ∈ L'
            · rw [decide_eq_true q, decide_eq_true (this.mp q)]
            · rw [decide_eq_false q, decide_eq_false (fun z => q (this.mpr z))])
          have hall : ∀ x ∈ numsTo (m + 1), x ∈ L' := by
            intro x hx
            have hx := mem_numsTo.mp hx
            have i0 := F5.inn x0 hx0
            have := hS x x0 (by omega) (by omega) i0.1 i0.2
            rw [decide_eq_true hx0] at this
            exact of_decide_eq_true this
          have := nodup_sub (nodup_nums (m + 1)) hall
          rw [numsTo_length] at this
          omega
    · have hLm : m < L.length := by
        have : ¬ ((L.length : Int) ≤ (m : Int)) := fun z => hc (decide_eq_true z)
        omega
      have hall := F4.all hLm
      have hEl := e4 _ _ (ndl hE) hE
      have hAl := e4 _ _ (ndl hA) hA
      have hAE4 : EdgesAt H4 bs qs := EdgesAt.mono (fun a xs g => e4 _ _ (ndl g) g) hAE
      -- the rows
      refine lc_rows (m := m) (F := fun kk => qs.map fun e => (valN H4 kvs e.2 kk) - (valN H4 kvs e.1 kk)) (ea_cons (ev_is (ev_len (ev_var rfl) (SqL.of hEl)) (by rw [List.length_map, hal])) ea_nil) (by omega) (fun u => rfl) ?_ ?_
      · intro kk H5 x5 hkk
        refine el_pairs (K := K) (f := fun e => (valN H4 kvs e.2 kk) - (valN H4 kvs e.1 kk)) rfl (x5 _ _ hAl) (EdgesAt.mono (tups_E x5) hAE4) (by omega) (fun u v => rfl) fun e H6 he x6 => ?_
        have mq := hq0 e he
        obtain ⟨a1, n1, v1, g1, l1, b1⟩ := F4.get (hall e.1 mq.1 mq.2.1)
        obtain ⟨a2, n2, v2, g2, l2, b2⟩ := F4.get (hall e.2 mq.2.2.1 mq.2.2.2)
        have x46 := x5.trans x6
        rw [valN_eq v1 g1, valN_eq v2 g2]
        refine ev_op (ev_op (ev_dget rfl rfl (x46 _ _ F4.at_) v2) (ev_var rfl) (rv_ixL (SqL.of (x46 _ _ g2)) (atI_row (by omega)))) (ev_op (ev_dget rfl rfl (x46 _ _ F4.at_) v1) (ev_var rfl) (rv_ixL (SqL.of (x46 _ _ g1)) (atI_row (by omega)))) rv_I0
      · intro p rs H5 np nrs ndr npr x5 ht
        have hH : ∀ {a : Addr}, H4 a = none → H a = none := fun {a} g => fresh_B e4 g ⟨_, F4.at_⟩
        refine k rs _ p H5 (hH np) (fun a ha => hH (nrs a ha)) ndr npr (fun b o g => (e4.trans (ExB.of x5)) b o (ndl g) g) ht (by rw [List.length_map, List.length_range]) fun r hr => ?_
        obtain ⟨kk, hkk, rfl⟩ := List.mem_map.mp hr
        refine ⟨by rw [List.length_map], fun y hy => ?_⟩
        obtain ⟨e, he, rfl⟩ := List.mem_map.mp hy
        have mq := hq0 e he
        have hkk := List.mem_range.mp hkk
        obtain ⟨a1, n1, v1, g1, l1, b1⟩ := F4.get (hall e.1 mq.1 mq.2.1)
        obtain ⟨a2, n2, v2, g2, l2, b2⟩ := F4.get (hall e.2 mq.2.2.1 mq.2.2.2)
        rw [valN_eq v1 g1, valN_eq v2 g2]
        have c1 : n1[kk]?.getD 0 ∈ n1 := by
          rw [List.getElem?_eq_getElem (by omega)]
          exact List.getElem_mem _
        have c2 : n2[kk]?.getD 0 ∈ n2 := by
          rw [List.getElem?_eq_getElem (by omega)]
          exact List.getElem_mem _
        have d1 := b1 _ c1
        have d2 := b2 _ c2
        have := F4.le
        omega
-- DEF is_row

def sp_is_row (K : PySem.W.Frag) : Sp := fun vs H Q _ => ∃ (a : Addr) (ns : List Int), vs = [.ref a] ∧ H a = some (.lst (ns.map V.int)) ∧ 1 ≤ ns.length ∧ ns.length ≤ 8 ∧ ∀ H', Ex H H' → Q (.bl true) H'

theorem ok_is_row (T : Txt K mg) : FnOk P w K mg base CX0 2 T.f_is_row T.fd_is_row ["thing"] (sp_is_row K) := by
  refine Fun.ok T.F_is_row sc_is_row (fun vs H Q E h => ?_) (fun cdv A outer s H vs Q E hr h => ?_)
  · obtain ⟨_, _, rfl, _⟩ := h; rfl
  · refine ⟨_, (pss_cons (ps_if (PW.pt (pw_or (pt_not (pt_val (pe_callB (id := "isinstance") (r := rIsi K) call_isi (by rfl) T.n_isinstance (by decide +kernel) (pa_cons (pv 0) (pa_cons (pe_bltn (v := .ty "list") (by rfl) T.n_list (by decide +kernel) rfl) pa_nil))))) (pw_or1 (pt_not (pt_chain op_le op_le pe_int (pe_callB (id := "len") (r := rLenS K) call_len_seq (by rfl) T.n_len PySem.boot_len (pa_cons (pv 0) pa_nil)) (pe_glob (v := .int 8) (by rfl) T.g_MOST ⟨_, rfl⟩))))))
        (pss_one (ps_ret pe_bl))
        pss_nil)
      (pss_one (ps_ret (pe_callB (id := "all") (r := rAll K) (cr_all rfl) (by rfl) T.n_all (by decide +kernel) (pa_cons (pe_lc (own := [("entry", 1)]) (wi := iList K _) (g := gName 1) (tt := tYes) rfl sc_is_row.nd (pi_list (pv 0)) (blkOk_by (N := ["thing", "entry"]) (sc := (defScope s_is_row)) (by decide +kernel)) (fun _ _ _ _ _ => pg_name (i := 1) sc_is_row.nd rfl (Or.inl rfl)) (fun _ _ _ _ _ => pts_nil) (fun _ _ _ _ _ => (pe_call (ok_is_whole T) hr (by rfl) T.g_is_whole T.k_is_whole T.b_is_whole .nil pass0 (pa_cons (pv 1) pa_nil)))) pa_nil))))), ?_⟩
    obtain ⟨a, ns, rfl, ha, h1, h8, k⟩ := h
    refine q_when (b := false) (et_is (et_or (et_not (et_B (ev_isi (t := "list") (b := true) (ev_var rfl) ev_c (fun H1 e => .base (.lst (e _ _ ha))) (by decide +kernel)))) (fun _ => et_not (et_test (ev_chain ev_c (ev_is (ev_len (ev_var rfl) (SqL.of ha)) (by rw [List.length_map])) ev_c rv_le rv_le)))) ?_) (fun z => nomatch z) (fun _ H1 e1 => ?_)
    · rw [decide_eq_true (show (1 : Int) ≤ (ns.length : Int) by omega), decide_eq_true (show (ns.length : Int) ≤ 8 by omega)]
      rfl
    refine s_ret (ev_all (el_yes (a := a) rfl (e1 _ _ ha) (by rw [List.length_map]; omega) (fun x H' hx e => ?_) (fun x => rfl))) fun H2 e2 => k H2 (e1.trans e2)
    obtain ⟨i, _, rfl⟩ := List.mem_map.mp hx
    exact ev_fn (ea_cons (ev_var rfl) ea_nil) fun H3 e3 Q3 q3 => ⟨_, "int", rfl, .base (.int _), .inl rfl, q3 H3 (Ex.refl _)⟩
-- DEF _law_one

def sp__law_one (K : PySem.W.Frag) : Sp := fun vs H Q _ => ∃ (s l : Addr) (n : Int) (xs : List V), vs = [.ref s, .ref l] ∧ SrcAt H s n ∧ n ≤ 500000000 ∧ l ≠ s ∧ SqL K H l xs ∧ 0 < xs.length ∧ xs.length ≤ 1000 ∧
  ∀ v ∈ xs, ∀ H', ExB s H H' → SrcAt H' s (n + 1) → Q v H'

theorem ok__law_one (T : Txt K mg) : FnOk P w K mg base CX0 2 T.f__law_one T.fd__law_one ["_law_source", "_law_some"] (sp__law_one K) := by
  refine Fun.ok T.F__law_one sc__law_one (fun vs H Q E h => ?_) (fun cdv A outer s H vs Q E hr h => ?_)
  · obtain ⟨_, _, _, _, rfl, _⟩ := h; rfl
  · refine ⟨_, (pss_one (ps_ret (pe_ix (r := rIxL K) ix_list (pv 1) (pe_call (ok__law_next T) hr (by rfl) T.g__law_next T.k__law_next T.b__law_next .nil pass0 (pa_cons (pv 0) (pa_cons (pe_callB (id := "len") (r := rLenS K) call_len_seq (by rfl) T.n_len PySem.boot_len (pa_cons (pv 1) pa_nil)) pa_nil))) (fun _ _ => rfl)))), ?_⟩
    obtain ⟨s, l, n, xs, rfl, hs, hn, nls, hl, h0, h1, k⟩ := h
    refine ⟨_, rfl, _, rfl, _, rfl, l, xs, rfl, .inl hl, s, _, n, rfl, hs, by omega, by omega, (by show xs.length < 2 ^ 8000; exact Nat.lt_of_le_of_lt h1 (by decide +kernel)), fun f H' f0 f1 e s' => ?_⟩
    have hk : f.toNat < xs.length := by omega
    refine ⟨l, xs, f, xs[f.toNat], rfl, rfl, e.l nls hl, at_of (j := f.toNat) (by omega) (List.getElem?_eq_getElem hk), ?_⟩
    exact k _ (List.getElem_mem hk) H' e s'
-- DEF _law_mixed

def sp__law_mixed (K : PySem.W.Frag) : Sp := fun vs H Q _ => ∃ (s l : Addr) (n : Int) (xs : List V), vs = [.ref s, .ref l] ∧ SrcAt H s n ∧ n ≤ 500000000 ∧ l ≠ s ∧ SqL K H l xs ∧ xs.length ≤ 100 ∧ (∀ v ∈ xs, DatV K H s v) ∧
  ∀ (ys : List V) (p : Addr) (H' : Hp), ys.Perm xs → H p = none → ExB s H H' → SrcAt H' s (n + 100) → H' p = some (.lst ys) → Q (.ref p) H'

theorem ok__law_mixed (T : Txt K mg) : FnOk P w K mg base CX0 2 T.f__law_mixed T.fd__law_mixed ["_law_source", "_law_some"] (sp__law_mixed K) := by
  refine Fun.ok T.F__law_mixed sc__law_mixed (fun vs H Q E h => ?_) (fun cdv A outer s H vs Q E hr h => ?_)
  · obtain ⟨_, _, _, _, rfl, _⟩ := h; rfl
  · refine ⟨_, (pss_cons (ps_set (i := 2) sc__law_mixed.nd rfl (by first | exact Or.inl rfl | exact Or.inr rfl) (pe_callTy (T := "list") (r := rListS K) call_list_of (by rfl) T.n_list (by decide +kernel) (pa_cons (pv 1) pa_nil)))
      (pss_cons (ps_set (i := 3) sc__law_mixed.nd rfl (by first | exact Or.inl rfl | exact Or.inr rfl) (pe_lst pa_nil))
      (pss_cons (ps_while PassesOwn.never (pt_cmpR (r := rNeD K) (op_neD hr.units) (pv 2) (pe_lst pa_nil) (nomark _))
        (pss_one (ps_expr (pe_bm PySem.F.plainAttrs_list PySem.F.slot_list_append PySem.F.type_list_append mt_append (pv 3) (pa_cons (pe_bm PySem.F.plainAttrs_list PySem.F.slot_list_pop PySem.F.type_list_pop mt_popAt (pv 2) (pa_cons (pe_call (ok__law_next T) hr (by rfl) T.g__law_next T.k__law_next T.b__law_next .nil pass0 (pa_cons (pv 0) (pa_cons (pe_callB (id := "len") (r := rLenS K) call_len_seq (by rfl) T.n_len PySem.boot_len (pa_cons (pv 2) pa_nil)) pa_nil))) pa_nil)) pa_nil)))))
      (pss_one (ps_ret (pv 3)))))), ?_⟩
    obtain ⟨s, l, n, xs, rfl, hs, hn, nls, hl, h1, hd, k⟩ := h
    -- left, found
    refine ⟨_, rfl, l, xs, rfl, .inl hl, fun q nq => ?_⟩
    refine ⟨Nat.zero_le _, fun p np => ?_⟩
    have nqs : q ≠ s := hs.ne nq
    have nps : p ≠ s := (hs.ex (Ex.new nq)).ne np
    have npq : p ≠ q := (ne_of_none upd_same np).symm
    have npH : H p = none := fresh_back (Ex.new nq) np
    refine ⟨fun m σ H' => ∃ ls fs : List V, σ = [some (.ref s), some (.ref l), some (.ref q), some (.ref p)] ∧ m = ls.length ∧ (fs ++ ls).Perm xs ∧ H' q = some (.lst ls) ∧ H' p = some (.lst fs) ∧ ExB s H H' ∧ SrcAt H' s (n + fs.length),
      ⟨xs.length, xs, [], rfl, rfl, .refl _, ?_, upd_same, ?_, ?_⟩, ?_⟩
    · rw [upd_ne npq.symm]
      exact upd_same
    · exact ExB.of ((Ex.new nq).trans (Ex.new np))
    · exact (hs.ex ((Ex.new nq).trans (Ex.new np))).le (by simp)
    rintro m σ H1 ⟨ls, fs, rfl, rfl, hp, hq, hpf, e1, s1⟩
    have hlen : fs.length + ls.length = xs.length := by
      rw [← List.length_append]
      exact hp.length_eq
    obtain ⟨ds, d1, d2, d3⟩ := dat_all (K := K) (H := H1) (s := s) (xs := ls) fun v hv => (hd v (hp.mem_iff.mp (List.mem_append_right _ hv))).exB e1
    refine ⟨_, rfl, Nat.zero_le _, fun z nz => ?_⟩
    have x1 : Ex H1 (upd H1 z (.lst [])) := Ex.new nz
    refine ⟨_, _, .lst (SqL.of (x1 _ _ hq)) (dpAll_ex x1 d1), .lst (SqL.of upd_same) .nil, shaped_list d2 (by omega), rfl, _, rfl, ?_⟩
    rw [eqv_nil]
    cases ls with
    | nil =>
      cases d1
      refine iteF ?_
      refine ⟨_, rfl, ?_⟩
      rw [List.append_nil] at hp
      exact k fs p _ hp npH (e1.trans (ExB.of x1)) ((s1.ex x1).le (by have := hp.length_eq; omega)) (x1 _ _ hpf)
    | cons y0 ls0 =>
      cases d1 with
      | cons _ _ =>
        refine iteT ?_
        refine ⟨fun σ' H' => ∃ ls' fs' : List V, σ' = [some (.ref s), some (.ref l), some (.ref q), some (.ref p)] ∧ ls'.length < (y0 :: ls0).length ∧ (fs' ++ ls').Perm xs ∧ H' q = some (.lst ls') ∧ H' p = some (.lst fs') ∧ ExB s H H' ∧ SrcAt H' s (n + fs'.length),
          fun σ' H' ⟨ls', fs', a1, a2, a3, a4, a5, a6, a7⟩ => ⟨ls'.length, a2, ls', fs', a1, rfl, a3, a4, a5, a6, a7⟩, ?_⟩
        refine ⟨_, rfl, .inl ⟨rfl, _, SqL.of (x1 _ _ hpf)⟩, _, rfl, .inl ⟨rfl, _, SqL.of (x1 _ _ hq)⟩, _, rfl, _, rfl, q, _, rfl, .inl (SqL.of (x1 _ _ hq)), s, _, n + fs.length, rfl, s1.ex x1, by omega, (by simp only [List.length_cons]; omega), ?_, fun f H2 f0 f1 e2 s2 => ?_⟩
        · show (((y0 :: ls0).length : Nat) : Int).natAbs < 2 ^ 8000
          rw [Int.natAbs_natCast]
          exact Nat.lt_of_le_of_lt (show (y0 :: ls0).length ≤ 100 by omega) (by decide +kernel)
        · have hk : f.toNat < (y0 :: ls0).length := by omega
          have hy := List.getElem?_eq_getElem hk
          refine ⟨q, _, f, f.toNat, _, rfl, rfl, e2 _ _ nqs (x1 _ _ hq), by omega, by omega, seqIx (n := 0) f0 f1, hy, ?_⟩
          refine ⟨p, fs, _, rfl, rfl, ?_, small1000 (by omega), ?_⟩
          · rw [upd_ne npq]
            exact e2 _ _ nps (x1 _ _ hpf)
          · refine ⟨_, _, rfl, ?_, (perm_pop hy).trans hp, ?_, upd_same, ?_, ?_⟩
            · rw [List.length_eraseIdx_of_lt hk]
              omega
            · rw [upd_ne npq.symm]
              exact upd_same
            · refine fun b o nb h => ?_
              have nbp := ne_of_none h npH
              have nbq := ne_of_none h nq
              rw [upd_ne nbp, upd_ne nbq]
              exact e2 _ _ nb (x1 _ _ (e1 _ _ nb h))
            · have s3 : SrcAt H2 s (n + ((fs ++ [(y0 :: ls0)[f.toNat]]).length : Nat)) := s2.le (by rw [List.length_append]; simp; omega)
              obtain ⟨a1, a2, a3, a4, a5⟩ := s3
              exact ⟨a1, a2, a3, by rw [upd_ne nps.symm, upd_ne nqs.symm]; exact a4, a5⟩
-- DEF is_table

def sp_is_table (K : PySem.W.Frag) : Sp := fun vs H Q _ => ∃ (p : Addr) (as : List Addr) (rows : List (List Int)) (m w : Nat), vs = [.ref p] ∧ TabOk H p as rows m w ∧ ∀ H', Ex H H' → Q (.bl true) H'

theorem ok_is_table (T : Txt K mg) : FnOk P w K mg base CX0 3 T.f_is_table T.fd_is_table ["thing"] (sp_is_table K) := by
  refine Fun.ok T.F_is_table sc_is_table (fun vs H Q E h => ?_) (fun cdv A outer s H vs Q E hr h => ?_)
  · obtain ⟨_, _, _, _, _, rfl, _⟩ := h; rfl
  · refine ⟨_, (pss_cons (ps_if (PW.pt (pw_or (pt_not (pt_val (pe_callB (id := "isinstance") (r := rIsi K) call_isi (by rfl) T.n_isinstance (by decide +kernel) (pa_cons (pv 0) (pa_cons (pe_bltn (v := .ty "list") (by rfl) T.n_list (by decide +kernel) rfl) pa_nil))))) (pw_or1 (pt_not (pt_chain op_le op_le pe_int (pe_callB (id := "len") (r := rLenS K) call_len_seq (by rfl) T.n_len PySem.boot_len (pa_cons (pv 0) pa_nil)) (pe_glob (v := .int 8) (by rfl) T.g_MOST ⟨_, rfl⟩))))))
        (pss_one (ps_ret pe_bl))
        pss_nil)
      (pss_cons (ps_if (pt_not (pt_val (pe_callB (id := "all") (r := rAll K) (cr_all rfl) (by rfl) T.n_all (by decide +kernel) (pa_cons (pe_lc (own := [("row", 1)]) (wi := iList K _) (g := gName 1) (tt := tYes) rfl sc_is_table.nd (pi_list (pv 0)) (blkOk_by (N := ["thing", "row"]) (sc := (defScope s_is_table)) (by decide +kernel)) (fun _ _ _ _ _ => pg_name (i := 1) sc_is_table.nd rfl (Or.inl rfl)) (fun _ _ _ _ _ => pts_nil) (fun _ _ _ _ _ => (pe_call (ok_is_row T) hr (by rfl) T.g_is_row T.k_is_row T.b_is_row .nil pass0 (pa_cons (pv 1) pa_nil)))) pa_nil))))
        (pss_one (ps_ret pe_bl))
        pss_nil)
      (pss_one (ps_ret (pe_callB (id := "all") (r := rAll K) (cr_all rfl) (by rfl) T.n_all (by decide +kernel) (pa_cons (pe_lc (own := [("row", 1)]) (wi := iList K _) (g := gName 1) (tt := tYes) rfl sc_is_table.nd (pi_list (pv 0)) (blkOk_by (N := ["thing", "row"]) (sc := (defScope s_is_table)) (by decide +kernel)) (fun _ _ _ _ _ => pg_name (i := 1) sc_is_table.nd rfl (Or.inl rfl)) (fun _ _ _ _ _ => pts_nil) (fun _ _ _ _ _ => (pe_cmpR op_eq (pe_callB (id := "len") (r := rLenS K) call_len_seq (by rfl) T.n_len PySem.boot_len (pa_cons (pv 1) pa_nil)) (pe_callB (id := "len") (r := rLenS K) call_len_seq (by rfl) T.n_len PySem.boot_len (pa_cons (pe_ix (r := rIxL K) ix_list (pv 0) pe_int (fun _ _ => rfl)) pa_nil)) (nomark _)))) pa_nil)))))), ?_⟩
    obtain ⟨p, as, rows, m, w, rfl, hT, k⟩ := h
    have hb := hT.b
    refine q_when (b := false) (et_is (et_or (et_not (et_B (ev_isi (t := "list") (b := true) (ev_var rfl) ev_c (fun H1 e => .base (.lst (e _ _ hT.tab.1))) (by decide +kernel)))) (fun _ => et_not (et_test (ev_chain ev_c (ev_is (ev_len (ev_var rfl) (SqL.of hT.tab.1)) (by rw [List.length_map, hT.al])) ev_c rv_le rv_le)))) ?_) (fun z => nomatch z) (fun _ H1 e1 => ?_)
    · rw [decide_eq_true (show (1 : Int) ≤ (m : Int) by omega), decide_eq_true (show (m : Int) ≤ 8 by omega)]
      rfl
    have hT1 := hT.ex e1
    refine q_when (b := false) (et_not (et_B (ev_all (el_yes (a := p) rfl hT1.tab.1 (by rw [List.length_map, hT.al]; omega) (fun x H' hx e => ?_) (fun x => rfl))))) (fun z => nomatch z) (fun _ H2 e2 => ?_)
    · obtain ⟨a, ha, rfl⟩ := List.mem_map.mp hx
      obtain ⟨r, hr, hh⟩ := paired_mem hT1.tab.2 ha
      have := hT1.w_ r hr
      exact ev_fn (ea_cons (ev_var rfl) ea_nil) fun H3 e3 Q3 q3 => ⟨a, r, rfl, (e.trans e3) _ _ hh, by omega, by omega, q3⟩
    have hT2 := hT1.ex e2
    refine s_ret (ev_all (el_yes (a := p) rfl hT2.tab.1 (by rw [List.length_map, hT.al]; omega) (fun x H' hx e => ?_) (fun x => rfl))) fun H3 e3 => k H3 ((e1.trans e2).trans e3)
    obtain ⟨a, ha, rfl⟩ := List.mem_map.mp hx
    obtain ⟨r, hr, hh⟩ := paired_mem hT2.tab.2 ha
    obtain ⟨a0, r0, _, _, hh0, hl0, at0⟩ := hT2.row0
    have := hT2.w_ r hr
    refine ev_is (ev_op (ev_len (ev_var rfl) (SqL.of (e _ _ hh))) (ev_len (ev_op (ev_var rfl) ev_c (rv_ixL (SqL.of (e _ _ hT2.tab.1)) at0)) (SqL.of (e _ _ hh0))) (rv_eq rfl)) ?_
    rw [List.length_map, List.length_map, hl0, this]
    exact congrArg V.bl (decide_eq_true rfl)
-- DEF _law_ends

def sp__law_ends (K : PySem.W.Frag) : Sp := fun vs H Q _ => ∃ (s : Addr) (n m : Int), vs = [.ref s, .int m] ∧ SrcAt H s n ∧ n ≤ 400000000 ∧ 1 ≤ m ∧ m ≤ 8 ∧
  ∀ (as : List Addr) (es : List (Int × Int)) (p : Addr) (H' : Hp), (es.length : Int) = m → (∀ e ∈ es, 0 ≤ e.1 ∧ e.1 ≤ m ∧ 0 ≤ e.2 ∧ e.2 ≤ m) → Conn es m → EdgesAt H' as es → H' p = some (.lst (as.map V.ref)) → H p = none → ExB s H H' → SrcAt H' s (n + 300) → Q (.ref p) H'

theorem ok__law_ends (T : Txt K mg) : FnOk P w K mg base CX0 3 T.f__law_ends T.fd__law_ends ["_law_source", "_law_many"] (sp__law_ends K) := by
  refine Fun.ok T.F__law_ends sc__law_ends (fun vs H Q E h => ?_) (fun cdv A outer s H vs Q E hr h => ?_)
  · obtain ⟨_, _, _, rfl, _⟩ := h; rfl
  · refine ⟨_, (pss_cons (ps_set (i := 2) sc__law_ends.nd rfl (by first | exact Or.inl rfl | exact Or.inr rfl) (pe_call (ok__law_mixed T) hr (by rfl) T.g__law_mixed T.k__law_mixed T.b__law_mixed .nil pass0 (pa_cons (pv 0) (pa_cons (pe_listRg rfl (by rfl) T.n_list (prg_1 (by rfl) T.n_range (pe_op op_add (pv 1) pe_int))) pa_nil))))
      (pss_cons (ps_set (i := 3) sc__law_ends.nd rfl (by first | exact Or.inl rfl | exact Or.inr rfl) (pe_lst pa_nil))
      (pss_cons (ps_for PassesOwn.never rfl (pi_range1 (by rfl) T.n_range (pa_cons (pv 1) pa_nil)) (pg_name (i := 4) sc__law_ends.nd rfl (by first | exact Or.inl rfl | exact Or.inr rfl))
        (pss_cut (ps_set (i := 5) sc__law_ends.nd rfl (by first | exact Or.inl rfl | exact Or.inr rfl) (pe_tup (pa_cons (pe_ix (r := rIxL K) ix_list (pv 2) (pe_call (ok__law_next T) (hr.mono (by decide)) (by rfl) T.g__law_next T.k__law_next T.b__law_next .nil pass0 (pa_cons (pv 0) (pa_cons (pe_op op_add (pv 4) pe_int) pa_nil))) (fun _ _ => rfl)) (pa_cons (pe_ix (r := rIxL K) ix_list (pv 2) (pe_op op_add (pv 4) pe_int) (fun _ _ => rfl)) pa_nil))))
          (pss_one (ps_expr (pe_bm PySem.F.plainAttrs_list PySem.F.slot_list_append PySem.F.type_list_append mt_append (pv 3) (pa_cons (pe_ix (r := rIxL K) ix_list (pe_lst (pa_cons (pv 5) (pa_cons (pe_revT (pv 5)) pa_nil))) (pe_call (ok__law_next T) (hr.mono (by decide)) (by rfl) T.g__law_next T.k__law_next T.b__law_next .nil pass0 (pa_cons (pv 0) (pa_cons pe_int pa_nil))) (fun _ _ => rfl)) pa_nil))))))
      (pss_one (ps_ret (pe_call (ok__law_mixed T) hr (by rfl) T.g__law_mixed T.k__law_mixed T.b__law_mixed .nil pass0 (pa_cons (pv 0) (pa_cons (pv 3) pa_nil)))))))), ?_⟩
    obtain ⟨s, n, m, rfl, hs, hn, hm1, hm8, k⟩ := h
    refine ⟨_, rfl, _, rfl, _, _, rfl, rfl, _, rfl, RgOk.of_le (by omega) (by omega) (by omega) (by omega), fun q nq => ?_⟩
    have x1 := Ex.new (o := .lst (rgV 0 (m + 1))) nq
    refine ⟨s, q, n, _, rfl, hs.ex x1, by omega, hs.ne nq, SqL.of upd_same, ?_, ?_, fun ys p1 H1 hp np1 e1 s1 h1 => ?_⟩
    · rw [rgV_length]
      omega
    · intro v hv
      rw [rgV_nums] at hv
      obtain ⟨i, _, rfl⟩ := List.mem_map.mp hv
      exact datv_int i
    rw [rgV_nums] at hp
    obtain ⟨pl, rfl, hpl⟩ := perm_ints hp
    have np1H : H p1 = none := fresh_back x1 np1
    have e01 : ExB s H H1 := (ExB.of x1).trans e1
    have hpll : pl.length = m.toNat + 1 := by
      rw [hpl.length_eq, numsTo_length]
      omega
    have hplm : ∀ a, a ∈ pl ↔ 0 ≤ a ∧ a ≤ m := fun a => by
      rw [hpl.mem_iff, mem_numsTo]
      omega
    have np1s : p1 ≠ s := (hs.ex x1).ne np1
    clear hp x1 e1 np1 nq
    -- found
    refine ⟨Nat.zero_le _, fun p2 np2 => ?_⟩
    have x2 : Ex H1 (upd H1 p2 (.lst [])) := Ex.new np2
    have np2s : p2 ≠ s := s1.ne np2
    have np12 : p1 ≠ p2 := ne_of_none h1 np2
    have np2H : H p2 = none := fresh_B e01 np2 s1.obj
    refine ⟨_, rfl, _, rfl, by omega, by omega, for_range (lo := 0) (n := m.toNat) (fun i σ H' => ∃ (y4 y5 : Option V) (as : List Addr) (es : List (Int × Int)), σ = [some (.ref s), some (.int m), some (.ref p1), some (.ref p2), y4, y5] ∧ es.length = i ∧ EdgesAt H' as es ∧ H' p2 = some (.lst (as.map V.ref)) ∧
      ExB s H H' ∧ SrcAt H' s (n + 100 + 2 * i) ∧ H' p1 = some (.lst (pl.map V.int)) ∧ EdgeTree pl es ∧ (∀ e ∈ es, 0 ≤ e.1 ∧ e.1 ≤ m ∧ 0 ≤ e.2 ∧ e.2 ≤ m)) ?_ ?_ ?_⟩
    · exact ⟨_, _, [], [], rfl, rfl, .nil, upd_same, e01.trans (ExB.of x2), (s1.ex x2).le (by omega), x2 _ _ h1, fun j hj => absurd hj (Nat.not_lt_zero _), fun e he => by simp at he⟩
    · rintro i σ H2 hi ⟨y4, y5, as, es, rfl, hes, hE, h2, e2, s2, g1, hT, hb⟩
      have hsz := hes
      have sat : ∀ {j : Nat}, j < pl.length → ∃ z, (pl.map V.int)[j]? = some (.int z) ∧ pl[j]? = some z := fun {j} hj => ⟨pl[j], by rw [List.getElem?_map, List.getElem?_eq_getElem hj]; rfl, List.getElem?_eq_getElem hj⟩
      -- two
      refine ⟨fun σ' H' => ∃ (t : Addr) (f : Nat) (a b : Int), σ' = [some (.ref s), some (.int m), some (.ref p1), some (.ref p2), some (.int (0 + (i : Int))), some (.ref t)] ∧ H' t = some (.tup [.int a, .int b]) ∧ f ≤ i ∧ pl[f]? = some a ∧ pl[i + 1]? = some b ∧ ExB s H2 H' ∧ SrcAt H' s (n + 100 + 2 * i + 1), ?_, ?_⟩
      · refine ⟨_, rfl, _, rfl, _, rfl, _, _, rfl, rfl, s, _, _, rfl, s2, by omega, by omega, ?_, fun f H3 f0 f1 e3 s3 => ?_⟩
        · unfold Bd
          exact Nat.lt_of_lt_of_le (show (0 + (i : Int) + 1).natAbs < 1024 by omega) (by decide +kernel)
        · obtain ⟨a, ha, ha'⟩ := sat (j := f.toNat) (by omega)
          obtain ⟨b, hb, hb'⟩ := sat (j := i + 1) (by omega)
          refine ⟨p1, _, _, _, rfl, rfl, SqL.of (e3 _ _ np1s g1), at_of (j := f.toNat) (by omega) ha, ?_⟩
          refine ⟨_, rfl, _, rfl, _, _, rfl, rfl, p1, _, _, _, rfl, rfl, SqL.of (e3 _ _ np1s g1), at_of (j := i + 1) (by omega) hb, (by show 2 ≤ sizeLine; decide), fun t nt => ?_⟩
          exact ⟨t, f.toNat, a, b, rfl, upd_same, by omega, ha', hb', e3.trans (ExB.of (Ex.new nt)), s3.ex (Ex.new nt)⟩
      · rintro σ' H3 ⟨t, f, a, b, rfl, ht, hf, ha, hb', e3, s3⟩
        have h2' := e3 _ _ np2s h2
        refine ⟨_, rfl, .inl ⟨rfl, _, SqL.of h2'⟩, _, rfl, _, rfl, t, _, _, rfl, SqT.of ht, fun u nu => ?_⟩
        have xu : Ex H3 (upd H3 u (.tup [.int b, .int a])) := Ex.new nu
        refine ⟨(by show 2 ≤ sizeLine; decide), fun l nl => ?_⟩
        have xl : Ex (upd H3 u (.tup [.int b, .int a])) (upd (upd H3 u (.tup [.int b, .int a])) l (.lst [.ref t, .ref u])) := Ex.new nl
        have xx := xu.trans xl
        refine ⟨_, rfl, s, 2, _, rfl, s3.ex xx, by omega, by decide, (by unfold Bd; decide +kernel), fun g H4 g0 gl e4 s4 => ?_⟩
        have nls : l ≠ s := (s3.ex xu).ne nl
        have hl4 := e4 _ _ nls (upd_same (H := upd H3 u (.tup [.int b, .int a])) (a := l) (o := .lst [.ref t, .ref u]))
        have st : ∀ c xs, H2 c = some (.tup xs) → H4 c = some (.tup xs) := fun c xs h => tups_B (s3.ex xx) e4 _ _ (tups_E xx _ _ (tups_B s2 e3 _ _ h))
        have st3 : ∀ c xs, H3 c = some (.tup xs) → H4 c = some (.tup xs) := fun c xs h => tups_B (s3.ex xx) e4 _ _ (tups_E xx _ _ h)
        have stu : H4 u = some (.tup [.int b, .int a]) := tups_B (s3.ex xx) e4 _ _ (xl _ _ upd_same)
        have p2' := e4 _ _ np2s (xx _ _ h2')
        have al : as.length = i := by rw [Paired.length hE, hes]
        have fin : ∀ (v : Addr) (e : Int × Int), H4 v = some (.tup [.int e.1, .int e.2]) → (e = (a, b) ∨ e = (b, a)) → rAppend (.ref p2) [.ref v] H4 fun _ H' => ∃ (y4 y5 : Option V) (as : List Addr) (es : List (Int × Int)), [some (V.ref s), some (.int m), some (.ref p1), some (.ref p2), some (.int (0 + (i : Int))), some (.ref t)] = [some (.ref s), some (.int m), some (.ref p1), some (.ref p2), y4, y5] ∧ es.length = i + 1 ∧ EdgesAt H' as es ∧ H' p2 = some (.lst (as.map V.ref)) ∧
            ExB s H H' ∧ SrcAt H' s (n + 100 + 2 * ((i + 1 : Nat) : Int)) ∧ H' p1 = some (.lst (pl.map V.int)) ∧ EdgeTree pl es ∧ (∀ e ∈ es, 0 ≤ e.1 ∧ e.1 ≤ m ∧ 0 ≤ e.2 ∧ e.2 ≤ m) := by
          intro v e hv he
          refine ⟨p2, _, _, rfl, rfl, p2', small1000 (by rw [List.length_map]; omega), _, _, as ++ [v], es ++ [e], rfl, ?_, ?_, ?_, ?_, ?_, ?_, ?_, ?_⟩
          · rw [List.length_append, hes]
            rfl
          · exact paired_imp (fun c d h => tups_U p2' _ _ h) (paired_snoc (EdgesAt.mono st hE) hv)
          · rw [upd_same, List.map_append]
            rfl
          · refine fun c o nc h => ?_
            rw [upd_ne (ne_of_none h np2H)]
            exact e4 _ _ nc (xx _ _ (e3 _ _ nc (e2 _ _ nc h)))
          · obtain ⟨a1, a2, a3, a4, a5, a6, a7, a8⟩ := s4
            exact ⟨a1, a2, a3, by rw [upd_ne np2s.symm]; exact a4, a5, a6, a7, by omega⟩
          · rw [upd_ne np12]
            exact e4 _ _ np1s (xx _ _ (e3 _ _ np1s g1))
          · exact hT.more (by omega) ha (by rw [hes]; exact hb') he
          · intro e' he'
            rcases List.mem_append.mp he' with h | h
            · exact hb e' h
            · have e1 : e' = e := by simpa using h
              subst e1
              have ma := (hplm a).mp (List.mem_of_getElem? ha)
              have mb := (hplm b).mp (List.mem_of_getElem? hb')
              rcases he with rfl | rfl
              · exact ⟨ma.1, ma.2, mb.1, mb.2⟩
              · exact ⟨mb.1, mb.2, ma.1, ma.2⟩
        have hg : g = 0 ∨ g = 1 := by omega
        rcases hg with rfl | rfl
        · exact ⟨l, _, _, .ref t, rfl, rfl, SqL.of hl4, rfl, fin t (a, b) (st3 _ _ ht) (.inl rfl)⟩
        · exact ⟨l, _, _, .ref u, rfl, rfl, SqL.of hl4, rfl, fin u (b, a) stu (.inr rfl)⟩
    · rintro σ H2 ⟨y4, y5, as, es, rfl, hes, hE, h2, e2, s2, g1, hT, hb⟩
      have al : as.length = m.toNat := by rw [Paired.length hE, hes]
      refine ⟨_, rfl, _, rfl, s, p2, _, _, rfl, s2, by omega, np2s, SqL.of h2, (by rw [List.length_map]; omega), fun v hv => ?_, fun ys p H3 hp np e3 s3 h3 => ?_⟩
      · obtain ⟨c, hc, rfl⟩ := List.mem_map.mp hv
        obtain ⟨d, _, hd⟩ := paired_mem hE hc
        exact datv_pair hd (s2.neT hd)
      · obtain ⟨as', es', rfl, pe, hE', _⟩ := perm_refs hp hE
        refine k as' es' p H3 ?_ (fun e he => hb e (pe.mem_iff.mp he)) ?_ (EdgesAt.mono (tups_B s2 e3) hE') h3 (fresh_B e2 np s2.obj) (e2.trans e3) (s3.le (by omega))
        · rw [pe.length_eq, hes]
          omega
        · have c := EdgeTree.conn (m := m.toNat) hT hes hpll fun a h0 h1 => (hplm a).mpr ⟨h0, by omega⟩
          have c2 := c.perm pe
          have em : ((m.toNat : Nat) : Int) = m := by omega
          rw [em] at c2
          exact c2
-- DEF _law_stretches

def sp__law_stretches (K : PySem.W.Frag) : Sp := fun vs H Q _ => ∃ (s : Addr) (n : Int) (m w : Nat), vs = [.ref s, .int m, .int w] ∧ SrcAt H s n ∧ n ≤ 300000000 ∧ 1 ≤ m ∧ m ≤ 8 ∧ 1 ≤ w ∧ w ≤ 8 ∧
  ∀ (rs : List Addr) (rows : List (List Int)) (p : Addr) (H' : Hp), NewTab H H' p rs rows w 100 → rows.length = m → ExB s H H' → SrcAt H' s (n + 400) → Q (.ref p) H'

theorem ok__law_stretches (T : Txt K mg) : FnOk P w K mg base CX0 3 T.f__law_stretches T.fd__law_stretches ["_law_source", "_law_many", "_law_wide"] (sp__law_stretches K) := by
  refine Fun.ok T.F__law_stretches sc__law_stretches (fun vs H Q E h => ?_) (fun cdv A outer s H vs Q E hr h => ?_)
  · obtain ⟨_, _, _, _, rfl, _⟩ := h; rfl
  · refine ⟨_, (pss_cons (ps_set (i := 3) sc__law_stretches.nd rfl (by first | exact Or.inl rfl | exact Or.inr rfl) (pe_call (ok__law_mixed T) hr (by rfl) T.g__law_mixed T.k__law_mixed T.b__law_mixed .nil pass0 (pa_cons (pv 0) (pa_cons (pe_listRg rfl (by rfl) T.n_list (prg_1 (by rfl) T.n_range (pv 2))) pa_nil))))
      (pss_cons (ps_set (i := 4) sc__law_stretches.nd rfl (by first | exact Or.inl rfl | exact Or.inr rfl) (pe_lst pa_nil))
      (pss_cons (ps_for PassesOwn.never rfl (pi_range1 (by rfl) T.n_range (pa_cons (pv 1) pa_nil)) (pg_name (i := 5) sc__law_stretches.nd rfl (by first | exact Or.inl rfl | exact Or.inr rfl))
        (pss_cut (ps_set (i := 6) sc__law_stretches.nd rfl (by first | exact Or.inl rfl | exact Or.inr rfl) (pe_call (ok__law_next T) (hr.mono (by decide)) (by rfl) T.g__law_next T.k__law_next T.b__law_next .nil pass0 (pa_cons (pv 0) (pa_cons (pv 2) pa_nil))))
          (pss_cut (ps_set (i := 7) sc__law_stretches.nd rfl (by first | exact Or.inl rfl | exact Or.inr rfl) (pe_call (ok__law_next T) (hr.mono (by decide)) (by rfl) T.g__law_next T.k__law_next T.b__law_next .nil pass0 (pa_cons (pv 0) (pa_cons (pe_op op_add (pe_op op_sub (pv 2) (pv 6)) pe_int) pa_nil))))
          (pss_one (ps_expr (pe_bm PySem.F.plainAttrs_list PySem.F.slot_list_append PySem.F.type_list_append mt_append (pv 4) (pa_cons (pe_lc (own := [("_law_column", 8)]) (g := gName 8) (tt := tYes) rfl sc__law_stretches.nd (pi_range1 (by rfl) T.n_range (pa_cons (pv 2) pa_nil)) (blkOk_by (N := ["_law_source", "_law_many", "_law_wide", "_law_order", "_law_found", "_law_k", "_law_start", "_law_length", "_law_column"]) (sc := (defScope s__law_stretches)) (by decide +kernel)) (fun _ _ _ _ _ => pg_name (i := 8) sc__law_stretches.nd rfl (Or.inl rfl)) (fun _ _ _ _ _ => pts_nil) (fun _ _ _ _ _ => (pe_callTy (T := "int") call_int1 (by rfl) T.n_int (by decide +kernel) (pa_cons (pe_chain op_le op_lt (pv 6) (pe_ix (r := rIxL K) ix_list (pv 3) (pv 8) (fun _ _ => rfl)) (pe_op op_add (pv 6) (pv 7))) pa_nil)))) pa_nil)))))))
      (pss_one (ps_ret (pv 4)))))), ?_⟩
    obtain ⟨s, n, m, w, rfl, hs, hn, hm1, hm8, hw1, hw8, k⟩ := h
    -- order
    refine ⟨_, rfl, _, rfl, _, rfl, RgOk.of_le (by omega) (by omega) (by omega) (by omega), fun q nq => ?_⟩
    have x1 := Ex.new (o := .lst (rgV 0 (w : Int))) nq
    refine ⟨s, q, n, _, rfl, hs.ex x1, by omega, hs.ne nq, SqL.of upd_same, ?_, ?_, fun ys p1 H1 hp np1 e1 s1 h1 => ?_⟩
    · rw [rgV_length]
      omega
    · intro v hv
      rw [rgV_nums] at hv
      obtain ⟨i, _, rfl⟩ := List.mem_map.mp hv
      exact datv_int i
    rw [rgV_nums] at hp
    obtain ⟨pl, rfl, hpl⟩ := perm_ints hp
    have hpll : pl.length = w := by
      rw [hpl.length_eq, numsTo_length]
      omega
    have e01 : ExB s H H1 := (ExB.of x1).trans e1
    have np1s : p1 ≠ s := (hs.ex x1).ne np1
    -- found
    refine ⟨Nat.zero_le _, fun p2 np2 => ?_⟩
    have x2 : Ex H1 (upd H1 p2 (.lst [])) := Ex.new np2
    have np2s : p2 ≠ s := s1.ne np2
    have np12 : p1 ≠ p2 := ne_of_none h1 np2
    have np2H : H p2 = none := fresh_B e01 np2 s1.obj
    refine ⟨_, rfl, _, rfl, by omega, by omega, for_range (lo := 0) (n := (m : Int).toNat) (fun i σ H' => ∃ (y5 y6 y7 y8 : Option V) (as : List Addr) (rows : List (List Int)), σ = [some (.ref s), some (.int m), some (.int w), some (.ref p1), some (.ref p2), y5, y6, y7, y8] ∧ rows.length = i ∧ NewTab H H' p2 as rows w 100 ∧
      ExB s H H' ∧ SrcAt H' s (n + 100 + 2 * i) ∧ H' p1 = some (.lst (pl.map V.int))) ?_ ?_ ?_⟩
    · exact ⟨_, _, _, _, [], [], rfl, rfl, NewTab.new np2H upd_same, e01.trans (ExB.of x2), (s1.ex x2).le (by omega), x2 _ _ h1⟩
    · rintro i σ H2 hi ⟨y5, y6, y7, y8, as, rows, rfl, hl, hN, e2, s2, g1⟩
      refine ⟨fun σ' H' => ∃ f : Int, σ' = [some (.ref s), some (.int m), some (.int w), some (.ref p1), some (.ref p2), some (.int (0 + (i : Int))), some (.int f), y7, y8] ∧ 0 ≤ f ∧ f < w ∧ ExB s H2 H' ∧ SrcAt H' s (n + 100 + 2 * i + 1), ?_, ?_⟩
      · refine ⟨_, rfl, _, rfl, s, _, _, rfl, s2, by omega, by omega, ?_, fun f H3 f0 f1 e3 s3 => ⟨f, rfl, f0, f1, e3, s3⟩⟩
        unfold Bd
        exact Nat.lt_of_lt_of_le (show ((w : Int)).natAbs < 1024 by omega) (by decide +kernel)
      rintro σ' H3 ⟨f, rfl, f0, f1, e3, s3⟩
      refine ⟨fun σ' H' => ∃ g : Int, σ' = [some (.ref s), some (.int m), some (.int w), some (.ref p1), some (.ref p2), some (.int (0 + (i : Int))), some (.int f), some (.int g), y8] ∧ ExB s H2 H' ∧ SrcAt H' s (n + 100 + 2 * i + 1 + 1), ?_, ?_⟩
      · refine ⟨_, rfl, _, rfl, _, rfl, _, _, rfl, rfl, _, _, rfl, rfl, s, _, _, rfl, s3, by omega, by omega, ?_, fun g H4 g0 gl e4 s4 => ⟨g, rfl, e3.trans e4, s4⟩⟩
        unfold Bd
        exact Nat.lt_of_lt_of_le (show ((w : Int) - f + 1).natAbs < 1024 by omega) (by decide +kernel)
      rintro σ' H4 ⟨g, rfl, e4, s4⟩
      have N4 := hN.exB e4 hs.obj
      have al : as.length = i := by rw [Paired.length N4.tab.2, hl]
      have hp1 := e4 _ _ np1s g1
      refine ⟨_, rfl, .inl ⟨rfl, _, SqL.of N4.tab.1⟩, ?_⟩
      refine el_rng (m := w) (fun o => if (decide (f ≤ pl[o]?.getD 0) && decide (pl[o]?.getD 0 < f + g)) = true then 1 else 0) (ea_cons (ev_var rfl) ea_nil) (by omega) (fun x => rfl) (fun o H5 x5 ho => ev_int1 (ev_chain (ev_var rfl) (ev_op (ev_var rfl) (ev_var rfl) (rv_ixL (SqL.of (x5 _ _ hp1)) (atI_row (by omega)))) (ev_op (ev_var rfl) (ev_var rfl) rv_I0) rv_I0 rv_I0)) H4 (Ex.refl _) _ fun r H5 nr e5 hr => ?_
      refine ⟨p2, _, _, rfl, rfl, e5 _ _ N4.tab.1, small1000 (by rw [List.length_map]; omega), ?_⟩
      refine ⟨_, _, _, _, as ++ [r], rows ++ [_], rfl, by rw [List.length_append, hl]; rfl, N4.app (noneB (e2.trans e4) s4.obj) e5 nr hr (by rw [List.length_map, List.length_range]) (fun y hy => ?_), ?_, ?_, ?_⟩
      · obtain ⟨o, _, rfl⟩ := List.mem_map.mp hy
        split <;> decide
      · refine fun b o nb h => ?_
        rw [upd_ne (ne_of_none h np2H)]
        exact e5 _ _ (e4 _ _ nb (e2 _ _ nb h))
      · obtain ⟨a1, a2, a3, a4, a5, a6, a7, a8⟩ := s4.ex e5
        exact ⟨a1, a2, a3, by rw [upd_ne np2s.symm]; exact a4, a5, a6, a7, by omega⟩
      · rw [upd_ne np12]
        exact e5 _ _ hp1
    · rintro σ H2 ⟨y5, y6, y7, y8, as, rows, rfl, hl, hN, e2, s2, g1⟩
      refine ⟨_, rfl, ?_⟩
      exact k as rows p2 H2 hN (by rw [hl]; omega) e2 (s2.le (by omega))
-- DEF _law_swung

def sp__law_swung (K : PySem.W.Frag) : Sp := fun vs H Q _ => ∃ (s g : Addr) (n : Int) (as : List Addr) (rows : List (List Int)) (m w : Nat), vs = [.ref s, .ref g] ∧ SrcAt H s n ∧ n ≤ 200000000 ∧ g ≠ s ∧ (∀ a ∈ as, a ≠ s) ∧ Tab H g as rows ∧ rows.length = m ∧ (∀ r ∈ rows, r.length = w ∧ ∀ y ∈ r, y.natAbs ≤ 100) ∧ 1 ≤ m ∧ m ≤ 8 ∧ 1 ≤ w ∧ w ≤ 8 ∧
  ∀ (rs : List Addr) (rows' : List (List Int)) (p : Addr) (H' : Hp) (m' w' : Nat), (m' = m ∧ w' = w ∨ m' = w ∧ w' = m) → NewTab H H' p rs rows' w' 100 → rows'.length = m' → ExB s H H' → SrcAt H' s (n + 200) → Q (.ref p) H'

theorem ok__law_swung (T : Txt K mg) : FnOk P w K mg base CX0 3 T.f__law_swung T.fd__law_swung ["_law_source", "_law_grid"] (sp__law_swung K) := by
  refine Fun.ok T.F__law_swung sc__law_swung (fun vs H Q E h => ?_) (fun cdv A outer s H vs Q E hr h => ?_)
  · obtain ⟨_, _, _, _, _, _, _, rfl, _⟩ := h; rfl
  · refine ⟨_, (pss_cut (ps_set (i := 2) sc__law_swung.nd rfl (by first | exact Or.inl rfl | exact Or.inr rfl) (pe_call (ok__law_mixed T) hr (by rfl) T.g__law_mixed T.k__law_mixed T.b__law_mixed .nil pass0 (pa_cons (pv 0) (pa_cons (pv 1) pa_nil))))
      (pss_cut (ps_if (pt_cmpR op_eq (pe_call (ok__law_next T) (hr.mono (by decide)) (by rfl) T.g__law_next T.k__law_next T.b__law_next .nil pass0 (pa_cons (pv 0) (pa_cons pe_int pa_nil))) pe_int (nomark _))
        (pss_one (ps_set (i := 2) sc__law_swung.nd rfl (by first | exact Or.inl rfl | exact Or.inr rfl) (pe_lc (own := [("_law_k", 7)]) (g := gName 7) (tt := tYes) rfl sc__law_swung.nd (pi_range1 (by rfl) T.n_range (pa_cons (pe_callB (id := "len") (r := rLenS K) call_len_seq (by rfl) T.n_len PySem.boot_len (pa_cons (pe_ix (r := rIxL K) ix_list (pv 2) pe_int (fun _ _ => rfl)) pa_nil)) pa_nil)) (blkOk_by (N := ["_law_source", "_law_grid", "_law_rows", "_law_signs", "_law_found", "_law_row", "_law_sign", "_law_k", "_law_column", "_law_a", "_law_b"]) (sc := (defScope s__law_swung)) (by decide +kernel)) (fun _ _ _ _ _ => pg_name (i := 7) sc__law_swung.nd rfl (Or.inr rfl)) (fun _ _ _ _ _ => pts_nil) (fun _ _ _ _ _ => (pe_lc (own := [("_law_row", 5)]) (wi := iList K _) (g := gName 5) (tt := tYes) rfl sc__law_swung.nd (pi_list (pv 2)) (blkOk_by (N := ["_law_source", "_law_grid", "_law_rows", "_law_signs", "_law_found", "_law_row", "_law_sign", "_law_k", "_law_column", "_law_a", "_law_b"]) (sc := (relS ({ kind := .function, names := [(".0", .local), ("_law_k", .cell), ("_law_rows", .free)], isGenerator := false, isCoroutine := false } : Scope) (defScope s__law_swung))) (by decide +kernel)) (fun _ _ _ _ _ => pg_name (i := 5) sc__law_swung.nd rfl (Or.inl rfl)) (fun _ _ _ _ _ => pts_nil) (fun _ _ _ _ _ => (pe_ix (r := rIxL K) ix_list (pv 5) (pv 7) (fun _ _ => rfl))))))))
        pss_nil)
      (pss_cut (ps_setLc (i := 3) (own := [("_law_column", 8)]) (wi := iList K _) (g := gName 8) (tt := tYes) rfl sc__law_swung.nd rfl rfl (sw_true rfl rfl rfl (by decide +kernel)) (pi_list (pe_ix (r := rIxL K) ix_list (pv 2) pe_int (fun _ _ => rfl))) (blkOk_by (N := ["_law_source", "_law_grid", "_law_rows", "_law_signs", "_law_found", "_law_row", "_law_sign", "_law_k", "_law_column", "_law_a", "_law_b"]) (sc := (defScope s__law_swung)) (by decide +kernel)) (fun _ _ _ _ _ => pg_name (i := 8) sc__law_swung.nd rfl (Or.inl rfl)) (fun _ _ _ _ _ => pts_nil) (fun _ _ _ _ _ => (pe_ix (r := rIxL K) ix_list (pe_lst (pa_cons pe_int (pa_cons (pe_un un_neg pe_int) pa_nil))) (pe_call (ok__law_next T) (hr.mono (by decide)) (by rfl) T.g__law_next T.k__law_next T.b__law_next .nil pass0 (pa_cons (pv 0) (pa_cons pe_int pa_nil))) (fun _ _ => rfl))))
      (pss_cons (ps_set (i := 4) sc__law_swung.nd rfl (by first | exact Or.inl rfl | exact Or.inr rfl) (pe_lst pa_nil))
      (pss_cons (ps_for PassesOwn.never rfl (pi_list (pv 2)) (pg_name (i := 5) sc__law_swung.nd rfl (by first | exact Or.inl rfl | exact Or.inr rfl))
        (pss_cut (ps_set (i := 6) sc__law_swung.nd rfl (by first | exact Or.inl rfl | exact Or.inr rfl) (pe_ix (r := rIxL K) ix_list (pe_lst (pa_cons pe_int (pa_cons pe_int (pa_cons (pe_un un_neg pe_int) pa_nil)))) (pe_call (ok__law_next T) (hr.mono (by decide)) (by rfl) T.g__law_next T.k__law_next T.b__law_next .nil pass0 (pa_cons (pv 0) (pa_cons pe_int pa_nil))) (fun _ _ => rfl)))
          (pss_one (ps_expr (pe_bm PySem.F.plainAttrs_list PySem.F.slot_list_append PySem.F.type_list_append mt_append (pv 4) (pa_cons (pe_lc (own := [("_law_a", 9), ("_law_b", 10)]) (wi := iZip K _) (g := gTup K 2 (gCons (gName 9) (gCons (gName 10) gNil))) (tt := tYes) rfl sc__law_swung.nd (pi_zip (by rfl) T.n_zip (pa_cons (pv 5) (pa_cons (pv 3) pa_nil))) (blkOk_by (N := ["_law_source", "_law_grid", "_law_rows", "_law_signs", "_law_found", "_law_row", "_law_sign", "_law_k", "_law_column", "_law_a", "_law_b"]) (sc := (defScope s__law_swung)) (by decide +kernel)) (fun _ _ _ _ _ => (pg_tup rfl (pgs_cons (pg_name (i := 9) sc__law_swung.nd rfl (Or.inl rfl)) (pgs_cons (pg_name (i := 10) sc__law_swung.nd rfl (Or.inl rfl)) pgs_nil)))) (fun _ _ _ _ _ => pts_nil) (fun _ _ _ _ _ => (pe_op op_mulW (pe_op op_mulW (pv 6) (pv 9)) (pv 10)))) pa_nil))))))
      (pss_one (ps_ret (pv 4)))))))), ?_⟩
    obtain ⟨s, g, n, as, rows, m, w, rfl, hs, hn, hgs, has, hT, hm, hok, hm1, hm8, hw1, hw8, k⟩ := h
    have hal : as.length = m := by rw [Paired.length hT.2, hm]
    -- row_list
    refine ⟨fun σ' H1 => ∃ (p : Addr) (as1 : List Addr) (rows1 : List (List Int)), σ' = [some (.ref s), some (.ref g), some (.ref p), none, none, none, none, none, none, none, none] ∧ Tab H1 p as1 rows1 ∧ rows1.length = m ∧ (∀ r ∈ rows1, r.length = w ∧ ∀ y ∈ r, y.natAbs ≤ 100) ∧ p ≠ s ∧ (∀ a ∈ as1, a ≠ s) ∧ ExB s H H1 ∧ SrcAt H1 s (n + 100), ?_, ?_⟩
    · refine ⟨_, rfl, _, rfl, s, g, n, _, rfl, hs, by omega, hgs, SqL.of hT.1, (by rw [List.length_map]; omega), fun v hv => ?_, fun ys p H1 hp np e1 s1 h1 => ?_⟩
      · obtain ⟨a, ha, rfl⟩ := List.mem_map.mp hv
        obtain ⟨r, _, hr⟩ := paired_mem hT.2 ha
        exact datv_row hr (has a ha)
      · obtain ⟨as1, rows1, rfl, pr, hR, pa⟩ := perm_refs hp hT.2
        refine ⟨p, as1, rows1, rfl, ⟨h1, rows_but hR fun a ha o q => e1 a o (has a (pa.mem_iff.mp ha)) q⟩, by rw [pr.length_eq, hm], fun r hr => hok r (pr.mem_iff.mp hr), hs.ne np, fun a ha => has a (pa.mem_iff.mp ha), e1, s1⟩
    rintro σ' H1 ⟨p, as1, rows1, rfl, hT1, hm', hok1, nps, nas, e1, s1⟩
    -- perhaps turned
    refine ⟨fun σ' H2 => ∃ (y5 y7 : Option V) (p2 : Addr) (as2 : List Addr) (rows2 : List (List Int)) (m2 w2 : Nat), (m2 = m ∧ w2 = w ∨ m2 = w ∧ w2 = m) ∧ σ' = [some (.ref s), some (.ref g), some (.ref p2), none, none, y5, none, y7, none, none, none] ∧ Tab H2 p2 as2 rows2 ∧ rows2.length = m2 ∧ (∀ r ∈ rows2, r.length = w2 ∧ ∀ y ∈ r, y.natAbs ≤ 100) ∧ p2 ≠ s ∧ (∀ a ∈ as2, a ≠ s) ∧ ExB s H H2 ∧ SrcAt H2 s (n + 101), ?_, ?_⟩
    · refine ⟨_, rfl, s, 2, _, rfl, s1, by omega, by decide, (by unfold Bd; decide +kernel), fun f H2 f0 f1 e2 s2 => ⟨rfl, _, rfl, ?_⟩⟩
      have hT2 : Tab H2 p as1 rows1 := ⟨e2 _ _ nps hT1.1, rows_but hT1.2 fun a ha o q => e2 a o (nas a ha) q⟩
      refine ite2 (fun _ => ?_) (fun _ => ?_)
      · have h0 : ∃ a0 r0, as1[0]? = some a0 ∧ rows1[0]? = some r0 ∧ H2 a0 = some (.lst (r0.map V.int)) ∧ r0.length = w := by
          have hl1 : as1.length = m := by rw [Paired.length hT2.2, hm']
          obtain ⟨a0, ha0⟩ : ∃ a0, as1[0]? = some a0 := ⟨_, List.getElem?_eq_getElem (by omega)⟩
          obtain ⟨r0, hr0, hh⟩ := paired_get hT2.2 ha0
          exact ⟨a0, r0, ha0, hr0, hh, (hok1 r0 (List.mem_of_getElem? hr0)).1⟩
        obtain ⟨a0, r0, ha0, hr0, hh0, hl0⟩ := h0
        have at0 : atI (as1.map V.ref) 0 = some (.ref a0) := atI_nat (j := 0) (by rw [List.getElem?_map, ha0]; rfl)
        refine lc_rows (m := w) (F := fun kk => rows1.map fun r => r[kk]?.getD 0) (ea_cons (ev_is (ev_len (ev_op (ev_var rfl) ev_c (rv_ixL (SqL.of hT2.1) at0)) (SqL.of hh0)) (by rw [List.length_map, hl0])) ea_nil) (by omega) (fun u => rfl) (fun kk H3 x3 hkk => ?_) (fun p2 rs H3 np2 nrs ndr npr x3 ht => ?_)
        · refine el_col (K := K) (f := fun r => r[kk]?.getD 0) rfl (x3 _ _ hT2.1) (hT2.2.ex x3) (by omega) (fun u => rfl) fun b r H4 hr hb x4 => ?_
          have lr := (hok1 r hr).1
          exact ev_op (ev_var rfl) (ev_var rfl) (rv_ixL (SqL.of (x4 _ _ hb)) (atI_row (by omega)))
        · refine ⟨_, _, p2, rs, _, w, m, .inr ⟨rfl, rfl⟩, rfl, ht, by rw [List.length_map, List.length_range], fun r hr => ?_, s2.ne np2, fun a ha => s2.ne (nrs a ha), (e1.trans e2).trans (ExB.of x3), (s2.ex x3).le (by omega)⟩
          obtain ⟨kk, hkk, rfl⟩ := List.mem_map.mp hr
          have hkk := List.mem_range.mp hkk
          refine ⟨by rw [List.length_map, hm'], fun y hy => ?_⟩
          obtain ⟨r, hr, rfl⟩ := List.mem_map.mp hy
          have o := hok1 r hr
          rw [List.getElem?_eq_getElem (by omega)]
          exact o.2 _ (List.getElem_mem _)
      · exact ⟨_, _, p, as1, rows1, m, w, .inl ⟨rfl, rfl⟩, rfl, hT2, hm', hok1, nps, nas, e1.trans e2, s2.le (by omega)⟩
    rintro σ' H2 ⟨y5, y7, p2, as2, rows2, m2, w2, hmw, rfl, hT2, hm2, hok2, np2s, nas2, e2, s2⟩
    clear hT1 hm' hok1 nps nas e1 s1
    have hm2b : 1 ≤ m2 ∧ m2 ≤ 8 ∧ 1 ≤ w2 ∧ w2 ≤ 8 := by
      rcases hmw with ⟨rfl, rfl⟩ | ⟨rfl, rfl⟩ <;> exact ⟨by omega, by omega, by omega, by omega⟩
    -- signs
    refine ⟨fun σ' H3 => ∃ (y8 : Option V) (q : Addr) (sg : List Int), σ' = [some (.ref s), some (.ref g), some (.ref p2), some (.ref q), none, y5, none, y7, y8, none, none] ∧ H3 q = some (.lst (sg.map V.int)) ∧ sg.length = w2 ∧ (∀ x ∈ sg, x = 1 ∨ x = -1) ∧ q ≠ s ∧ H q = none ∧ ExB s H2 H3 ∧ SrcAt H3 s (n + 109), ?_, ?_⟩
    · have h0 : ∃ a0 r0, as2[0]? = some a0 ∧ rows2[0]? = some r0 ∧ H2 a0 = some (.lst (r0.map V.int)) ∧ r0.length = w2 := by
        have hl1 : as2.length = m2 := by rw [Paired.length hT2.2, hm2]
        obtain ⟨a0, ha0⟩ : ∃ a0, as2[0]? = some a0 := ⟨_, List.getElem?_eq_getElem (by omega)⟩
        obtain ⟨r0, hr0, hh⟩ := paired_get hT2.2 ha0
        exact ⟨a0, r0, ha0, hr0, hh, (hok2 r0 (List.mem_of_getElem? hr0)).1⟩
      obtain ⟨a0, r0, ha0, hr0, hh0, hl0⟩ := h0
      have at0 : atI (as2.map V.ref) 0 = some (.ref a0) := atI_nat (j := 0) (by rw [List.getElem?_map, ha0]; rfl)
      refine lc_drawL (K := K) (s := s) (n := n + 101) (xs := r0) (fun x => x = 1 ∨ x = -1) (ev_op (ev_var rfl) ev_c (rv_ixL (SqL.of hT2.1) at0)) hh0 (nas2 a0 (List.mem_of_getElem? ha0)) (by omega) s2 (fun u => rfl) (fun i y H3 e3 hi s3 Q1 kq => ?_) (fun D ns H3 hD e3 s3 hD3 hl3 hP => ?_)
      · refine ⟨_, rfl, (by show 2 ≤ sizeLine; decide), fun l nl => ?_⟩
        have xl : Ex H3 (upd H3 l (.lst [.int 1, .int (-1)])) := Ex.new nl
        have nls : l ≠ s := s3.ne nl
        refine ⟨_, rfl, s, 2, _, rfl, s3.ex xl, by omega, by decide, (by unfold Bd; decide +kernel), fun f H4 f0 f1 e4 s4 => ?_⟩
        have hl4 := e4 _ _ nls (upd_same (H := H3) (a := l) (o := .lst [.int 1, .int (-1)]))
        have hf : f = 0 ∨ f = 1 := by omega
        rcases hf with rfl | rfl
        · exact ⟨l, _, _, .int 1, rfl, rfl, SqL.of hl4, rfl, kq 1 H4 (.inl rfl) ((ExB.of xl).trans e4) s4⟩
        · exact ⟨l, _, _, .int (-1), rfl, rfl, SqL.of hl4, rfl, kq (-1) H4 (.inr rfl) ((ExB.of xl).trans e4) s4⟩
      · exact ⟨_, D, ns, rfl, hD3, by omega, hP, s2.ne hD, fresh_B e2 hD s2.obj, e3, s3.le (by omega)⟩
    rintro σ' H3 ⟨y8, q, sg, rfl, hq, hql, hqs, nqs, nqH, e3, s3⟩
    have hT3 : Tab H3 p2 as2 rows2 := ⟨e3 _ _ np2s hT2.1, rows_but hT2.2 fun a ha o z => e3 a o (nas2 a ha) z⟩
    have e03 := e2.trans e3
    -- found
    refine ⟨Nat.zero_le _, fun p3 np3 => ?_⟩
    have x3 : Ex H3 (upd H3 p3 (.lst [])) := Ex.new np3
    have np3s : p3 ≠ s := s3.ne np3
    have np3H : H p3 = none := fresh_B e03 np3 s3.obj
    have ne3 : ∀ {b : Addr} {o : HO}, H3 b = some o → b ≠ p3 := fun h => ne_of_none h np3
    have qp3 := ne3 hq
    refine ⟨_, rfl, p2, rfl, ⟨_, SqL.of (x3 _ _ hT3.1)⟩, for_list (K := K) (a := p2) (xs := as2.map V.ref) (fun i σ H' => ∃ (y5 y6 y9 y10 : Option V) (as : List Addr) (rws : List (List Int)), σ = [some (.ref s), some (.ref g), some (.ref p2), some (.ref q), some (.ref p3), y5, y6, y7, y8, y9, y10] ∧ rws.length = i ∧ NewTab H H' p3 as rws w2 100 ∧ ExB s H H' ∧ SrcAt H' s (n + 109 + i) ∧
      Tab H' p2 as2 rows2 ∧ H' q = some (.lst (sg.map V.int))) ?_ (fun i σ H' _ ⟨_, _, _, _, _, _, _, _, _, _, _, t, _⟩ => SqL.of t.1) ?_ ?_⟩
    · exact ⟨_, _, _, _, [], [], rfl, rfl, NewTab.new np3H upd_same, e03.trans (ExB.of x3), (s3.ex x3).le (by omega), hT3.ex x3, x3 _ _ hq⟩
    · rintro i x σ H4 hi ⟨z5, z6, z9, z10, as, rws, rfl, hl, hN, e4, s4, hT4, hq4⟩
      rw [List.getElem?_map] at hi
      obtain ⟨ai, hai, rfl⟩ := Option.map_eq_some_iff.mp hi
      obtain ⟨ri, hri, hti⟩ := paired_get hT4.2 hai
      have lri := hok2 ri (List.mem_of_getElem? hri)
      have i8 : i < m2 := by rw [← hm2]; exact (List.getElem?_eq_some_iff.mp hri).1
      have nai := nas2 ai (List.mem_of_getElem? hai)
      refine ⟨fun σ' H' => ∃ f : Int, (f = 1 ∨ f = -1) ∧ σ' = [some (.ref s), some (.ref g), some (.ref p2), some (.ref q), some (.ref p3), some (.ref ai), some (.int f), y7, y8, z9, z10] ∧ ExB s H4 H' ∧ SrcAt H' s (n + 109 + i + 1), ?_, ?_⟩
      · refine ⟨_, rfl, (by show 3 ≤ sizeLine; decide), fun l nl => ?_⟩
        have xl : Ex H4 (upd H4 l (.lst [.int 1, .int 1, .int (-1)])) := Ex.new nl
        have nls : l ≠ s := s4.ne nl
        refine ⟨_, rfl, s, 3, _, rfl, s4.ex xl, by omega, by decide, (by unfold Bd; decide +kernel), fun f H5 f0 f1 e5 s5 => ?_⟩
        have hl5 := e5 _ _ nls (upd_same (H := H4) (a := l) (o := .lst [.int 1, .int 1, .int (-1)]))
        have hf : f = 0 ∨ f = 1 ∨ f = 2 := by omega
        rcases hf with rfl | rfl | rfl
        · exact ⟨l, _, _, .int 1, rfl, rfl, SqL.of hl5, rfl, 1, .inl rfl, rfl, (ExB.of xl).trans e5, s5⟩
        · exact ⟨l, _, _, .int 1, rfl, rfl, SqL.of hl5, rfl, 1, .inl rfl, rfl, (ExB.of xl).trans e5, s5⟩
        · exact ⟨l, _, _, .int (-1), rfl, rfl, SqL.of hl5, rfl, -1, .inr rfl, rfl, (ExB.of xl).trans e5, s5⟩
      rintro σ' H5 ⟨f, hf, rfl, e5, s5⟩
      have N5 := hN.exB e5 hs.obj
      have hT5 : Tab H5 p2 as2 rows2 := ⟨e5 _ _ np2s hT4.1, rows_but hT4.2 fun a ha o z => e5 a o (nas2 a ha) z⟩
      have hq5 := e5 _ _ nqs hq4
      have hti5 := e5 _ _ nai hti
      have al : as.length = i := by rw [Paired.length N5.tab.2, hl]
      have bf : Bd 2 f := by
        rcases hf with rfl | rfl <;> (unfold Bd; decide)
      have small : ∀ {x : Int}, x.natAbs ≤ 100 → Bd 10 x := fun {x} h => Nat.lt_of_le_of_lt h (by decide)
      refine ⟨_, rfl, .inl ⟨rfl, _, SqL.of N5.tab.1⟩, ?_⟩
      refine el_zip (K := K) (f := fun x y => f * x * y) (xs := ri) (ys := sg) (ea_cons (ev_var rfl) (ea_cons (ev_var rfl) ea_nil)) (SqL.of hti5) (SqL.of hq5) (by omega) (by omega) (fun u v => rfl) (fun x y H1 hx hy _ => ev_op (ev_op (ev_var rfl) (ev_var rfl) (rv_I (bf.mulOk (small (lri.2 x hx))))) (ev_var rfl) (rv_I ((bf.mul (small (lri.2 x hx))).mulOk (show Bd 2 y by rcases hqs y hy with rfl | rfl <;> (unfold Bd; decide))))) H5 (Ex.refl _) _ fun r H6 nr e6 hr => ?_
      refine ⟨p3, _, _, rfl, rfl, e6 _ _ N5.tab.1, small1000 (by rw [List.length_map]; omega), ?_⟩
      refine ⟨_, _, _, _, as ++ [r], rws ++ [_], rfl, by rw [List.length_append, hl]; rfl, N5.app (noneB (e4.trans e5) s5.obj) e6 nr hr (by rw [List.length_zipWith]; omega) (fun y hy => ?_), ?_, ?_, ?_, ?_⟩
      · obtain ⟨u, v, hu, hv, rfl⟩ : ∃ u v, u ∈ ri ∧ v ∈ sg ∧ f * u * v = y := by
          obtain ⟨j, hj⟩ := List.getElem?_of_mem hy
          rw [List.getElem?_zipWith] at hj
          cases h3 : ri[j]? with
          | none => rw [h3] at hj; simp at hj
          | some u =>
            cases h4 : sg[j]? with
            | none => rw [h3, h4] at hj; simp at hj
            | some v =>
              rw [h3, h4] at hj
              exact ⟨u, v, List.mem_of_getElem? h3, List.mem_of_getElem? h4, Option.some.inj hj⟩
        have b1 := lri.2 u hu
        rcases hf with rfl | rfl <;> rcases hqs v hv with rfl | rfl <;> omega
      · refine fun b o nb h => ?_
        rw [upd_ne (ne_of_none h np3H)]
        exact e6 _ _ (e5 _ _ nb (e4 _ _ nb h))
      · obtain ⟨a1, a2, a3, a4, a5, a6, a7, a8⟩ := s5.ex e6
        exact ⟨a1, a2, a3, by rw [upd_ne np3s.symm]; exact a4, a5, a6, a7, by omega⟩
      · refine ⟨?_, rows_but hT5.2 fun a ha o z => ?_⟩
        · rw [upd_ne (ne3 hT3.1)]
          exact e6 _ _ hT5.1
        · obtain ⟨_, _, h3⟩ := paired_mem hT3.2 ha
          rw [upd_ne (ne3 h3)]
          exact e6 _ _ z
      · rw [upd_ne qp3]
        exact e6 _ _ hq5
    · rintro σ H4 ⟨z5, z6, z9, z10, as, rws, rfl, hl, hN, e4, s4, _, _⟩
      refine ⟨_, rfl, ?_⟩
      rw [List.length_map] at hl s4
      have := Paired.length hT3.2
      exact k as rws p3 H4 m2 w2 hmw hN (by omega) e4 (s4.le (by omega))
-- DEF check_table

def sp_check_table (K : PySem.W.Frag) : Sp := fun vs H Q _ => ∃ (p : Addr) (as : List Addr) (rows : List (List Int)) (m w : Nat), vs = [.ref p] ∧ TabOk H p as rows m w ∧ ∀ H', Ex H H' → Q .non H'

theorem ok_check_table (T : Txt K mg) : FnOk P w K mg base CX0 4 T.f_check_table T.fd_check_table ["thing"] (sp_check_table K) := by
  refine Fun.ok T.F_check_table sc_check_table (fun vs H Q E h => ?_) (fun cdv A outer s H vs Q E hr h => ?_)
  · obtain ⟨_, _, _, _, _, rfl, _⟩ := h; rfl
  · refine ⟨_, (pss_one (ps_if (pt_not (pt_val (pe_call (ok_is_table T) hr (by rfl) T.g_is_table T.k_is_table T.b_is_table .nil pass0 (pa_cons (pv 0) pa_nil))))
        (pss_one ps_never)
        pss_nil)), ?_⟩
    obtain ⟨p, as, rows, m, w, rfl, hT, k⟩ := h
    exact ⟨_, rfl, p, as, rows, m, w, rfl, hT, fun H' e => ⟨true, rfl, iteF (k H' e)⟩⟩
-- DEF _law_net_drawn

def sp__law_net_drawn (K : PySem.W.Frag) : Sp := fun vs H Q _ => ∃ (s : Addr) (n : Int) (m w : Nat), vs = [.ref s, .int m, .int w] ∧ SrcAt H s n ∧ n ≤ 300000000 ∧ 1 ≤ m ∧ m ≤ 8 ∧ 1 ≤ w ∧ w ≤ 8 ∧
  ∀ (rs : List Addr) (rows : List (List Int)) (p : Addr) (H' : Hp), NewTab H H' p rs rows w 100 → rows.length = m → ExB s H H' → SrcAt H' s (n + 400) → Q (.ref p) H'

theorem ok__law_net_drawn (T : Txt K mg) : FnOk P w K mg base CX0 4 T.f__law_net_drawn T.fd__law_net_drawn ["_law_source", "_law_many", "_law_wide"] (sp__law_net_drawn K) := by
  refine Fun.ok T.F__law_net_drawn sc__law_net_drawn (fun vs H Q E h => ?_) (fun cdv A outer s H vs Q E hr h => ?_)
  · obtain ⟨_, _, _, _, rfl, _⟩ := h; rfl
  · refine ⟨_, (pss_cons (ps_setLc (i := 3) (own := [("_law_k", 4)]) (g := gName 4) (tt := tYes) rfl sc__law_net_drawn.nd rfl rfl (sw_true rfl rfl rfl (by decide +kernel)) (pi_range1 (by rfl) T.n_range (pa_cons (pv 2) pa_nil)) (blkOk_by (N := ["_law_source", "_law_many", "_law_wide", "_law_arcs", "_law_k"]) (sc := (defScope s__law_net_drawn)) (by decide +kernel)) (fun _ _ _ _ _ => pg_name (i := 4) sc__law_net_drawn.nd rfl (Or.inl rfl)) (fun _ _ _ _ _ => pts_nil) (fun _ _ _ _ _ => (pe_tup (pa_cons (pe_call (ok__law_next T) (hr.mono (by decide)) (by rfl) T.g__law_next T.k__law_next T.b__law_next .nil pass0 (pa_cons (pv 0) (pa_cons (pe_op op_add (pv 1) pe_int) pa_nil))) (pa_cons (pe_call (ok__law_next T) (hr.mono (by decide)) (by rfl) T.g__law_next T.k__law_next T.b__law_next .nil pass0 (pa_cons (pv 0) (pa_cons (pe_op op_add (pv 1) pe_int) pa_nil))) pa_nil)))))
      (pss_one (ps_ret (pe_call (ok__law_net T) (hr.mono (by decide)) (by rfl) T.g__law_net T.k__law_net T.b__law_net .nil pass0 (pa_cons (pe_call (ok__law_ends T) hr (by rfl) T.g__law_ends T.k__law_ends T.b__law_ends .nil pass0 (pa_cons (pv 0) (pa_cons (pv 1) pa_nil))) (pa_cons (pv 3) pa_nil)))))), ?_⟩
    obtain ⟨s, n, m, w, rfl, hs, hn, hm1, hm8, hw1, hw8, k⟩ := h
    refine ⟨_, rfl, _, rfl, by omega, by omega, fun D hD => ?_⟩
    have hDs : D ≠ s := hs.ne hD
    refine lc_range (lo := 0) (n := (w : Int).toNat) (fun i H' => ∃ (bs : List Addr) (qs : List (Int × Int)), H' D = some (.lst (bs.map V.ref)) ∧ EdgesAt H' bs qs ∧ qs.length = i ∧ ExB s H H' ∧ SrcAt H' s (n + 2 * i) ∧ ∀ e ∈ qs, 0 ≤ e.1 ∧ e.1 ≤ (m : Int) ∧ 0 ≤ e.2 ∧ e.2 ≤ (m : Int))
      ⟨[], [], upd_same, .nil, rfl, ExB.of (Ex.new hD), (hs.ex (Ex.new hD)).le (by omega), fun e he => by simp at he⟩ (fun i H1 hi p => ?_) (fun H1 p => ?_)
    · obtain ⟨bs, qs, h1, h2, h3, h4, h5, h6⟩ := p
      have bm : Bd 8000 ((m : Int) + 1) := by
        unfold Bd
        exact Nat.lt_of_lt_of_le (show ((m : Int) + 1).natAbs < 1024 by omega) (by decide +kernel)
      refine ⟨rfl, ?_⟩
      refine ⟨_, rfl, _, rfl, _, _, rfl, rfl, s, _, _, rfl, h5, by omega, by omega, bm, fun f H2 f0 f1 e2 s2 => ?_⟩
      refine ⟨_, rfl, _, rfl, _, _, rfl, rfl, s, _, _, rfl, s2, by omega, by omega, bm, fun g H3 g0 gl e3 s3 => ?_⟩
      refine ⟨(by show 2 ≤ sizeLine; decide), fun t nt => ?_⟩
      have xt : Ex H3 (upd H3 t (.tup [.int f, .int g])) := Ex.new nt
      have e13 := e2.trans e3
      have hD3 := e13 _ _ hDs h1
      have el : bs.length = i := by rw [Paired.length h2, h3]
      refine ⟨_, xt _ _ hD3, small1000 (by rw [List.length_map]; omega), bs ++ [t], qs ++ [(f, g)], ?_, ?_, ?_, ?_, ?_, ?_⟩
      · rw [upd_same, List.map_append]
        rfl
      · exact paired_imp (fun c d h => tups_U (xt _ _ hD3) _ _ h) (paired_snoc (EdgesAt.mono (fun c xs h => xt _ _ (tups_B h5 e13 _ _ h)) h2) (upd_same : upd H3 t (.tup [.int f, .int g]) t = some (.tup [.int f, .int g])))
      · rw [List.length_append, h3]
        rfl
      · refine fun b o nb h => ?_
        rw [upd_ne (ne_of_none h hD)]
        exact xt _ _ (e13 _ _ nb (h4 _ _ nb h))
      · obtain ⟨a1, a2, a3, a4, a5, a6, a7, a8⟩ := s3.ex xt
        exact ⟨a1, a2, a3, by rw [upd_ne hDs.symm]; exact a4, a5, a6, a7, by omega⟩
      · intro e he
        rcases List.mem_append.mp he with q | q
        · exact h6 e q
        · have : e = (f, g) := by simpa using q
          rw [this]
          exact ⟨f0, by omega, g0, by omega⟩
    · obtain ⟨bs, qs, h1, h2, h3, h4, h5, h6⟩ := p
      have h3' : qs.length = w := by rw [h3]; omega
      refine ⟨_, rfl, _, rfl, s, _, _, rfl, h5, by omega, by omega, by omega, fun as es p H2 l2 b2 c2 d2 e2 f2 g2' s2 => ?_⟩
      refine ⟨_, rfl, p, D, as, bs, es, qs, m, rfl, by omega, hm1, hm8, e2, d2, g2' _ _ hDs h1, EdgesAt.mono (tups_B h5 g2') h2, by omega, b2, h6, c2, fun rs rows p' H3 x1 x2 x3 x4 x5 x6 x7 x8 => ?_⟩
      have nt : NewTab H2 H3 p' rs rows w 100 := ⟨x1, x2, x3, x4, x6, fun r hr => by rw [← h3']; exact x8 r hr⟩
      exact k rs rows p' H3 (nt.back (h4.trans g2') s2.obj) x7 ((h4.trans g2').trans (ExB.of x5)) ((s2.ex x5).le (by omega))
-- DEF turned

def transp (rows : List (List Int)) (w : Nat) : List (List Int) := (List.range w).map fun kk => rows.map fun r => r[kk]?.getD 0
def sp_turned (K : PySem.W.Frag) : Sp := fun vs H Q _ => ∃ (p : Addr) (as : List Addr) (rows : List (List Int)) (m w : Nat), vs = [.ref p] ∧ TabOk H p as rows m w ∧
  ∀ q bs H', H q = none → (∀ a ∈ bs, H a = none) → bs.Nodup → q ∉ bs → Ex H H' → Tab H' q bs (transp rows w) → Q (.ref q) H'

theorem ok_turned (T : Txt K mg) : FnOk P w K mg base CX0 5 T.f_turned T.fd_turned ["table"] (sp_turned K) := by
  refine Fun.ok T.F_turned sc_turned (fun vs H Q E h => ?_) (fun cdv A outer s H vs Q E hr h => ?_)
  · obtain ⟨_, _, _, _, _, rfl, _⟩ := h; rfl
  · refine ⟨_, (pss_cons (ps_expr (pe_call (ok_check_table T) hr (by rfl) T.g_check_table T.k_check_table T.b_check_table .nil pass0 (pa_cons (pv 0) pa_nil)))
      (pss_one (ps_ret (pe_lc (own := [("at", 1)]) (g := gName 1) (tt := tYes) rfl sc_turned.nd (pi_range1 (by rfl) T.n_range (pa_cons (pe_callB (id := "len") (r := rLenS K) call_len_seq (by rfl) T.n_len PySem.boot_len (pa_cons (pe_ix (r := rIxL K) ix_list (pv 0) pe_int (fun _ _ => rfl)) pa_nil)) pa_nil)) (blkOk_by (N := ["table", "at", "row"]) (sc := (defScope s_turned)) (by decide +kernel)) (fun _ _ _ _ _ => pg_name (i := 1) sc_turned.nd rfl (Or.inr rfl)) (fun _ _ _ _ _ => pts_nil) (fun _ _ _ _ _ => (pe_lc (own := [("row", 2)]) (wi := iList K _) (g := gName 2) (tt := tYes) rfl sc_turned.nd (pi_list (pv 0)) (blkOk_by (N := ["table", "at", "row"]) (sc := (relS ({ kind := .function, names := [(".0", .local), ("at", .cell), ("table", .free)], isGenerator := false, isCoroutine := false } : Scope) (defScope s_turned))) (by decide +kernel)) (fun _ _ _ _ _ => pg_name (i := 2) sc_turned.nd rfl (Or.inl rfl)) (fun _ _ _ _ _ => pts_nil) (fun _ _ _ _ _ => (pe_ix (r := rIxL K) ix_list (pv 2) (pv 1) (fun _ _ => rfl))))))))), ?_⟩
    obtain ⟨p, as, rows, m, w, rfl, hT, k⟩ := h
    refine ⟨_, rfl, p, as, rows, m, w, rfl, hT, fun H1 e1 => ?_⟩
    have hT1 := hT.ex e1
    have hb := hT.b
    obtain ⟨a0, r0, _, _, hh0, hl0, at0⟩ := hT1.row0
    refine lc_rows (m := w) (F := fun kk => rows.map fun r => r[kk]?.getD 0) (ea_cons (ev_is (ev_len (ev_op (ev_var rfl) ev_c (rv_ixL (SqL.of hT1.tab.1) at0)) (SqL.of hh0)) (by rw [List.length_map, hl0])) ea_nil) (by omega) (fun u => rfl) (fun kk H3 x3 hkk => ?_) (fun q bs H3 nq nbs nd nqb x3 ht => ?_)
    · refine el_col (K := K) (f := fun r => r[kk]?.getD 0) rfl (x3 _ _ hT1.tab.1) (hT1.tab.2.ex x3) (by rw [hT.m_]; omega) (fun u => rfl) fun b r H4 hr hb' x4 => ?_
      have lr := hT.w_ r hr
      exact ev_op (ev_var rfl) (ev_var rfl) (rv_ixL (SqL.of (x4 _ _ hb')) (atI_row (by omega)))
    · exact k q bs H3 (fresh_back e1 nq) (fun a ha => fresh_back e1 (nbs a ha)) nd nqb (e1.trans x3) ht
-- DEF _law_table

def sp__law_table (K : PySem.W.Frag) : Sp := fun vs H Q _ => ∃ (s : Addr) (n : Int) (most : Nat), vs = [.ref s, .int most] ∧ SrcAt H s n ∧ n ≤ 100000000 ∧ 1 ≤ most ∧ most ≤ 8 ∧
  ∀ (rs : List Addr) (rows : List (List Int)) (p : Addr) (H' : Hp) (m w : Nat), 1 ≤ m → m ≤ most → 1 ≤ w → w ≤ most → NewTab H H' p rs rows w (10 ^ 30) → rows.length = m → ExB s H H' → SrcAt H' s (n + 1000) → Q (.ref p) H'

theorem ok__law_table (T : Txt K mg) : FnOk P w K mg base CX0 5 T.f__law_table T.fd__law_table ["_law_source", "_law_most"] (sp__law_table K) := by
  refine Fun.ok T.F__law_table sc__law_table (fun vs H Q E h => ?_) (fun cdv A outer s H vs Q E hr h => ?_)
  · obtain ⟨_, _, _, rfl, _⟩ := h; rfl
  · refine ⟨_, (pss_cut (ps_set (i := 2) sc__law_table.nd rfl (by first | exact Or.inl rfl | exact Or.inr rfl) (pe_op op_add pe_int (pe_call (ok__law_next T) (hr.mono (by decide)) (by rfl) T.g__law_next T.k__law_next T.b__law_next .nil pass0 (pa_cons (pv 0) (pa_cons (pv 1) pa_nil)))))
      (pss_cut (ps_set (i := 3) sc__law_table.nd rfl (by first | exact Or.inl rfl | exact Or.inr rfl) (pe_op op_add pe_int (pe_call (ok__law_next T) (hr.mono (by decide)) (by rfl) T.g__law_next T.k__law_next T.b__law_next .nil pass0 (pa_cons (pv 0) (pa_cons (pv 1) pa_nil)))))
      (pss_cut (ps_set (i := 4) sc__law_table.nd rfl (by first | exact Or.inl rfl | exact Or.inr rfl) (pe_call (ok__law_next T) (hr.mono (by decide)) (by rfl) T.g__law_next T.k__law_next T.b__law_next .nil pass0 (pa_cons (pv 0) (pa_cons pe_int pa_nil))))
      (pss_cut (ps_if (pt_cmpR op_lt (pv 4) pe_int (nomark _))
        (pss_one (ps_setLc (i := 5) (own := [("_law_row", 7)]) (g := gName 7) (tt := tYes) rfl sc__law_table.nd rfl rfl (sw_true rfl rfl rfl (by decide +kernel)) (pi_range1 (by rfl) T.n_range (pa_cons (pv 2) pa_nil)) (blkOk_by (N := ["_law_source", "_law_most", "_law_many", "_law_wide", "_law_kind", "_law_grid", "_law_k", "_law_row"]) (sc := (defScope s__law_table)) (by decide +kernel)) (fun _ _ _ _ _ => pg_name (i := 7) sc__law_table.nd rfl (Or.inl rfl)) (fun _ _ _ _ _ => pts_nil) (fun _ _ _ _ _ => (pe_lc (own := [("_law_k", 6)]) (g := gName 6) (tt := tYes) rfl sc__law_table.nd (pi_range1 (by rfl) T.n_range (pa_cons (pv 3) pa_nil)) (blkOk_by (N := ["_law_source", "_law_most", "_law_many", "_law_wide", "_law_kind", "_law_grid", "_law_k", "_law_row"]) (sc := (relS ({ kind := .function, names := [(".0", .local), ("_law_row", .local), ("range", .globalImplicit), ("_law_source", .free), ("_law_wide", .free)], isGenerator := false, isCoroutine := false } : Scope) (defScope s__law_table))) (by decide +kernel)) (fun _ _ _ _ _ => pg_name (i := 6) sc__law_table.nd rfl (Or.inl rfl)) (fun _ _ _ _ _ => pts_nil) (fun _ _ _ _ _ => (pe_op op_sub (pe_call (ok__law_next T) (hr.mono (by decide)) (by rfl) T.g__law_next T.k__law_next T.b__law_next .nil pass0 (pa_cons (pv 0) (pa_cons pe_int pa_nil))) pe_int))))))
        (pss_one (ps_if (pt_cmpR op_lt (pv 4) pe_int (nomark _))
            (pss_one (ps_set (i := 5) sc__law_table.nd rfl (by first | exact Or.inl rfl | exact Or.inr rfl) (pe_call (ok__law_net_drawn T) hr (by rfl) T.g__law_net_drawn T.k__law_net_drawn T.b__law_net_drawn .nil pass0 (pa_cons (pv 0) (pa_cons (pv 2) (pa_cons (pv 3) pa_nil))))))
            (pss_one (ps_set (i := 5) sc__law_table.nd rfl (by first | exact Or.inl rfl | exact Or.inr rfl) (pe_call (ok__law_stretches T) (hr.mono (by decide)) (by rfl) T.g__law_stretches T.k__law_stretches T.b__law_stretches .nil pass0 (pa_cons (pv 0) (pa_cons (pv 2) (pa_cons (pv 3) pa_nil)))))))))
      (pss_cut (ps_if (pt_cmpR op_eq (pe_call (ok__law_next T) (hr.mono (by decide)) (by rfl) T.g__law_next T.k__law_next T.b__law_next .nil pass0 (pa_cons (pv 0) (pa_cons pe_int pa_nil))) pe_int (nomark _))
        (pss_one (ps_set (i := 5) sc__law_table.nd rfl (by first | exact Or.inl rfl | exact Or.inr rfl) (pe_call (ok__law_swung T) (hr.mono (by decide)) (by rfl) T.g__law_swung T.k__law_swung T.b__law_swung .nil pass0 (pa_cons (pv 0) (pa_cons (pv 5) pa_nil)))))
        pss_nil)
      (pss_cons (ps_for PassesOwn.never rfl (pi_range1 (by rfl) T.n_range (pa_cons (pe_call (ok__law_one T) (hr.mono (by decide)) (by rfl) T.g__law_one T.k__law_one T.b__law_one .nil pass0 (pa_cons (pv 0) (pa_cons (pe_lst (pa_cons pe_int (pa_cons pe_int (pa_cons pe_int (pa_cons pe_int pa_nil))))) pa_nil))) pa_nil)) (pg_name (i := 6) sc__law_table.nd rfl (by first | exact Or.inl rfl | exact Or.inr rfl))
        (pss_cut (ps_set (i := 7) sc__law_table.nd rfl (by first | exact Or.inl rfl | exact Or.inr rfl) (pe_ix (r := rIxL K) ix_list (pv 5) (pe_call (ok__law_next T) (hr.mono (by decide)) (by rfl) T.g__law_next T.k__law_next T.b__law_next .nil pass0 (pa_cons (pv 0) (pa_cons (pe_callB (id := "len") (r := rLenS K) call_len_seq (by rfl) T.n_len PySem.boot_len (pa_cons (pv 5) pa_nil)) pa_nil))) (fun _ _ => rfl)))
          (pss_one (ps_asg (pe_call (ok__law_one T) (hr.mono (by decide)) (by rfl) T.g__law_one T.k__law_one T.b__law_one .nil pass0 (pa_cons (pv 0) (pa_cons (pe_lst (pa_cons pe_int (pa_cons (pe_un un_neg pe_int) (pa_cons pe_int (pa_cons pe_int (pa_cons (pe_un un_neg pe_int) (pa_cons pe_int (pa_cons pe_int (pa_cons (pe_un un_neg pe_int) (pa_cons (pe_op op_pow pe_int pe_int) pa_nil)))))))))) pa_nil))) (pg_sub (pv 7) (pe_call (ok__law_next T) (hr.mono (by decide)) (by rfl) T.g__law_next T.k__law_next T.b__law_next .nil pass0 (pa_cons (pv 0) (pa_cons (pe_callB (id := "len") (r := rLenS K) call_len_seq (by rfl) T.n_len PySem.boot_len (pa_cons (pv 7) pa_nil)) pa_nil))) set_list)))))
      (pss_one (ps_ret (pv 5))))))))), ?_⟩
    obtain ⟨s, n, most, rfl, hs, hn, hm1, hm8, k⟩ := h
    have bmost : Bd 8000 (most : Int) := by
      unfold Bd
      exact Nat.lt_of_lt_of_le (show ((most : Int)).natAbs < 1024 by omega) (by decide +kernel)
    -- many, wide, kind
    refine ⟨fun σ' H1 => ∃ m : Nat, σ' = [some (.ref s), some (.int most), some (.int m), none, none, none, none, none] ∧ 1 ≤ m ∧ m ≤ most ∧ ExB s H H1 ∧ SrcAt H1 s (n + 1), ?_, ?_⟩
    · refine ⟨_, rfl, _, rfl, s, _, n, rfl, hs, by omega, by omega, bmost, fun f H1 f0 f1 e1 s1 => ⟨_, _, rfl, rfl, (1 + f).toNat, ?_, by omega, by omega, e1, s1⟩⟩
      have : (((1 + f).toNat : Nat) : Int) = 1 + f := by omega
      rw [this]
      rfl
    rintro σ' H1 ⟨m, rfl, m1, m2, e1, s1⟩
    refine ⟨fun σ' H2 => ∃ w : Nat, σ' = [some (.ref s), some (.int most), some (.int m), some (.int w), none, none, none, none] ∧ 1 ≤ w ∧ w ≤ most ∧ ExB s H H2 ∧ SrcAt H2 s (n + 2), ?_, ?_⟩
    · refine ⟨_, rfl, _, rfl, s, _, _, rfl, s1, by omega, by omega, bmost, fun f H2 f0 f1 e2 s2 => ⟨_, _, rfl, rfl, (1 + f).toNat, ?_, by omega, by omega, e1.trans e2, s2.le (by omega)⟩⟩
      have : (((1 + f).toNat : Nat) : Int) = 1 + f := by omega
      rw [this]
      rfl
    rintro σ' H2 ⟨w, rfl, w1, w2, e2, s2⟩
    refine ⟨fun σ' H3 => ∃ f : Int, σ' = [some (.ref s), some (.int most), some (.int m), some (.int w), some (.int f), none, none, none] ∧ ExB s H H3 ∧ SrcAt H3 s (n + 3), ?_, ?_⟩
    · exact ⟨_, rfl, s, 8, _, rfl, s2, by omega, by decide, (by unfold Bd; decide +kernel), fun f H3 f0 f1 e3 s3 => ⟨f, rfl, e2.trans e3, s3.le (by omega)⟩⟩
    rintro σ' H3 ⟨f, rfl, e3, s3⟩
    clear e1 s1 e2 s2
    -- the table
    refine ⟨fun σ' H4 => ∃ (y6 y7 : Option V) (p : Addr) (as : List Addr) (rows : List (List Int)), σ' = [some (.ref s), some (.int most), some (.int m), some (.int w), some (.int f), some (.ref p), y6, y7] ∧ NewTab H H4 p as rows w 100 ∧ rows.length = m ∧ ExB s H H4 ∧ SrcAt H4 s (n + 403), ?_, ?_⟩
    · refine ⟨_, rfl, _, _, rfl, rfl, _, rfl, ?_⟩
      refine ite2 (fun _ => ?_) (fun _ => ?_)
      · -- drawn
        refine ⟨_, rfl, _, rfl, by omega, by omega, fun D hD => ?_⟩
        have hDs : D ≠ s := s3.ne hD
        have hDH : H D = none := fresh_B e3 hD s3.obj
        refine lc_range (lo := 0) (n := (m : Int).toNat) (fun i H' => ∃ as rows, NewTab H H' D as rows w 100 ∧ rows.length = i ∧ ExB s H H' ∧ SrcAt H' s (n + 3 + 10 * i)) ⟨[], [], NewTab.new hDH upd_same, rfl, e3.trans (ExB.of (Ex.new hD)), (s3.ex (Ex.new hD)).le (by omega)⟩ (fun i H4 hi p => ?_) (fun H4 p => ?_)
        · obtain ⟨as, rows, hN, hl, e4, s4⟩ := p
          have al : as.length = i := by rw [Paired.length hN.tab.2, hl]
          refine ⟨rfl, ?_⟩
          dsimp only [tYes]
          rw [if_pos rfl]
          refine lc_draw (s := s) (n := n + 3 + 10 * i) (m := w) (fun x => x.natAbs ≤ 100) (ea_cons (ev_var rfl) ea_nil) (by omega) s4 (fun u => rfl) (fun j H5 e5 hj s5 Q1 kq => ?_) (fun r ns H5 nr e5 s5 hr hln hP => ?_)
          · exact ⟨_, rfl, s, 3, _, rfl, s5, by omega, by decide, (by unfold Bd; decide +kernel), fun g H6 g0 g1 e6 s6 => ⟨_, _, rfl, rfl, kq (g - 1) H6 (by omega) e6 s6⟩⟩
          · have N5 := hN.exB e5 hs.obj
            have nr0 : H r = none := fresh_B e4 nr s4.obj
            have nrD : r ≠ D := fun z => by
              rw [z, hN.tab.1] at nr
              cases nr
            have nra : r ∉ as := fun ha => by
              obtain ⟨x, _, hx⟩ := paired_mem hN.tab.2 ha
              rw [nr] at hx
              cases hx
            refine ⟨_, N5.tab.1, small1000 (by rw [List.length_map]; omega), as ++ [r], rows ++ [ns], ?_, ?_, ?_, ?_⟩
            · refine ⟨hDH, fun a ha => ?_, ?_, ?_, ⟨?_, ?_⟩, fun x hx => ?_⟩
              · rcases List.mem_append.mp ha with q | q
                · exact hN.a0 a q
                · rw [show a = r by simpa using q]
                  exact nr0
              · refine List.nodup_append.mpr ⟨hN.nd, by simp, fun a ha b hb z => ?_⟩
                have : b = r := by simpa using hb
                exact nra (by rw [← this, ← z]; exact ha)
              · intro ha
                rcases List.mem_append.mp ha with q | q
                · exact hN.np q
                · exact nrD (by simpa using q : D = r).symm
              · rw [upd_same, List.map_append]
                rfl
              · refine paired_snoc (rows_but N5.tab.2 fun a ha o g => ?_) ?_
                · rw [upd_ne (fun z => hN.np (by rw [← z]; exact ha))]
                  exact g
                · rw [upd_ne nrD]
                  exact hr
              · rcases List.mem_append.mp hx with q | q
                · exact hN.ok x q
                · rw [show x = ns by simpa using q]
                  exact ⟨hln, hP⟩
            · rw [List.length_append, hl]
              rfl
            · refine fun b o nb h => ?_
              rw [upd_ne (ne_of_none h hDH)]
              exact e5 _ _ nb (e4 _ _ nb h)
            · obtain ⟨a1, a2, a3, a4, a5, a6, a7, a8⟩ := s5
              exact ⟨a1, a2, a3, by rw [upd_ne hDs.symm]; exact a4, a5, a6, a7, by omega⟩
        · obtain ⟨as, rows, hN, hl, e4, s4⟩ := p
          exact ⟨_, _, D, as, rows, rfl, hN, by omega, e4, s4.le (by omega)⟩
      · refine ⟨_, rfl, _, _, rfl, rfl, _, rfl, ?_⟩
        refine ite2 (fun _ => ?_) (fun _ => ?_)
        · refine ⟨_, rfl, _, rfl, _, rfl, s, _, m, w, rfl, s3, by omega, by omega, by omega, by omega, by omega, fun rs rows p H4 hN hl e4 s4 => ?_⟩
          exact ⟨_, _, p, rs, rows, rfl, hN.back e3 s3.obj, hl, e3.trans e4, s4.le (by omega)⟩
        · refine ⟨_, rfl, _, rfl, _, rfl, s, _, m, w, rfl, s3, by omega, by omega, by omega, by omega, by omega, fun rs rows p H4 hN hl e4 s4 => ?_⟩
          exact ⟨_, _, p, rs, rows, rfl, hN.back e3 s3.obj, hl, e3.trans e4, s4.le (by omega)⟩
    rintro σ' H4 ⟨y6, y7, p, as, rows, rfl, hN, hl, e4, s4⟩
    -- perhaps swung
    have nin : ∀ {a : Addr}, H a = none → a ≠ s := fun h => hs.ne h
    refine ⟨fun σ' H5 => ∃ (p : Addr) (as : List Addr) (rows : List (List Int)) (m' w' : Nat), σ' = [some (.ref s), some (.int most), some (.int m), some (.int w), some (.int f), some (.ref p), y6, y7] ∧ 1 ≤ m' ∧ m' ≤ most ∧ 1 ≤ w' ∧ w' ≤ most ∧ NewTab H H5 p as rows w' 100 ∧ rows.length = m' ∧ ExB s H H5 ∧ SrcAt H5 s (n + 604), ?_, ?_⟩
    · refine ⟨_, rfl, s, 2, _, rfl, s4, by omega, by decide, (by unfold Bd; decide +kernel), fun g H5 g0 g1 e5 s5 => ⟨rfl, _, rfl, ?_⟩⟩
      have N5 := hN.exB e5 hs.obj
      refine ite2 (fun _ => ?_) (fun _ => ?_)
      · refine ⟨_, rfl, _, rfl, s, p, _, as, rows, m, w, rfl, s5, by omega, nin hN.p0, fun a ha => nin (hN.a0 a ha), N5.tab, hl, hN.ok, by omega, by omega, by omega, by omega, fun rs rows' p' H6 m' w' hmw hN' hl' e6 s6 => ?_⟩
        refine ⟨p', rs, rows', m', w', rfl, ?_, ?_, ?_, ?_, hN'.back (e4.trans e5) s5.obj, hl', (e4.trans e5).trans e6, s6.le (by omega)⟩ <;> rcases hmw with ⟨rfl, rfl⟩ | ⟨rfl, rfl⟩ <;> omega
      · exact ⟨p, as, rows, m, w, rfl, m1, m2, w1, w2, N5, hl, e4.trans e5, s5.le (by omega)⟩
    rintro σ' H5 ⟨p, as, rows, m', w', rfl, m1', m2', w1', w2', hN5, hl5, e5, s5⟩
    clear hN hl e4 s4
    have hN5 := hN5.mono (show 100 ≤ 10 ^ 30 by decide)
    -- other entries
    refine ⟨_, rfl, (by show 4 ≤ sizeLine; decide), fun l nl => ?_⟩
    have xl : Ex H5 (upd H5 l (.lst [.int 0, .int 0, .int 1, .int 2])) := Ex.new nl
    refine ⟨s, l, _, _, rfl, s5.ex xl, by omega, s5.ne nl, SqL.of upd_same, by decide, Nat.le_of_ble_eq_true rfl, fun v hv H6 e6 s6 => ?_⟩
    obtain ⟨c, rfl, hc0, hc2⟩ : ∃ c : Int, v = .int c ∧ 0 ≤ c ∧ c ≤ 2 := by
      simp only [List.mem_cons, List.not_mem_nil, or_false] at hv
      rcases hv with rfl | rfl | rfl | rfl
      · exact ⟨0, rfl, by decide, by decide⟩
      · exact ⟨0, rfl, by decide, by decide⟩
      · exact ⟨1, rfl, by decide, by decide⟩
      · exact ⟨2, rfl, by decide, by decide⟩
    have N6 := (hN5.ex xl).exB e6 hs.obj
    have e06 := (e5.trans (ExB.of xl)).trans e6
    clear xl nl
    refine ⟨_, rfl, by omega, by omega, for_range (lo := 0) (n := c.toNat) (fun i σ H' => ∃ (y6 y7 : Option V) (rows : List (List Int)), σ = [some (.ref s), some (.int most), some (.int m), some (.int w), some (.int f), some (.ref p), y6, y7] ∧ NewTab H H' p as rows w' (10 ^ 30) ∧ rows.length = m' ∧ ExB s H H' ∧ SrcAt H' s (n + 605 + 3 * i)) ⟨_, _, rows, rfl, N6, hl5, e06, s6.le (by omega)⟩ ?_ ?_⟩
    · rintro i σ H7 hi ⟨z6, z7, rows7, rfl, hN7, hl7, e7, s7⟩
      have al : as.length = m' := by rw [Paired.length hN7.tab.2, hl7]
      have i2 : i < 2 := by omega
      refine ⟨fun σ' H8 => ∃ (kk : Nat) (x : Addr) (row : List Int), σ' = [some (.ref s), some (.int most), some (.int m), some (.int w), some (.int f), some (.ref p), some (.int (0 + (i : Int))), some (.ref x)] ∧ as[kk]? = some x ∧ rows7[kk]? = some row ∧ ExB s H7 H8 ∧ SrcAt H8 s (n + 605 + 3 * i + 1), ?_, ?_⟩
      · refine ⟨_, rfl, _, rfl, _, rfl, p, _, rfl, .inl (SqL.of hN7.tab.1), s, _, _, rfl, s7, by omega, (by rw [List.length_map]; omega), ?_, fun g H8 g0 g1 e8 s8 => ?_⟩
        · unfold Bd
          exact Nat.lt_of_lt_of_le (show (((as.map V.ref).length : Nat) : Int).natAbs < 1024 by rw [List.length_map]; omega) (by decide +kernel)
        · rw [List.length_map] at g1
          obtain ⟨x, hx⟩ : ∃ x, as[g.toNat]? = some x := ⟨_, List.getElem?_eq_getElem (by omega)⟩
          obtain ⟨row, hrow, _⟩ := paired_get hN7.tab.2 hx
          have N8 := hN7.exB e8 hs.obj
          exact ⟨p, _, _, _, rfl, rfl, SqL.of N8.tab.1, at_of (j := g.toNat) (by omega) (by rw [List.getElem?_map, hx]; rfl), g.toNat, x, row, rfl, hx, hrow, e8, s8⟩
      rintro σ' H8 ⟨kk, x, row, rfl, hx, hrow, e8, s8⟩
      have N8 := hN7.exB e8 hs.obj
      have nxs : x ≠ s := nin (hN7.a0 x (List.mem_of_getElem? hx))
      have o := hN7.ok row (List.mem_of_getElem? hrow)
      have hxr : H8 x = some (.lst (row.map V.int)) := by
        obtain ⟨r', hr', hh⟩ := paired_get N8.tab.2 hx
        rw [hrow] at hr'
        rw [Option.some.inj hr']
        exact hh
      refine ⟨_, rfl, _, rfl, _, rfl, _, rfl, _, _, rfl, rfl, ⟨by decide, by decide, by decide⟩, (by show 9 ≤ sizeLine; decide), fun l nl => ?_⟩
      have xl : Ex H8 (upd H8 l (.lst [.int 1, .int (-1), .int 0, .int 1, .int (-1), .int 0, .int 2, .int (-3), .int (10 ^ (30 : Int).toNat)])) := Ex.new nl
      refine ⟨s, l, _, _, rfl, s8.ex xl, by omega, s8.ne nl, SqL.of upd_same, by decide, Nat.le_of_ble_eq_true rfl, fun v hv H9 e9 s9 => ?_⟩
      obtain ⟨y, rfl, hy⟩ : ∃ y : Int, v = .int y ∧ y.natAbs ≤ 10 ^ 30 := by
        simp only [List.mem_cons, List.not_mem_nil, or_false] at hv
        rcases hv with rfl | rfl | rfl | rfl | rfl | rfl | rfl | rfl | rfl <;> exact ⟨_, rfl, by decide +kernel⟩
      have x9 := e9 _ _ nxs (xl _ _ hxr)
      refine ⟨_, rfl, _, rfl, _, rfl, x, _, rfl, .inl (SqL.of x9), s, _, _, rfl, s9, by omega, (by rw [List.length_map, o.1]; omega), ?_, fun g HA g0 g1 eA sA => ?_⟩
      · unfold Bd
        exact Nat.lt_of_lt_of_le (show (((row.map V.int).length : Nat) : Int).natAbs < 1024 by rw [List.length_map, o.1]; omega) (by decide +kernel)
      · rw [List.length_map] at g1
        have e8A := (e8.trans (ExB.of xl)).trans (e9.trans eA)
        have NA := hN7.exB e8A hs.obj
        have ix : ixN (row.map V.int).length g = some g.toNat := by
          have := Evl.ixN_nat (n := (row.map V.int).length) (j := g.toNat) (by rw [List.length_map]; omega)
          rw [← this]
          congr 1
          omega
        refine ⟨x, _, g, g.toNat, rfl, rfl, eA _ _ nxs x9, ix, ?_⟩
        refine ⟨_, _, rows7.set kk (row.set g.toNat y), rfl, NA.set hx hrow hy, by rw [List.length_set]; exact hl7, ?_, ?_⟩
        · refine fun b o' nb h => ?_
          rw [upd_ne (ne_of_none h (hN7.a0 x (List.mem_of_getElem? hx)))]
          exact e8A _ _ nb (e7 _ _ nb h)
        · obtain ⟨a1, a2, a3, a4, a5, a6, a7, a8⟩ := sA
          exact ⟨a1, a2, a3, by rw [upd_ne nxs.symm]; exact a4, a5, a6, a7, by omega⟩
    · rintro σ H7 ⟨z6, z7, rows7, rfl, hN7, hl7, e7, s7⟩
      refine ⟨_, rfl, ?_⟩
      exact k as rows7 p H7 m' w' m1' m2' w1' w2' hN7 hl7 e7 (s7.le (by omega))
-- DEF is_long

/-- what may be handed in as a list of fractions: of each thing whether it is one -/
def FK (K : PySem.W.Frag) (s : Addr) (H : Hp) (x : V) (r : Bool) : Prop := ∀ H', Kp s H H' → FracV K H' x r
theorem FK.kp {K : PySem.W.Frag} {s : Addr} {H H' : Hp} {x : V} {r : Bool} (h : FK K s H x r) (e : Kp s H H') : FK K s H' x r := fun H2 e2 => h H2 (e.trans e2)
inductive XsAt (K : PySem.W.Frag) (s : Addr) (H : Hp) : V → Option (List Bool) → Prop
  | lst {a : Addr} {xs : List V} {rs : List Bool} (h : H a = some (.lst xs)) (n : a ≠ s) (l : xs.length ≤ 20) (i : Paired (FK K s H) xs rs) : XsAt K s H (.ref a) (some rs)
  | oth {v : V} {t : String} (h : Kd s H v t) (n : t ≠ "list") : XsAt K s H v none
theorem XsAt.kp {K : PySem.W.Frag} {s : Addr} {H H' : Hp} {v : V} {p : Option (List Bool)} (h : XsAt K s H v p) (e : Kp s H H') : XsAt K s H' v p := by
  cases h with
  | lst h n l i => exact .lst (e _ _ n h (fun _ z => by cases z)) n l (paired_imp (fun _ _ r => r.kp e) i)
  | oth h n => exact .oth (h.kp e) n
def longB (p : Option (List Bool)) (n : Int) : Bool := match p with
  | none => false
  | some rs => decide ((rs.length : Int) = n)
def isFr (p : Option (List Bool)) (n : Int) : Bool := match p with
  | none => false
  | some rs => decide ((rs.length : Int) = n) && rs.all id
def sp_is_long (K : PySem.W.Frag) : Sp := fun vs H Q _ => ∃ (s : Addr) (v : V) (n : Int) (p : Option (List Bool)), vs = [v, .int n] ∧ XsAt K s H v p ∧ ∀ H', Ex H H' → Q (.bl (longB p n)) H'
structure TN (s : Addr) (H : Hp) (p : Addr) (as : List Addr) (rows : List (List Int)) : Prop where
  tab : Tab H p as rows
  ps : p ≠ s
  ass : ∀ a ∈ as, a ≠ s
theorem TN.ex {s : Addr} {H H' : Hp} {p : Addr} {as : List Addr} {rows : List (List Int)} (h : TN s H p as rows) (e : Ex H H') : TN s H' p as rows := ⟨h.tab.ex e, h.ps, h.ass⟩
theorem TN.exB {s : Addr} {H H' : Hp} {p : Addr} {as : List Addr} {rows : List (List Int)} (h : TN s H p as rows) (e : ExB s H H') : TN s H' p as rows := ⟨⟨e _ _ h.ps h.tab.1, rows_but h.tab.2 fun a ha o g => e a o (h.ass a ha) g⟩, h.ps, h.ass⟩
theorem TN.of {s : Addr} {n : Int} {H0 H : Hp} {p : Addr} {as : List Addr} {rows : List (List Int)} (hs : SrcAt H0 s n) (hp : H0 p = none) (ha : ∀ a ∈ as, H0 a = none) (h : Tab H p as rows) : TN s H p as rows := ⟨h, hs.ne hp, fun a q => hs.ne (ha a q)⟩
theorem dp_rows {K : PySem.W.Frag} {H : Hp} : ∀ {as : List Addr} {rows : List (List Int)}, RowsAt H as rows → DpAll K H (as.map V.ref) (rows.map fun r => PyData.list (r.map PyData.int))
  | _, _, .nil => .nil
  | _, _, .cons h t => .cons (.lst (SqL.of h) (dpAll_ints _)) (dp_rows t)
theorem canLay_rows : ∀ rows : List (List Int), PyData.canLayAll0 (rows.map fun r => PyData.list (r.map PyData.int)) = true
  | [] => rfl
  | r :: rs => by
    show (PyData.canLayAll0 (r.map PyData.int) && PyData.canLayAll0 (rs.map fun r => PyData.list (r.map PyData.int))) = true
    rw [canLay_ints, canLay_rows rs]
    rfl
theorem depth_rows : ∀ rows : List (List Int), PyData.depthAll (rows.map fun r => PyData.list (r.map PyData.int)) ≤ 1
  | [] => Nat.zero_le _
  | r :: rs => by
    show max (PyData.depthAll (r.map PyData.int) + 1) (PyData.depthAll (rs.map fun r => PyData.list (r.map PyData.int))) ≤ 1
    have := depth_rows rs
    rw [depth_ints]
    omega
theorem rv_neT {K : PySem.W.Frag} {H : Hp} {p q : Addr} {as bs : List Addr} {rows : List (List Int)} (hp : Tab H p as rows) (hq : Tab H q bs rows) : RV (rNeD K) (.ref p) (.ref q) H (.bl false) := fun H1 e Q k => by
  have sh : SeqAt.shaped (.list (rows.map fun r => PyData.list (r.map PyData.int))) = true := shaped_list (canLay_rows rows) (Nat.le_trans (depth_rows rows) (by decide))
  refine ⟨_, _, .lst (SqL.of (e _ _ hp.1)) (dp_rows (hp.2.ex e)), .lst (SqL.of (e _ _ hq.1)) (dp_rows (hq.2.ex e)), sh, sh, ?_⟩
  rw [SeqAt.eqv_refl _ (SeqAt.canLay_of_shaped sh)]
  exact k H1 (Ex.refl _)
theorem lc_rowsT {K : PySem.W.Frag} {nn : Nat} {te : TE} {vs : List Nat} {j : Nat} {σ : L2.St} {H : Hp} {Q : VK} {a : Addr} {as0 : List Addr} {rows : List (List Int)} (F : List Int → List Int) (hσ : σ[nn]? = some (some (.ref a))) (ht : Tab H a as0 rows) (hm : rows.length ≤ 1000) (hw : ∀ u, wipe ((wipe σ vs).set j (some u)) vs = wipe σ vs)
    (he : ∀ c r H1, r ∈ rows → H c = some (.lst (r.map V.int)) → Ex H H1 → EvL te ((wipe σ vs).set j (some (.ref c))) H1 ((F r).map V.int))
    (k : ∀ p as H2, H p = none → (∀ a ∈ as, H a = none) → as.Nodup → p ∉ as → Ex H H2 → Tab H2 p as (rows.map F) → Q (.ref p) H2) : tLc (iList K (tVar nn)) (gName j) tYes te vs σ H Q := by
  refine ⟨_, hσ, a, rfl, ⟨_, SqL.of ht.1⟩, fun D hD => ?_⟩
  refine lc_list (K := K) (a := a) (xs := as0.map V.ref) (fun i H' => ∃ as, Ex H H' ∧ H' D = some (.lst (as.map V.ref)) ∧ RowsAt H' as ((rows.take i).map F) ∧ (∀ a ∈ as, H a = none) ∧ as.Nodup ∧ D ∉ as) ⟨[], Ex.new hD, upd_same, .nil, fun a ha => by simp at ha, List.nodup_nil, by simp⟩ (fun i H' _ ⟨_, p1, _⟩ => SqL.of (p1 _ _ ht.1)) (fun i x H' gx p => ?_) (fun H' p => ?_)
  · obtain ⟨as, p1, p2, p3, p4, p5, p6⟩ := p
    rw [List.getElem?_map] at gx
    obtain ⟨c0, hc0, rfl⟩ := Option.map_eq_some_iff.mp gx
    obtain ⟨y, hy, hh⟩ := paired_get ht.2 hc0
    have hi := (List.getElem?_eq_some_iff.mp hy).1
    have el : as.length = i := by rw [Paired.length p3, List.length_map, List.length_take]; omega
    refine ⟨hw _, ?_⟩
    show te _ H' _
    refine he c0 y H' (List.mem_of_getElem? hy) hh p1 H' (Ex.refl _) _ fun r H4 nr e4 hr => ?_
    have nrD : r ≠ D := fun z => by
      rw [z, p2] at nr
      cases nr
    refine ⟨_, e4 _ _ p2, ?_, as ++ [r], Ex.mut (p1.trans e4) hD, ?_, ?_, ?_, ?_, ?_⟩
    · rw [List.length_map, el]
      exact small1000 (by omega)
    · rw [upd_same, List.map_append]
      rfl
    · rw [take_snoc hy, List.map_append]
      refine paired_snoc (rows_but p3 fun b hb o g => ?_) ?_
      · rw [upd_ne (fun z => p6 (by rw [← z]; exact hb))]
        exact e4 _ _ g
      · rw [upd_ne nrD]
        exact hr
    · intro b hb
      rcases List.mem_append.mp hb with h | h
      · exact p4 b h
      · rw [show b = r by simpa using h]
        exact fresh_back p1 nr
    · refine List.nodup_append.mpr ⟨p5, by simp, fun b hb c hc z => ?_⟩
      have : c = r := by simpa using hc
      have hb' : r ∈ as := by rw [← this, ← z]; exact hb
      obtain ⟨x, _, hx'⟩ := paired_mem p3 hb'
      rw [nr] at hx'
      cases hx'
    · intro hb
      rcases List.mem_append.mp hb with h | h
      · exact p6 h
      · exact nrD (by simpa using h : D = r).symm
  · obtain ⟨as, p1, p2, p3, p4, p5, p6⟩ := p
    rw [List.length_map, Paired.length ht.2, List.take_length] at p3
    exact k D as H' hD p4 p5 p6 p1 ⟨p2, p3⟩
theorem cutV_ints (ns : List Int) (lo hi : Option Int) : ∃ zs : List Int, cutV (ns.map V.int) lo hi = zs.map V.int := by
  refine ⟨(ns.drop (HT.sIx (ns.map V.int).length 0 lo)).take (HT.sIx (ns.map V.int).length (ns.map V.int).length hi - HT.sIx (ns.map V.int).length 0 lo), ?_⟩
  unfold cutV
  rw [List.map_take, List.map_drop]
theorem bd30 {y : Int} (h : y.natAbs ≤ 10 ^ 30) : Bd 1000 y := by
  unfold Bd
  exact Nat.lt_of_le_of_lt h (by decide +kernel)
def RaiseNF (C : Addr) (H : Hp) (E : XK) : Prop := ∀ H', Ex H H' → E (.ref C) none H'
/-- te makes the fraction q -/
def EvQ (te : TE) (σ : L2.St) (H : Hp) (q : Rat) : Prop := ∀ H1, Ex H H1 → ∀ Q : VK, (∀ t H2, Ex H1 H2 → H2 t = some (.tup (frV q)) → Q (.ref t) H2) → te σ H1 Q
theorem fr_true {q : Rat} : (decide (1 ≤ (q.den : Int)) && decide (gcdI q.num (q.den : Int) = 1)) = true := by
  have h1 : (1 : Int) ≤ (q.den : Int) := by
    have := q.den_pos
    omega
  have h2 : gcdI q.num (q.den : Int) = 1 := by
    unfold gcdI
    rw [Int.natAbs_natCast, q.reduced.gcd_eq_one]
    rfl
  rw [decide_eq_true h1, decide_eq_true h2]
  rfl
theorem fk_fr {K : PySem.W.Frag} {s a : Addr} {H : Hp} {q : Rat} (h : H a = some (.tup (frV q))) (n : a ≠ s) : FK K s H (.ref a) true := fun H' e => by
  have h2 := FracV.two (K := K) (e _ _ n h (fun _ z => by cases z))
  rw [fr_true] at h2
  exact h2
theorem fks_fr {K : PySem.W.Frag} {s : Addr} {H : Hp} : ∀ {bs : List Addr} {qs : List Rat}, FrsAt H bs qs → (∀ a ∈ bs, a ≠ s) → Paired (FK K s H) (bs.map V.ref) (qs.map fun _ => true)
  | _, _, .nil, _ => .nil
  | _, _, .cons h t, n => .cons (fk_fr h (n _ (List.mem_cons_self ..))) (fks_fr t fun a ha => n a (List.mem_cons_of_mem _ ha))
theorem xs_fr {K : PySem.W.Frag} {s b : Addr} {H : Hp} {bs : List Addr} {qs : List Rat} (h : FrL H b bs qs) (n : b ≠ s) (n2 : ∀ a ∈ bs, a ≠ s) (hl : qs.length ≤ 20) : XsAt K s H (.ref b) (some (qs.map fun _ => true)) :=
  .lst h.1 n (by rw [List.length_map, Paired.length h.2]; exact hl) (fks_fr h.2 n2)
theorem is_fr {qs : List Rat} {w : Nat} (h : qs.length = w) : isFr (some (qs.map fun _ => true)) (w : Int) = true := by
  show (decide (((qs.map fun _ => true).length : Int) = (w : Int)) && (qs.map fun _ => true).all id) = true
  rw [List.length_map, h, decide_eq_true rfl, Bool.true_and, all_map]
  intro b hb
  obtain ⟨_, _, rfl⟩ := List.mem_map.mp hb
  rfl
/-- [f(row) for row in table], new fractions -/
theorem lf_rows {K : PySem.W.Frag} {nn : Nat} {te : TE} {vs : List Nat} {j : Nat} {σ : L2.St} {H : Hp} {Q : VK} {a : Addr} {as0 : List Addr} {rows : List (List Int)} (F : List Int → Rat) (hσ : σ[nn]? = some (some (.ref a))) (ht : Tab H a as0 rows) (hm : rows.length ≤ 1000) (hw : ∀ u, wipe ((wipe σ vs).set j (some u)) vs = wipe σ vs)
    (he : ∀ c r H1, r ∈ rows → H c = some (.lst (r.map V.int)) → Ex H H1 → EvQ te ((wipe σ vs).set j (some (.ref c))) H1 (F r))
    (k : ∀ p bs H2, H p = none → Ex H H2 → FrL H2 p bs (rows.map F) → Q (.ref p) H2) : tLc (iList K (tVar nn)) (gName j) tYes te vs σ H Q := by
  refine ⟨_, hσ, a, rfl, ⟨_, SqL.of ht.1⟩, fun D hD => ?_⟩
  refine lc_list (K := K) (a := a) (xs := as0.map V.ref) (fun i H' => ∃ bs, Ex H H' ∧ H' D = some (.lst (bs.map V.ref)) ∧ FrsAt H' bs ((rows.take i).map F)) ⟨[], Ex.new hD, upd_same, .nil⟩ (fun i H' _ ⟨_, p1, _⟩ => SqL.of (p1 _ _ ht.1)) (fun i x H' gx p => ?_) (fun H' p => ?_)
  · obtain ⟨bs, p1, p2, p3⟩ := p
    rw [List.getElem?_map] at gx
    obtain ⟨c0, hc0, rfl⟩ := Option.map_eq_some_iff.mp gx
    obtain ⟨y, hy, hh⟩ := paired_get ht.2 hc0
    have hi := (List.getElem?_eq_some_iff.mp hy).1
    have el : bs.length = i := by rw [Paired.length p3, List.length_map, List.length_take]; omega
    refine ⟨hw _, ?_⟩
    show te _ H' _
    refine he c0 y H' (List.mem_of_getElem? hy) hh p1 H' (Ex.refl _) _ fun r H4 e4 hr => ?_
    refine ⟨_, e4 _ _ p2, ?_, bs ++ [r], Ex.mut (p1.trans e4) hD, ?_, ?_⟩
    · rw [List.length_map, el]
      exact small1000 (by omega)
    · rw [upd_same, List.map_append]
      rfl
    · rw [take_snoc hy, List.map_append]
      have p24 := e4 _ _ p2
      refine paired_snoc (paired_imp (fun b q h => tups_U p24 _ _ (e4 _ _ h)) p3) ?_
      exact tups_U p24 _ _ hr
  · obtain ⟨bs, p1, p2, p3⟩ := p
    rw [List.length_map, Paired.length ht.2, List.take_length] at p3
    exact k D bs H' hD p1 ⟨p2, p3⟩
def dot (r c : List Int) : Int := (List.zipWith (· * ·) r c).sum
def prod (r1 r2 : List (List Int)) (w2 : Nat) : List (List Int) := r1.map fun r => (transp r2 w2).map fun c => dot r c
theorem ev_sum {K : PySem.W.Frag} {ta : TE} {σ : L2.St} {H : Hp} {ns : List Int} (h : EvL ta σ H (ns.map V.int)) : Ev (tCB (rSum K) (tCons ta tNil)) σ H (.int ns.sum) := fun H1 e Q q =>
  h H1 e _ fun p H2 _ e2 hp => ⟨p, _, rfl, SqL.of hp, q H2 e2⟩

theorem ok_is_long (T : Txt K mg) : FnOk P w K mg base CX0 1 T.f_is_long T.fd_is_long ["thing", "many"] (sp_is_long K) := by
  refine Fun.ok T.F_is_long sc_is_long (fun vs H Q E h => ?_) (fun cdv A outer s H vs Q E hr h => ?_)
  · obtain ⟨_, _, _, _, rfl, _⟩ := h; rfl
  · refine ⟨_, (pss_one (ps_ret (pe_and (pe_callB (id := "isinstance") (r := rIsi K) call_isi (by rfl) T.n_isinstance (by decide +kernel) (pa_cons (pv 0) (pa_cons (pe_bltn (v := .ty "list") (by rfl) T.n_list (by decide +kernel) rfl) pa_nil))) (pe_one (pe_cmpR op_eq (pe_callB (id := "len") (r := rLenS K) call_len_seq (by rfl) T.n_len PySem.boot_len (pa_cons (pv 0) pa_nil)) (pv 1) (nomark _)))))), ?_⟩
    obtain ⟨s, v, n, p, rfl, hp, k⟩ := h
    cases hp with
    | oth hk nl =>
      rename_i t
      exact s_ret (v := .bl false) (ev_andV (a := false) (b := false) (ev_isK (t := t) (b := false) (ev_var rfl) ev_c hk (by rw [ty_list hk.ty]; exact congrArg some (beq_eq_false_iff_ne.mpr nl))) (fun z => nomatch z)) fun H' e => k H' e
    | lst ha na hl hi =>
      rename_i a xs rs
      have el := Paired.length hi
      refine s_ret (v := .bl (true && decide ((rs.length : Int) = n))) (ev_andV (a := true) (ev_isK (t := "list") (b := true) (ev_var rfl) ev_c (Kd.lst ha na) (by decide +kernel)) (fun _ => ev_is (ev_op (ev_len (ev_var rfl) (SqL.of ha)) (ev_var rfl) (rv_eq rfl)) ?_)) fun H' e => k H' e
      rw [el]
      exact congrArg V.bl (by simp)
-- DEF _law_low

def sp__law_low (K : PySem.W.Frag) : Sp := fun vs H Q _ => ∃ (t b : Int), vs = [.int t, .int b] ∧ 0 < b ∧ Bd 9000 b ∧
  ∀ (p : Addr) (H' : Hp), H p = none → Ex H H' → H' p = some (.tup [.int (t / gcdI t b), .int (b / gcdI t b)]) → Q (.ref p) H'

theorem ok__law_low (T : Txt K mg) : FnOk P w K mg base CX0 1 T.f__law_low T.fd__law_low ["_law_top", "_law_bottom"] (sp__law_low K) := by
  refine Fun.ok T.F__law_low sc__law_low (fun vs H Q E h => ?_) (fun cdv A outer s H vs Q E hr h => ?_)
  · obtain ⟨_, _, rfl, _⟩ := h; rfl
  · refine ⟨_, (pss_cons (ps_set (i := 2) sc__law_low.nd rfl (by first | exact Or.inl rfl | exact Or.inr rfl) (pe_callB (id := "abs") call_abs (by rfl) T.n_abs (by decide +kernel) (pa_cons (pv 0) pa_nil)))
      (pss_cons (ps_set (i := 3) sc__law_low.nd rfl (by first | exact Or.inl rfl | exact Or.inr rfl) (pv 1))
      (pss_cons (ps_while PassesOwn.never (pt_cmpR op_gt (pv 3) pe_int (nomark _))
        (pss_one (ps_par (i := 2) (j := 3) (by rfl) sc__law_low.nd rfl rfl (by decide) rfl rfl (pa_cons (pv 3) (pa_cons (pe_op op_mod (pv 2) (pv 3)) pa_nil)) (by rfl))))
      (pss_one (ps_ret (pe_tup (pa_cons (pe_op op_fdivW (pv 0) (pv 2)) (pa_cons (pe_op op_fdivW (pv 1) (pv 2)) pa_nil)))))))), ?_⟩
    obtain ⟨t, b, rfl, hb, bb, k⟩ := h
    -- one = abs(top); other = bottom
    refine ⟨_, rfl, _, rfl, ?_⟩
    refine ⟨_, rfl, ?_⟩
    -- the loop
    refine ⟨fun m σ H1 => ∃ x y : Int, σ = [some (.int t), some (.int b), some (.int x), some (.int y)] ∧ H1 = H ∧ 0 ≤ x ∧ 0 ≤ y ∧ m = y.toNat ∧ Nat.gcd x.toNat y.toNat = Nat.gcd t.natAbs b.natAbs, ⟨b.toNat, _, b, rfl, rfl, ?_, by omega, rfl, ?_⟩, ?_⟩
    · show (0 : Int) ≤ if t < 0 then -t else t
      split <;> omega
    · have e1 : (if t < 0 then -t else t).toNat = t.natAbs := by
        split <;> omega
      have e2 : b.toNat = b.natAbs := by omega
      rw [e1, e2]
    · rintro m σ H1 ⟨x, y, rfl, rfl, hx, hy, rfl, hg⟩
      refine ⟨_, rfl, _, _, rfl, rfl, _, rfl, ?_⟩
      refine ite2 (fun hp => ?_) (fun hp => ?_)
      · have hy0 : 0 < y := of_decide_eq_true hp
        refine ⟨fun σ' H' => ∃ x' y' : Int, σ' = [some (.int t), some (.int b), some (.int x'), some (.int y')] ∧ H' = H1 ∧ 0 ≤ x' ∧ 0 ≤ y' ∧ y'.toNat < y.toNat ∧ Nat.gcd x'.toNat y'.toNat = Nat.gcd t.natAbs b.natAbs, fun σ' H' ⟨x', y', e1, e2, a1, a2, a3, a4⟩ => ⟨y'.toNat, a3, x', y', e1, e2, a1, a2, rfl, a4⟩, ?_⟩
        refine ⟨_, rfl, _, rfl, _, rfl, _, _, rfl, rfl, hy0, _, _, rfl, ?_⟩
        have m0 := Int.emod_nonneg x (show y ≠ 0 by omega)
        have m1 := Int.emod_lt_of_pos x hy0
        refine ⟨y, x % y, rfl, rfl, hy, m0, by omega, ?_⟩
        have e3 : (x % y).toNat = x.toNat % y.toNat := Int.toNat_emod hx hy
        rw [e3, ← hg, Nat.gcd_comm, ← Nat.gcd_rec, Nat.gcd_comm]
      · have hy0 : y = 0 := by
          have : ¬ 0 < y := fun z => hp (decide_eq_true z)
          omega
        subst hy0
        have eg : x = gcdI t b := by
          have h1 : Nat.gcd x.toNat (0 : Int).toNat = x.toNat := Nat.gcd_zero_right _
          rw [h1] at hg
          unfold gcdI
          omega
        have gp := gcdI_pos (t := t) (show b ≠ 0 by omega)
        have gb : Bd 9000 (gcdI t b) := Bd.abs bb (gcdI_le (by omega))
        subst eg
        refine ⟨_, rfl, _, rfl, _, _, rfl, rfl, Bd.divOk gp gb, _, rfl, _, rfl, _, _, rfl, rfl, Bd.divOk gp gb, (by show 2 ≤ sizeLine; decide), fun p hp => ?_⟩
        exact k p _ hp (Ex.new hp) upd_same
-- DEF _law_said

theorem ev_isN {K : PySem.W.Frag} {σ : L2.St} {H : Hp} {ta tb : TE} {a D C : Addr} {b : Bool} (ha : Ev ta σ H (.ref a)) (hb : Ev tb σ H (.ref C)) (ec : ExcC K D) (hk : PySem.W.kitOne K (.ref D) (.ref C) = some b) :
    Ev (tCB (rIsA K (.ref D) none a) (tCons ta (tCons tb tNil))) σ H (.bl b) := fun H1 e Q q =>
  ha H1 e _ fun H2 e2 => hb H2 (e.trans e2) _ fun H3 e3 => ⟨D, .ref C, .ref C, b, rfl, ec, rfl, fun u r => r, hk, .inl rfl, q H3 (e2.trans e3)⟩
def TT__law_said {K : PySem.W.Frag} {mg : Str → Option Value} (T : Txt K mg) : (XK → Hp → VK → Prop) → Hp → VK → Prop := fun tl H Q => ∀ (H0 : Hp) (E : XK) (Qd : VK), Ex H H0 →
  (∀ (H' : Hp), (∀ t H'', Ex H' H'' → H' t = none → H'' t = some (.tup [.str "refused", .int 0]) → Q (.ref t) H'') → E (.ref T.f_NoFit) none H') →
  (∀ v H', (∀ t H'', Ex H' H'' → H' t = none → H'' t = some (.tup [.str "told", v]) → Q (.ref t) H'') → Qd v H') → tl E H0 Qd

theorem gives__law_said {X : Cx} (T : Txt X.K X.mg) {q : Str} {cdg : Value} : GivesAt X ["_law_deed", "_law_found", "e", "_law_others"] "_law_said" (defScope s__law_said) T.f__law_said cdg (defBody s__law_said) "_law_deed" q (TT__law_said T) := by
  intro f c' s H Q tl act hc h
  refine ⟨_, (pss_cons (ps_set (i := 1) sc__law_said.nd rfl (by first | exact Or.inl rfl | exact Or.inr rfl) (pe_tup (pa_cons pe_str (pa_cons pe_int pa_nil))))
      (pss_cons (ps_try_as (i := 2) rfl rfl sc__law_said.nd rfl rfl ⟨by rfl, by decide, .inl T.g_SignError⟩ LamX.takes0 (fun W pn xe tk _ => (pss_one (ps_set (i := 1) sc__law_said.nd rfl (by first | exact Or.inl rfl | exact Or.inr rfl) (pe_tup (pa_cons pe_str (pa_cons (act W pn xe _ _ tk) pa_nil)))))) (fun a oe cls d pn hz hf => (pss_cons (ps_set (i := 3) sc__law_said.nd rfl (by first | exact Or.inl rfl | exact Or.inr rfl) (pe_lst (pa_cons (pe_callB (id := "isinstance") (r := rIsA X.K cls d a) (call_isA hz hf) (by rfl) T.n_isinstance (by decide +kernel) (pa_cons (pv 2) (pa_cons (pe_glob (v := .ref T.f_BadTable) (by rfl) T.g_BadTable rfl) pa_nil))) (pa_cons (pe_callB (id := "isinstance") (r := rIsA X.K cls d a) (call_isA hz hf) (by rfl) T.n_isinstance (by decide +kernel) (pa_cons (pv 2) (pa_cons (pe_glob (v := .ref T.f_NoPick) (by rfl) T.g_NoPick rfl) pa_nil))) (pa_cons (pe_callB (id := "isinstance") (r := rIsA X.K cls d a) (call_isA hz hf) (by rfl) T.n_isinstance (by decide +kernel) (pa_cons (pv 2) (pa_cons (pe_glob (v := .ref T.f_NoPivot) (by rfl) T.g_NoPivot rfl) pa_nil))) pa_nil)))))
          (pss_one (ps_if (PW.pt (pw_and (pt_val (pe_callB (id := "isinstance") (r := rIsA X.K cls d a) (call_isA hz hf) (by rfl) T.n_isinstance (by decide +kernel) (pa_cons (pv 2) (pa_cons (pe_glob (v := .ref T.f_NoFit) (by rfl) T.g_NoFit rfl) pa_nil)))) (pw_and1 (pt_cmpR (r := rIn X.K true) op_notIn_seq pe_bl (pv 3) (by rfl)))))
            (pss_one (ps_set (i := 1) sc__law_said.nd rfl (by first | exact Or.inl rfl | exact Or.inr rfl) (pe_tup (pa_cons pe_str (pa_cons pe_int pa_nil)))))
            pss_nil)))))
      (pss_one (ps_ret (pv 1))))), ?_⟩
  refine ⟨(by show 2 ≤ sizeLine; decide), fun t0 nt0 => ?_⟩
  have x0 := Ex.new (o := .tup [.str "another", .int 0]) nt0
  refine ⟨rfl, x0 _ _ hc, h _ _ _ x0 (fun H' hret => ⟨true, T.exm_NoFit, fun _ a ha => ?_, fun z => nomatch z⟩) (fun v H' hret => ⟨(by show 2 ≤ sizeLine; decide), fun t nt => ⟨_, rfl, hret t _ (Ex.new nt) nt upd_same⟩⟩)⟩
  refine q_asgL (xs := [.bl false, .bl false, .bl false]) (el_lst (ea_cons (ev_isN (ev_var rfl) ev_c T.ec_NoFit T.kit_NoFit_BadTable) (ea_cons (ev_isN (ev_var rfl) ev_c T.ec_NoFit T.kit_NoFit_NoPick) (ea_cons (ev_isN (ev_var rfl) ev_c T.ec_NoFit T.kit_NoFit_NoPivot) ea_nil))) (Nat.le_of_ble_eq_true rfl)) fun ol H1 nol e1 hol => ?_
  refine s_when (b := true) (et_is (et_and (et_B (ev_isN (ev_var rfl) ev_c T.ec_NoFit T.kit_NoFit_NoFit)) fun _ => et_test (ev_op ev_c (ev_var rfl) (rv_niL (SqL.of hol) rfl rfl))) (by decide +kernel)) (fun _ H2 e2 => ?_) (fun z => nomatch z)
  refine s_asgU (xs := [.str "refused", .int 0]) (eu_tup (ea_cons ev_c (ea_cons ev_c ea_nil)) (Nat.le_of_ble_eq_true rfl)) fun t H3 nt e3 ht => ⟨_, rfl, hret t H3 ((e1.trans e2).trans e3) (fresh_back (e1.trans e2) nt) ht⟩
-- DEF _law_product

theorem lp_eq {r : List Int} {r2 : List (List Int)} {m2 j : Nat} (h1 : r.length = m2) (h2 : r2.length = m2) : (List.range m2).map (fun k => r[k]?.getD 0 * ((r2[k]?.getD [])[j]?.getD 0)) = List.zipWith (· * ·) r (r2.map fun r => r[j]?.getD 0) := by
  refine List.ext_getElem (by rw [List.length_map, List.length_range, List.length_zipWith, List.length_map]; omega) fun k g1 g2 => ?_
  rw [List.length_map, List.length_range] at g1
  rw [List.getElem_map, List.getElem_range, List.getElem_zipWith, List.getElem_map, List.getElem?_eq_getElem (show k < r.length by omega), List.getElem?_eq_getElem (show k < r2.length by omega)]
  rfl
def sp__law_product (K : PySem.W.Frag) : Sp := fun vs H Q _ => ∃ (p q : Addr) (as bs : List Addr) (r1 r2 : List (List Int)) (m w m2 w2 : Nat), vs = [.ref p, .ref q] ∧ TabOk H p as r1 m w ∧ TabOk H q bs r2 m2 w2 ∧ w = m2 ∧ (∀ r ∈ r1, ∀ y ∈ r, Bd 1000 y) ∧ (∀ r ∈ r2, ∀ y ∈ r, Bd 1000 y) ∧
  ∀ c cs H', H c = none → (∀ a ∈ cs, H a = none) → cs.Nodup → c ∉ cs → Ex H H' → Tab H' c cs (prod r1 r2 w2) → Q (.ref c) H'

theorem ok__law_product (T : Txt K mg) : FnOk P w K mg base CX0 1 T.f__law_product T.fd__law_product ["_law_this", "_law_that"] (sp__law_product K) := by
  refine Fun.ok T.F__law_product sc__law_product (fun vs H Q E h => ?_) (fun cdv A outer s H vs Q E hr h => ?_)
  · obtain ⟨_, _, _, _, _, _, _, _, _, _, rfl, _⟩ := h; rfl
  · refine ⟨_, (pss_one (ps_ret (pe_lc (own := [("_law_row", 2)]) (wi := iList K _) (g := gName 2) (tt := tYes) rfl sc__law_product.nd (pi_list (pv 0)) (blkOk_by (N := ["_law_this", "_law_that", "_law_row", "_law_j", "_law_k"]) (sc := (defScope s__law_product)) (by decide +kernel)) (fun _ _ _ _ _ => pg_name (i := 2) sc__law_product.nd rfl (Or.inr rfl)) (fun _ _ _ _ _ => pts_nil) (fun _ _ _ _ _ => (pe_lc (own := [("_law_j", 3)]) (g := gName 3) (tt := tYes) rfl sc__law_product.nd (pi_range1 (by rfl) T.n_range (pa_cons (pe_callB (id := "len") (r := rLenS K) call_len_seq (by rfl) T.n_len PySem.boot_len (pa_cons (pe_ix (r := rIxL K) ix_list (pv 1) pe_int (fun _ _ => rfl)) pa_nil)) pa_nil)) (blkOk_by (N := ["_law_this", "_law_that", "_law_row", "_law_j", "_law_k"]) (sc := (relS ({ kind := .function, names := [(".0", .local), ("_law_row", .cell), ("range", .globalImplicit), ("len", .globalImplicit), ("_law_that", .free)], isGenerator := false, isCoroutine := false } : Scope) (defScope s__law_product))) (by decide +kernel)) (fun _ _ _ _ _ => pg_name (i := 3) sc__law_product.nd rfl (Or.inr rfl)) (fun _ _ _ _ _ => pts_nil) (fun _ _ _ _ _ => (pe_callB (id := "sum") (r := rSum K) (cr_sum rfl) (by rfl) T.n_sum (by decide +kernel) (pa_cons (pe_lc (own := [("_law_k", 4)]) (g := gName 4) (tt := tYes) rfl sc__law_product.nd (pi_range1 (by rfl) T.n_range (pa_cons (pe_callB (id := "len") (r := rLenS K) call_len_seq (by rfl) T.n_len PySem.boot_len (pa_cons (pv 1) pa_nil)) pa_nil)) (blkOk_by (N := ["_law_this", "_law_that", "_law_row", "_law_j", "_law_k"]) (sc := (relS ({ kind := .function, names := [(".0", .local), ("_law_j", .cell), ("sum", .globalImplicit), ("range", .globalImplicit), ("len", .globalImplicit), ("_law_row", .free), ("_law_that", .free)], isGenerator := false, isCoroutine := false } : Scope) (relS ({ kind := .function, names := [(".0", .local), ("_law_row", .cell), ("range", .globalImplicit), ("len", .globalImplicit), ("_law_that", .free)], isGenerator := false, isCoroutine := false } : Scope) (defScope s__law_product)))) (by decide +kernel)) (fun _ _ _ _ _ => pg_name (i := 4) sc__law_product.nd rfl (Or.inl rfl)) (fun _ _ _ _ _ => pts_nil) (fun _ _ _ _ _ => (pe_op op_mulW (pe_ix (r := rIxL K) ix_list (pv 2) (pv 4) (fun _ _ => rfl)) (pe_ix (r := rIxL K) ix_list (pe_ix (r := rIxL K) ix_list (pv 1) (pv 4) (fun _ _ => rfl)) (pv 3) (fun _ _ => rfl))))) pa_nil)))))))), ?_⟩
    obtain ⟨p, q, as, bs, r1, r2, m, w, m2, w2, rfl, hT, hU, rfl, b1, b2, k⟩ := h
    have hb := hT.b
    have hb2 := hU.b
    refine lc_rowsT (K := K) (rows := r1) (F := fun r => (transp r2 w2).map fun c => dot r c) rfl hT.tab (by rw [hT.m_]; omega) (fun x => rfl) (fun a r H4 hr ha e4 => ?_) (fun c cs H4 nc ncs nd nccs e4 h4 => k c cs H4 nc ncs nd nccs e4 h4)
    have hU4 := hU.ex e4
    have lr := hT.w_ r hr
    obtain ⟨a0, r0, _, _, hh0, hl0, at0⟩ := hU4.row0
    have ee : (transp r2 w2).map (fun c => dot r c) = (List.range w2).map fun j => ((List.range w).map (fun k => r[k]?.getD 0 * ((r2[k]?.getD [])[j]?.getD 0))).sum := by
      unfold transp
      rw [List.map_map]
      refine List.map_congr_left fun j _ => ?_
      show (List.zipWith (· * ·) r _).sum = _
      rw [lp_eq lr hU.m_]
    rw [ee]
    refine el_rng (m := w2) _ (ea_cons (ev_is (ev_len (ev_op (ev_var rfl) ev_c (rv_ixL (SqL.of hU4.tab.1) at0)) (SqL.of hh0)) (by rw [List.length_map, hl0])) ea_nil) (by omega) (fun x => rfl) (fun j H5 e5 hj => ?_)
    have hU5 := hU4.ex e5
    refine ev_sum (el_rng (m := w) _ (ea_cons (ev_is (ev_len (ev_var rfl) (SqL.of hU5.tab.1)) (by rw [List.length_map, hU.al])) ea_nil) (by omega) (fun x => rfl) (fun kk H6 e6 hk => ?_))
    have hU6 := hU5.ex e6
    obtain ⟨b, r', hb', hr', hh, hl'⟩ := hU6.row (i := (kk : Int)) (by omega) (by omega)
    rw [Int.toNat_natCast] at hr'
    have y1 : r[kk]?.getD 0 ∈ r := by
      rw [List.getElem?_eq_getElem (show kk < r.length by omega)]
      exact List.getElem_mem _
    have y2 : r'[j]?.getD 0 ∈ r' := by
      rw [List.getElem?_eq_getElem (show j < r'.length by omega)]
      exact List.getElem_mem _
    rw [hr']
    exact ev_op (ev_op (ev_var rfl) (ev_var rfl) (rv_ixL (SqL.of ((e4.trans (e5.trans e6)) _ _ ha)) (atI_row (by omega)))) (ev_op (ev_op (ev_var rfl) (ev_var rfl) (rv_ixL (SqL.of hU6.tab.1) hb')) (ev_var rfl) (rv_ixL (SqL.of hh) (atI_row (by omega)))) (rv_I ((b1 r hr _ y1).mulOk (b2 r' (List.mem_of_getElem? hr') _ y2)))
-- DEF is_fraction

def sp_is_fraction (K : PySem.W.Frag) : Sp := fun vs H Q _ => ∃ (x : V) (r : Bool), vs = [x] ∧ FracV K H x r ∧ Q (.bl r) H

theorem ok_is_fraction (T : Txt K mg) : FnOk P w K mg base CX0 2 T.f_is_fraction T.fd_is_fraction ["thing"] (sp_is_fraction K) := by
  refine Fun.ok T.F_is_fraction sc_is_fraction (fun vs H Q E h => ?_) (fun cdv A outer s H vs Q E hr h => ?_)
  · obtain ⟨_, _, rfl, _⟩ := h; rfl
  · refine ⟨_, (pss_cons (ps_if (PW.pt (pw_or (pt_not (pt_val (pe_callB (id := "isinstance") (r := rIsi K) call_isi (by rfl) T.n_isinstance (by decide +kernel) (pa_cons (pv 0) (pa_cons (pe_bltn (v := .ty "tuple") (by rfl) T.n_tuple (by decide +kernel) rfl) pa_nil))))) (pw_or1 (pt_cmpR op_ne (pe_callB (id := "len") (r := rLenS K) call_len_seq (by rfl) T.n_len PySem.boot_len (pa_cons (pv 0) pa_nil)) pe_int (nomark _)))))
        (pss_one (ps_ret pe_bl))
        pss_nil)
      (pss_cons (ps_asg (pv 0) (pg_tup rfl (pgs_cons (pg_name (i := 1) sc_is_fraction.nd rfl (by first | exact Or.inl rfl | exact Or.inr rfl)) (pgs_cons (pg_name (i := 2) sc_is_fraction.nd rfl (by first | exact Or.inl rfl | exact Or.inr rfl)) pgs_nil))))
      (pss_cons (ps_if (PW.pt (pw_or (pt_not (pt_val (pe_call (ok_is_whole T) hr (by rfl) T.g_is_whole T.k_is_whole T.b_is_whole .nil pass0 (pa_cons (pv 1) pa_nil)))) (pw_or1 (pt_not (pt_val (pe_call (ok_is_whole T) hr (by rfl) T.g_is_whole T.k_is_whole T.b_is_whole .nil pass0 (pa_cons (pv 2) pa_nil)))))))
        (pss_one (ps_ret pe_bl))
        pss_nil)
      (pss_one (ps_ret (pe_and (pe_cmpR op_ge (pv 2) pe_int (nomark _)) (pe_one (pe_cmpR op_eq (pe_callBfun cr_gcd (by rfl) T.g_gcd (pa_cons (pv 1) (pa_cons (pv 2) pa_nil))) pe_int (nomark _))))))))), ?_⟩
    obtain ⟨x, r, rfl, fv, q⟩ := h
    cases fv with
    | @no x t h k n =>
      refine ⟨x, rfl, x, _, _, _, _, rfl, ClsV.ty _, h, kit_ty (ty_tuple k), _, rfl, ?_⟩
      have e : (t == "tuple") = false := by simpa using n
      rw [e]
      exact iteT q
    | @len p xs e n =>
      refine ⟨.ref p, rfl, .ref p, _, _, _, _, rfl, ClsV.ty _, .base (.tup e), kit_ty (ty_tuple (.inr (.inr (.inr (.inr (.inl rfl)))))), _, rfl, ?_⟩
      refine ⟨.ref p, rfl, p, xs, rfl, .inr (SqT.of e), rfl, _, rfl, ?_⟩
      have e2 : (!decide (V.int (xs.length : Int) = V.int 2)) = true := by
        rw [decide_eq_false (fun z => n (by have := V.int.inj z; omega))]
        rfl
      rw [e2]
      exact iteT q
    | @two p t b e =>
      refine ⟨.ref p, rfl, .ref p, _, _, _, _, rfl, ClsV.ty _, .base (.tup e), kit_ty (ty_tuple (.inr (.inr (.inr (.inr (.inl rfl)))))), _, rfl, ?_⟩
      refine ⟨.ref p, rfl, p, _, rfl, .inr (SqT.of e), rfl, _, rfl, ?_⟩
      refine iteF ?_
      refine ⟨.ref p, rfl, p, _, rfl, SqT.of e, rfl, _, _, rfl, _, _, rfl, rfl, ?_⟩
      refine ⟨_, rfl, _, _, rfl, .base (.int _), .inl rfl, _, rfl, ?_⟩
      refine ⟨_, rfl, _, _, rfl, .base (.int _), .inl rfl, _, rfl, ?_⟩
      refine iteF ?_
      refine ⟨_, rfl, _, _, rfl, rfl, _, rfl, ?_⟩
      by_cases hb : 1 ≤ b
      · rw [decide_eq_true hb] at q ⊢
        refine iteT ?_
        refine ⟨_, rfl, _, rfl, _, _, rfl, rfl, ?_⟩
        have e3 : decide (V.int ((Nat.gcd t.natAbs b.natAbs : Nat) : Int) = V.int 1) = (true && decide (gcdI t b = 1)) := by
          rw [Bool.true_and]
          unfold gcdI
          by_cases g : ((Nat.gcd t.natAbs b.natAbs : Nat) : Int) = 1
          · rw [decide_eq_true g, g]
            exact decide_eq_true rfl
          · rw [decide_eq_false g]
            exact decide_eq_false fun z => g (V.int.inj z)
        rw [e3]
        exact q
      · rw [decide_eq_false hb] at q ⊢
        exact iteF q
    | @odd1 p x y t e h k n =>
      refine ⟨.ref p, rfl, .ref p, _, _, _, _, rfl, ClsV.ty _, .base (.tup e), kit_ty (ty_tuple (.inr (.inr (.inr (.inr (.inl rfl)))))), _, rfl, ?_⟩
      refine ⟨.ref p, rfl, p, _, rfl, .inr (SqT.of e), rfl, _, rfl, ?_⟩
      refine iteF ?_
      refine ⟨.ref p, rfl, p, _, rfl, SqT.of e, rfl, _, _, rfl, _, _, rfl, rfl, ?_⟩
      refine ⟨_, rfl, _, _, rfl, h, k, _, rfl, ?_⟩
      have e2 : (t == "int") = false := by simpa using n
      rw [e2]
      exact iteT q
    | @odd2 p t y u e h k n =>
      refine ⟨.ref p, rfl, .ref p, _, _, _, _, rfl, ClsV.ty _, .base (.tup e), kit_ty (ty_tuple (.inr (.inr (.inr (.inr (.inl rfl)))))), _, rfl, ?_⟩
      refine ⟨.ref p, rfl, p, _, rfl, .inr (SqT.of e), rfl, _, rfl, ?_⟩
      refine iteF ?_
      refine ⟨.ref p, rfl, p, _, rfl, SqT.of e, rfl, _, _, rfl, _, _, rfl, rfl, ?_⟩
      refine ⟨_, rfl, _, _, rfl, .base (.int _), .inl rfl, _, rfl, ?_⟩
      refine ⟨_, rfl, _, _, rfl, h, k, _, rfl, ?_⟩
      have e2 : (u == "int") = false := by simpa using n
      rw [e2]
      exact iteT q
-- DEF fraction

def sp_fraction (K : PySem.W.Frag) : Sp := fun vs H Q _ => ∃ (t b : Int), vs = [.int t, .int b] ∧ b ≠ 0 ∧ Bd 9000 b ∧
  ∀ (p : Addr) (H' : Hp), H p = none → Ex H H' → H' p = some (.tup [.int (t.fdiv (comI t b)), .int (b.fdiv (comI t b))]) → Q (.ref p) H'

theorem ok_fraction (T : Txt K mg) : FnOk P w K mg base CX0 2 T.f_fraction T.fd_fraction ["top", "bottom"] (sp_fraction K) := by
  refine FunD.ok T.F_fraction sc_fraction (fun vs H Q E h => ?_) (fun cdv A outer s H vs Q E hr h => ?_)
  · obtain ⟨_, _, rfl, _⟩ := h; rfl
  · refine ⟨_, (pss_cons (ps_if (PW.pt (pw_or (pt_not (pt_val (pe_call (ok_is_whole T) hr (by rfl) T.g_is_whole T.k_is_whole T.b_is_whole .nil pass0 (pa_cons (pv 0) pa_nil)))) (pw_or1 (pt_not (pt_val (pe_call (ok_is_whole T) hr (by rfl) T.g_is_whole T.k_is_whole T.b_is_whole .nil pass0 (pa_cons (pv 1) pa_nil)))))))
        (pss_one ps_never)
        pss_nil)
      (pss_cons (ps_if (pt_cmpR op_eq (pv 1) pe_int (nomark _))
        (pss_one ps_never)
        pss_nil)
      (pss_cons (ps_set (i := 2) sc_fraction.nd rfl (by first | exact Or.inl rfl | exact Or.inr rfl) (pe_callBfun cr_gcd (by rfl) T.g_gcd (pa_cons (pv 0) (pa_cons (pv 1) pa_nil))))
      (pss_cons (ps_if (pt_cmpR op_lt (pv 1) pe_int (nomark _))
        (pss_one (ps_set (i := 2) sc_fraction.nd rfl (by first | exact Or.inl rfl | exact Or.inr rfl) (pe_un un_neg (pv 2))))
        pss_nil)
      (pss_one (ps_ret (pe_tup (pa_cons (pe_op op_fdivNW (pv 0) (pv 2)) (pa_cons (pe_op op_fdivNW (pv 1) (pv 2)) pa_nil))))))))), ?_⟩
    obtain ⟨t, b, rfl, hb, hbd, q⟩ := h
    refine ⟨_, rfl, _, _, rfl, .base (.int _), .inl rfl, _, rfl, ?_⟩
    refine ⟨_, rfl, _, _, rfl, .base (.int _), .inl rfl, _, rfl, ?_⟩
    refine iteF ?_
    refine ⟨_, rfl, rfl, _, rfl, ?_⟩
    have e1 : decide (V.int b = V.int 0) = false := decide_eq_false fun z => hb (V.int.inj z)
    rw [e1]
    refine iteF ?_
    refine ⟨_, rfl, _, rfl, _, _, rfl, ?_⟩
    refine ⟨_, rfl, _, _, rfl, rfl, _, rfl, ?_⟩
    have fin : ∀ c : Int, c = comI t b → tRet (tTup (tCons (tOp (rI CDivNW fun i j => .int (i.fdiv j)) (tVar 0) (tVar 2)) (tCons (tOp (rI CDivNW fun i j => .int (i.fdiv j)) (tVar 1) (tVar 2)) tNil))) { nx := fun _ H' => Q .non H', rt := Q } [some (.int t), some (.int b), some (.int c)] H := by
      intro c hc
      subst hc
      refine ⟨_, rfl, _, rfl, _, _, rfl, rfl, Bd.divNOk (comI_ne hb) (comI_bd hb hbd), ?_⟩
      refine ⟨_, rfl, _, rfl, _, _, rfl, rfl, Bd.divNOk (comI_ne hb) (comI_bd hb hbd), (by show 2 ≤ sizeLine; decide), fun p hp => ?_⟩
      exact q p _ hp (Ex.new hp) upd_same
    by_cases hn : b < 0
    · rw [decide_eq_true hn]
      refine iteT ?_
      refine ⟨_, rfl, _, rfl, ?_⟩
      exact fin _ (by unfold comI; rw [if_pos hn]; rfl)
    · rw [decide_eq_false hn]
      refine iteF ?_
      exact fin _ (by unfold comI; rw [if_neg hn]; rfl)
-- DEF _law_sum

def sp__law_sum (K : PySem.W.Frag) : Sp := fun vs H Q _ => ∃ (p : Addr) (bs : List Addr) (qs : List Rat), vs = [.ref p] ∧ FrL H p bs qs ∧ qs.length ≤ 8 ∧ (∀ q ∈ qs, BdQ 3510 810 q) ∧ ∀ t H', H t = none → Ex H H' → H' t = some (.tup (frV (qs.foldl (· + ·) 0))) → Q (.ref t) H'

theorem ok__law_sum (T : Txt K mg) : FnOk P w K mg base CX0 2 T.f__law_sum T.fd__law_sum ["_law_values_here"] (sp__law_sum K) := by
  refine Fun.ok T.F__law_sum sc__law_sum (fun vs H Q E h => ?_) (fun cdv A outer s H vs Q E hr h => ?_)
  · obtain ⟨_, _, _, rfl, _⟩ := h; rfl
  · refine ⟨_, (pss_cons (ps_asg (pe_tup (pa_cons pe_int (pa_cons pe_int pa_nil))) (pg_tup rfl (pgs_cons (pg_name (i := 1) sc__law_sum.nd rfl (by first | exact Or.inl rfl | exact Or.inr rfl)) (pgs_cons (pg_name (i := 2) sc__law_sum.nd rfl (by first | exact Or.inl rfl | exact Or.inr rfl)) pgs_nil))))
      (pss_cons (ps_for PassesOwn.never rfl (pi_list (pv 0)) (pg_tup rfl (pgs_cons (pg_name (i := 3) sc__law_sum.nd rfl (by first | exact Or.inl rfl | exact Or.inr rfl)) (pgs_cons (pg_name (i := 4) sc__law_sum.nd rfl (by first | exact Or.inl rfl | exact Or.inr rfl)) pgs_nil)))
        (pss_one (ps_asg (pe_call (ok__law_low T) hr (by rfl) T.g__law_low T.k__law_low T.b__law_low .nil pass0 (pa_cons (pe_op op_add (pe_op op_mulW (pv 1) (pv 4)) (pe_op op_mulW (pv 3) (pv 2))) (pa_cons (pe_op op_mulW (pv 2) (pv 4)) pa_nil))) (pg_tup rfl (pgs_cons (pg_name (i := 1) sc__law_sum.nd rfl (by first | exact Or.inl rfl | exact Or.inr rfl)) (pgs_cons (pg_name (i := 2) sc__law_sum.nd rfl (by first | exact Or.inl rfl | exact Or.inr rfl)) pgs_nil))))))
      (pss_one (ps_ret (pe_tup (pa_cons (pv 1) (pa_cons (pv 2) pa_nil))))))), ?_⟩
    obtain ⟨p, bs, qs, rfl, hF, h8, bq, k⟩ := h
    refine ⟨(by show 2 ≤ sizeLine; decide), fun t0 nt0 => ⟨t0, _, rfl, SqT.of upd_same, rfl, _, _, rfl, _, _, rfl, rfl, ?_⟩⟩
    have x0 := Ex.new (o := .tup [V.int 0, .int 1]) nt0
    refine ⟨_, rfl, p, rfl, ⟨_, SqL.of (x0 _ _ hF.1)⟩, for_list (K := K) (a := p) (xs := bs.map V.ref) (fun i σ H' => ∃ (y3 y4 : Option V), σ = [some (.ref p), some (.int (psum qs i).num), some (.int ((psum qs i).den : Int)), y3, y4] ∧ Ex H H') ⟨_, _, rfl, x0⟩ (fun i σ H' _ ⟨_, _, _, e⟩ => SqL.of (e _ _ hF.1)) ?_ ?_⟩
    · rintro i x σ H2 hx ⟨y3, y4, rfl, e2⟩
      rw [List.getElem?_map] at hx
      obtain ⟨c, hc, rfl⟩ := Option.map_eq_some_iff.mp hx
      obtain ⟨q, hq, hcq⟩ := paired_get hF.2 hc
      have hi : i < 8 := by
        have := (List.getElem?_eq_some_iff.mp hq).1
        omega
      have pb := psum_bd bq i
      have bt := bq q (List.mem_of_getElem? hq)
      have m1 : Bd 100000 (psum qs i).num := pb.1.mono (by omega)
      have m2 : Bd 100000 ((psum qs i).den : Int) := pb.2.mono (by omega)
      have m3 : Bd 100000 q.num := bt.1.mono (by decide)
      have m4 : Bd 100000 (q.den : Int) := bt.2.mono (by decide)
      refine ⟨c, _, rfl, SqT.of (e2 _ _ hcq), rfl, _, _, rfl, _, _, rfl, rfl, ?_⟩
      refine ⟨_, rfl, _, rfl, _, _, rfl, rfl, m1.mulOk m4, _, rfl, _, rfl, _, _, rfl, rfl, m3.mulOk m2, _, _, rfl, rfl, ?_⟩
      refine ⟨_, rfl, _, rfl, _, _, rfl, rfl, m2.mulOk m4, ?_⟩
      refine ⟨_, _, rfl, den_pos _ _, (pb.2.mul bt.2).mono (by omega), fun t H3 nt e3 ht => ?_⟩
      rw [fr_low (den_pos _ _), fr_plus] at ht
      refine ⟨t, _, rfl, SqT.of ht, rfl, _, _, rfl, _, _, rfl, rfl, ?_⟩
      refine ⟨some (.int q.num), some (.int (q.den : Int)), ?_, e2.trans e3⟩
      rw [psum_succ hq]
      rfl
    · rintro σ H2 ⟨y3, y4, rfl, e2⟩
      rw [List.length_map, psum_all (by rw [Paired.length hF.2]; exact Nat.le_refl _)]
      exact s_retU (eu_tup (ea_cons (ev_var rfl) (ea_cons (ev_var rfl) ea_nil)) (Nat.le_of_ble_eq_true rfl)) fun t H3 nt e3 ht => k t H3 (fresh_back e2 nt) (e2.trans e3) ht
-- DEF _law_values

theorem ten30 : (10 : Int) ^ (30 : Int).toNat < 1267650600228229401496703205376 := by decide +kernel
theorem bd_ten {n : Nat} {i : Int} (h : i.natAbs < 1267650600228229401496703205376) (hn : 100 ≤ n := by decide) : Bd n i := Nat.lt_of_lt_of_le (show i.natAbs < 2 ^ 100 from h) (Nat.pow_le_pow_right (by decide) hn)
def sp__law_values (K : PySem.W.Frag) : Sp := fun vs H Q _ => ∃ (s : Addr) (n : Int) (m : Nat), vs = [.ref s, .int m] ∧ SrcAt H s n ∧ n ≤ 400000000 ∧ m ≤ 8 ∧
  ∀ p bs qs H', H p = none → ExB s H H' → SrcAt H' s (n + 30) → FrL H' p bs qs → qs.length = m → (∀ q ∈ qs, BdQ 101 101 q) → Q (.ref p) H'

theorem ok__law_values (T : Txt K mg) : FnOk P w K mg base CX0 2 T.f__law_values T.fd__law_values ["_law_source", "_law_many"] (sp__law_values K) := by
  refine Fun.ok T.F__law_values sc__law_values (fun vs H Q E h => ?_) (fun cdv A outer s H vs Q E hr h => ?_)
  · obtain ⟨_, _, _, rfl, _⟩ := h; rfl
  · refine ⟨_, (pss_cons (ps_set (i := 2) sc__law_values.nd rfl (by first | exact Or.inl rfl | exact Or.inr rfl) (pe_lst pa_nil))
      (pss_cons (ps_for PassesOwn.never rfl (pi_range1 (by rfl) T.n_range (pa_cons (pv 1) pa_nil)) (pg_name (i := 3) sc__law_values.nd rfl (by first | exact Or.inl rfl | exact Or.inr rfl))
        (pss_cut (ps_set (i := 4) sc__law_values.nd rfl (by first | exact Or.inl rfl | exact Or.inr rfl) (pe_ix (r := rIxL K) ix_list (pe_lst (pa_cons pe_int (pa_cons (pe_op op_pow pe_int pe_int) (pa_cons (pe_op op_pow pe_int pe_int) pa_nil)))) (pe_call (ok__law_next T) hr (by rfl) T.g__law_next T.k__law_next T.b__law_next .nil pass0 (pa_cons (pv 0) (pa_cons pe_int pa_nil))) (fun _ _ => rfl)))
          (pss_one (ps_expr (pe_bm PySem.F.plainAttrs_list PySem.F.slot_list_append PySem.F.type_list_append mt_append (pv 2) (pa_cons (pe_call (ok__law_low T) hr (by rfl) T.g__law_low T.k__law_low T.b__law_low .nil pass0 (pa_cons (pe_op op_sub (pe_call (ok__law_next T) hr (by rfl) T.g__law_next T.k__law_next T.b__law_next .nil pass0 (pa_cons (pv 0) (pa_cons (pe_op op_mulW pe_int (pv 4)) pa_nil))) (pv 4)) (pa_cons (pe_op op_add pe_int (pe_call (ok__law_next T) hr (by rfl) T.g__law_next T.k__law_next T.b__law_next .nil pass0 (pa_cons (pv 0) (pa_cons (pv 4) pa_nil)))) pa_nil))) pa_nil))))))
      (pss_one (ps_ret (pv 2))))), ?_⟩
    obtain ⟨s, n, m, rfl, hs, hn, hm8, k⟩ := h
    refine ⟨Nat.zero_le _, fun p np => ?_⟩
    have x0 : Ex H (upd H p (.lst [])) := Ex.new np
    have nps := hs.ne np
    refine ⟨_, rfl, _, rfl, by omega, by omega, for_range (lo := 0) (n := (m : Int).toNat) (fun i σ H' => ∃ (y3 y4 : Option V) (bs : List Addr) (qs : List Rat), σ = [some (.ref s), some (.int m), some (.ref p), y3, y4] ∧ qs.length = i ∧ FrL H' p bs qs ∧ ExB s H H' ∧ SrcAt H' s (n + 3 * i) ∧ (∀ q ∈ qs, BdQ 101 101 q)) ⟨_, _, [], [], rfl, rfl, ⟨upd_same, .nil⟩, ExB.of x0, (hs.ex x0).le (by omega), fun q hq => by simp at hq⟩ ?_ ?_⟩
    · rintro i σ H2 hi ⟨y3, y4, bs, qs, rfl, hl, hF, e2, s2, hb⟩
      refine ⟨fun σ' H' => ∃ g : Int, σ' = [some (.ref s), some (.int m), some (.ref p), some (.int (0 + (i : Int))), some (.int g)] ∧ 1 ≤ g ∧ g < 1267650600228229401496703205376 ∧ ExB s H2 H' ∧ SrcAt H' s (n + 3 * i + 1), ?_, ?_⟩
      · refine ⟨_, _, rfl, rfl, ⟨by decide, by decide, by decide⟩, _, _, rfl, rfl, ⟨by decide, by decide, by decide⟩, (by show 3 ≤ sizeLine; decide), fun L nL => ?_⟩
        have xL := Ex.new (o := .lst [V.int 5, .int (10 ^ (9 : Int).toNat), .int (10 ^ (30 : Int).toNat)]) nL
        have Ls := s2.ne nL
        refine ⟨_, rfl, s, 3, _, rfl, s2.ex xL, by omega, by decide, (by unfold Bd; decide +kernel), fun f H3 f0 f1 e3 s3 => ?_⟩
        have hL := e3 _ _ Ls (upd_same (H := H2) (a := L) (o := .lst [V.int 5, .int (10 ^ (9 : Int).toNat), .int (10 ^ (30 : Int).toNat)]))
        have hf : f = 0 ∨ f = 1 ∨ f = 2 := by omega
        have e23 := (ExB.of xL).trans e3
        rcases hf with rfl | rfl | rfl
        · exact ⟨L, _, _, _, rfl, rfl, SqL.of hL, rfl, 5, rfl, by decide, by decide, e23, s3⟩
        · exact ⟨L, _, _, _, rfl, rfl, SqL.of hL, rfl, _, rfl, by decide +kernel, by decide +kernel, e23, s3⟩
        · exact ⟨L, _, _, _, rfl, rfl, SqL.of hL, rfl, _, rfl, by decide +kernel, ten30, e23, s3⟩
      · rintro σ' H3 ⟨g, rfl, g1, g2, e3, s3⟩
        have h3 := e3 _ _ nps hF.1
        have bg : Bd 100 g := bd_ten (by omega)
        refine ⟨_, rfl, .inl ⟨rfl, _, SqL.of h3⟩, ?_⟩
        refine ⟨_, rfl, _, rfl, _, _, rfl, rfl, (show Bd 2 2 by unfold Bd; decide).mulOk bg, ?_⟩
        refine ⟨s, _, _, rfl, s3, by omega, by omega, ((show Bd 2 2 by unfold Bd; decide).mul bg).mono (by decide), fun f H4 f0 f1 e4 s4 => ?_⟩
        refine ⟨_, rfl, _, _, rfl, rfl, ?_⟩
        refine ⟨_, rfl, _, rfl, s, _, _, rfl, s4, by omega, by omega, bg.mono (by decide), fun f2 H5 f3 f4 e5 s5 => ?_⟩
        refine ⟨_, _, rfl, rfl, ?_⟩
        refine ⟨_, _, rfl, by omega, bd_ten (by omega), fun t H6 nt e6 ht => ?_⟩
        rw [fr_low (by omega)] at ht
        have e36 : ExB s H3 H6 := (e4.trans e5).trans (ExB.of e6)
        have h6 := e36 _ _ nps h3
        refine ⟨p, _, _, rfl, rfl, h6, small1000 (by rw [List.length_map, Paired.length hF.2]; omega), _, _, bs ++ [t], qs ++ [mkRat (f - g) (1 + f2).toNat], rfl, by rw [List.length_append, hl]; rfl, ⟨by rw [upd_same, List.map_append]; rfl, ?_⟩, ?_, ?_, ?_⟩
        · refine paired_imp (fun c d h => tups_U h6 _ _ h) (paired_snoc (paired_imp (fun c d h => ?_) hF.2) ht)
          exact tups_E e6 _ _ (tups_B s4 e5 _ _ (tups_B s3 e4 _ _ (tups_B s2 e3 _ _ h)))
        · refine fun c o nc h => ?_
          rw [upd_ne (ne_of_none h np)]
          exact e36 _ _ nc (e3 _ _ nc (e2 _ _ nc h))
        · obtain ⟨a1, a2, a3, a4, a5, a6, a7, a8⟩ := s5.ex e6
          exact ⟨a1, a2, a3, by rw [upd_ne nps.symm]; exact a4, a5, a6, a7, by omega⟩
        · intro q hq
          rcases List.mem_append.mp hq with h | h
          · exact hb q h
          · rw [List.mem_singleton.mp h]
            refine mk_bd (by omega) (bd_ten (by omega)) ?_
            rw [Int.toNat_of_nonneg (by omega)]
            exact bd_ten (by omega)
    · rintro σ H2 ⟨y3, y4, bs, qs, rfl, hl, hF, e2, s2, hb⟩
      exact ⟨_, rfl, k p bs qs H2 np e2 (s2.le (by omega)) hF (by omega) hb⟩
-- DEF plus

def sp_plus (K : PySem.W.Frag) : Sp := fun vs H Q _ => ∃ (p q : Addr) (x y : Rat), vs = [.ref p, .ref q] ∧ H p = some (.tup (frV x)) ∧ H q = some (.tup (frV y)) ∧ Bd 100000 x.num ∧ Bd 100000 (x.den : Int) ∧ Bd 100000 y.num ∧ Bd 100000 (y.den : Int) ∧ Bd 9000 ((x.den : Int) * (y.den : Int)) ∧
  ∀ (r : Addr) (H' : Hp), H r = none → Ex H H' → H' r = some (.tup (frV (x + y))) → Q (.ref r) H'

theorem ok_plus (T : Txt K mg) : FnOk P w K mg base CX0 3 T.f_plus T.fd_plus ["one", "other"] (sp_plus K) := by
  refine Fun.ok T.F_plus sc_plus (fun vs H Q E h => ?_) (fun cdv A outer s H vs Q E hr h => ?_)
  · obtain ⟨_, _, _, _, rfl, _⟩ := h; rfl
  · refine ⟨_, (pss_one (ps_ret (pe_call (ok_fraction T) hr (by rfl) T.g_fraction T.k_fraction T.b_fraction .nil pass0 (pa_cons (pe_op op_add (pe_op op_mulW (pe_ix (r := rIxT K) ix_tup (pv 0) pe_int (fun _ _ => rfl)) (pe_ix (r := rIxT K) ix_tup (pv 1) pe_int (fun _ _ => rfl))) (pe_op op_mulW (pe_ix (r := rIxT K) ix_tup (pv 1) pe_int (fun _ _ => rfl)) (pe_ix (r := rIxT K) ix_tup (pv 0) pe_int (fun _ _ => rfl)))) (pa_cons (pe_op op_mulW (pe_ix (r := rIxT K) ix_tup (pv 0) pe_int (fun _ _ => rfl)) (pe_ix (r := rIxT K) ix_tup (pv 1) pe_int (fun _ _ => rfl))) pa_nil))))), ?_⟩
    obtain ⟨p, q, x, y, rfl, hp, hq, ba, bb, bc, bd, bz, k⟩ := h
    unfold frV at hp hq
    refine ⟨_, rfl, p, _, _, _, rfl, rfl, SqT.of hp, rfl, _, rfl, q, _, _, _, rfl, rfl, SqT.of hq, rfl, _, _, rfl, rfl, ba.mulOk bd, ?_⟩
    
    refine ⟨_, rfl, q, _, _, _, rfl, rfl, SqT.of hq, rfl, _, rfl, p, _, _, _, rfl, rfl, SqT.of hp, rfl, _, _, rfl, rfl, bc.mulOk bb, _, _, rfl, rfl, ?_⟩
    refine ⟨_, rfl, p, _, _, _, rfl, rfl, SqT.of hp, rfl, _, rfl, q, _, _, _, rfl, rfl, SqT.of hq, rfl, _, _, rfl, rfl, bb.mulOk bd, ?_⟩
    refine ⟨_, _, rfl, den_ne x y, bz, fun r H' nr e hr => k r H' nr e ?_⟩
    rw [hr, fr_com (den_pos x y), fr_plus]
-- DEF times

def sp_times (K : PySem.W.Frag) : Sp := fun vs H Q _ => ∃ (p q : Addr) (x y : Rat), vs = [.ref p, .ref q] ∧ H p = some (.tup (frV x)) ∧ H q = some (.tup (frV y)) ∧ Bd 100000 x.num ∧ Bd 100000 (x.den : Int) ∧ Bd 100000 y.num ∧ Bd 100000 (y.den : Int) ∧ Bd 9000 ((x.den : Int) * (y.den : Int)) ∧
  ∀ (r : Addr) (H' : Hp), H r = none → Ex H H' → H' r = some (.tup (frV (x * y))) → Q (.ref r) H'

theorem ok_times (T : Txt K mg) : FnOk P w K mg base CX0 3 T.f_times T.fd_times ["one", "other"] (sp_times K) := by
  refine Fun.ok T.F_times sc_times (fun vs H Q E h => ?_) (fun cdv A outer s H vs Q E hr h => ?_)
  · obtain ⟨_, _, _, _, rfl, _⟩ := h; rfl
  · refine ⟨_, (pss_one (ps_ret (pe_call (ok_fraction T) hr (by rfl) T.g_fraction T.k_fraction T.b_fraction .nil pass0 (pa_cons (pe_op op_mulW (pe_ix (r := rIxT K) ix_tup (pv 0) pe_int (fun _ _ => rfl)) (pe_ix (r := rIxT K) ix_tup (pv 1) pe_int (fun _ _ => rfl))) (pa_cons (pe_op op_mulW (pe_ix (r := rIxT K) ix_tup (pv 0) pe_int (fun _ _ => rfl)) (pe_ix (r := rIxT K) ix_tup (pv 1) pe_int (fun _ _ => rfl))) pa_nil))))), ?_⟩
    obtain ⟨p, q, x, y, rfl, hp, hq, ba, bb, bc, bd, bz, k⟩ := h
    unfold frV at hp hq
    refine ⟨_, rfl, p, _, _, _, rfl, rfl, SqT.of hp, rfl, _, rfl, q, _, _, _, rfl, rfl, SqT.of hq, rfl, _, _, rfl, rfl, ba.mulOk bc, ?_⟩
    refine ⟨_, rfl, p, _, _, _, rfl, rfl, SqT.of hp, rfl, _, rfl, q, _, _, _, rfl, rfl, SqT.of hq, rfl, _, _, rfl, rfl, bb.mulOk bd, ?_⟩
    refine ⟨_, _, rfl, den_ne x y, bz, fun r H' nr e hr => k r H' nr e ?_⟩
    rw [hr, fr_com (den_pos x y), fr_mul]
-- DEF is_fractions

def sp_is_fractions (K : PySem.W.Frag) : Sp := fun vs H Q _ => ∃ (s : Addr) (v : V) (n : Int) (p : Option (List Bool)), vs = [v, .int n] ∧ XsAt K s H v p ∧ ∀ H', Ex H H' → Q (.bl (isFr p n)) H'

theorem ok_is_fractions (T : Txt K mg) : FnOk P w K mg base CX0 3 T.f_is_fractions T.fd_is_fractions ["thing", "many"] (sp_is_fractions K) := by
  refine Fun.ok T.F_is_fractions sc_is_fractions (fun vs H Q E h => ?_) (fun cdv A outer s H vs Q E hr h => ?_)
  · obtain ⟨_, _, _, _, rfl, _⟩ := h; rfl
  · refine ⟨_, (pss_one (ps_ret (pe_and (pe_call (ok_is_long T) (hr.mono (by decide)) (by rfl) T.g_is_long T.k_is_long T.b_is_long .nil pass0 (pa_cons (pv 0) (pa_cons (pv 1) pa_nil))) (pe_one (pe_callB (id := "all") (r := rAll K) (cr_all rfl) (by rfl) T.n_all (by decide +kernel) (pa_cons (pe_lc (own := [("value", 2)]) (wi := iList K _) (g := gName 2) (tt := tYes) rfl sc_is_fractions.nd (pi_list (pv 0)) (blkOk_by (N := ["thing", "many", "value"]) (sc := (defScope s_is_fractions)) (by decide +kernel)) (fun _ _ _ _ _ => pg_name (i := 2) sc_is_fractions.nd rfl (Or.inl rfl)) (fun _ _ _ _ _ => pts_nil) (fun _ _ _ _ _ => (pe_call (ok_is_fraction T) hr (by rfl) T.g_is_fraction T.k_is_fraction T.b_is_fraction .nil pass0 (pa_cons (pv 2) pa_nil)))) pa_nil)))))), ?_⟩
    obtain ⟨s, v, n, p, rfl, hp, k⟩ := h
    have lg : Ev (tCall (sp_is_long K) [] E (tCons (tVar 0) (tCons (tVar 1) tNil))) [some v, some (.int n), none] H (.bl (longB p n)) := ev_fn (ea_cons (ev_var rfl) (ea_cons (ev_var rfl) ea_nil)) fun H3 e3 Q3 q3 => ⟨s, v, n, p, rfl, hp.kp (.of e3), q3⟩
    cases hp with
    | oth hk nl => exact s_ret (v := .bl false) (ev_andV (a := false) (b := false) lg (fun z => nomatch z)) fun H' e => k H' e
    | lst ha na hl hi =>
      rename_i a xs rs
      refine s_ret (v := .bl (decide ((rs.length : Int) = n) && rs.all id)) (ev_andV lg (fun _ => ev_allB (el_bools (K := K) (a := a) (bs := rs) rfl ha (by omega) (Paired.length hi) (fun i x r H' hx hr e => ?_) (fun x => rfl)))) fun H' e => k H' e
      obtain ⟨r', hr', fk⟩ := paired_get hi hx
      rw [hr] at hr'
      cases hr'
      exact ev_fn (ea_cons (ev_var rfl) ea_nil) fun H3 e3 Q3 q3 => ⟨x, r, rfl, fk _ (.of (e.trans e3)), q3 H3 (Ex.refl _)⟩
-- DEF row_sum

def sp_row_sum (K : PySem.W.Frag) : Sp := fun vs H Q _ => ∃ (a b : Addr) (bs : List Addr) (ns : List Int) (qs : List Rat), vs = [.ref a, .ref b] ∧ H a = some (.lst (ns.map V.int)) ∧ FrL H b bs qs ∧ ns.length = qs.length ∧ qs.length ≤ 8 ∧ (∀ y ∈ ns, Bd 210 y) ∧ (∀ q ∈ qs, BdQ 3300 810 q) ∧
  ∀ t H', Ex H H' → H' t = some (.tup (frV (fsum ns qs))) → Q (.ref t) H'

theorem ok_row_sum (T : Txt K mg) : FnOk P w K mg base CX0 4 T.f_row_sum T.fd_row_sum ["row", "xs"] (sp_row_sum K) := by
  refine Fun.ok T.F_row_sum sc_row_sum (fun vs H Q E h => ?_) (fun cdv A outer s H vs Q E hr h => ?_)
  · obtain ⟨_, _, _, _, _, rfl, _⟩ := h; rfl
  · refine ⟨_, (pss_cons (ps_set (i := 2) sc_row_sum.nd rfl (by first | exact Or.inl rfl | exact Or.inr rfl) (pe_call (ok_fraction T) (hr.mono (by decide)) (by rfl) T.g_fraction T.k_fraction T.b_fraction_1.2 T.b_fraction_1.1 pass0 (pa_cons pe_int pa_nil)))
      (pss_cons (ps_for PassesOwn.never rfl (pi_zip (by rfl) T.n_zip (pa_cons (pv 0) (pa_cons (pv 1) pa_nil))) (pg_tup rfl (pgs_cons (pg_name (i := 3) sc_row_sum.nd rfl (by first | exact Or.inl rfl | exact Or.inr rfl)) (pgs_cons (pg_name (i := 4) sc_row_sum.nd rfl (by first | exact Or.inl rfl | exact Or.inr rfl)) pgs_nil)))
        (pss_one (ps_set (i := 2) sc_row_sum.nd rfl (by first | exact Or.inl rfl | exact Or.inr rfl) (pe_call (ok_plus T) hr (by rfl) T.g_plus T.k_plus T.b_plus .nil pass0 (pa_cons (pv 2) (pa_cons (pe_call (ok_times T) hr (by rfl) T.g_times T.k_times T.b_times .nil pass0 (pa_cons (pe_call (ok_fraction T) (hr.mono (by decide)) (by rfl) T.g_fraction T.k_fraction T.b_fraction_1.2 T.b_fraction_1.1 pass0 (pa_cons (pv 3) pa_nil)) (pa_cons (pv 4) pa_nil))) pa_nil))))))
      (pss_one (ps_ret (pv 2))))), ?_⟩
    obtain ⟨a, b, bs, ns, qs, rfl, ha, hb, hl, h8, bn, bq, k⟩ := h
    have eb : bs.length = qs.length := Paired.length hb.2
    refine ⟨_, _, rfl, by decide, by unfold Bd; decide +kernel, fun t0 H1 nt0 e1 ht0 => ?_⟩
    rw [fr_com (by decide)] at ht0
    have e0 : mkRat 0 (1 : Int).toNat = 0 := by decide +kernel
    rw [e0] at ht0
    refine ⟨_, rfl, _, rfl, a, b, _, _, rfl, SqL.of (e1 _ _ ha), SqL.of (e1 _ _ hb.1), ?_⟩
    refine RZ.for_zipL (K := K) (xs := ns.map V.int) (ys := bs.map V.ref) (by rw [List.length_map, List.length_map, eb, hl]) (fun i σ H' => ∃ (t : Addr) (y3 y4 : Option V), σ = [some (.ref a), some (.ref b), some (.ref t), y3, y4] ∧ Ex H H' ∧ H' t = some (.tup (frV (psum (terms ns qs) i)))) ⟨t0, _, _, rfl, e1, ht0⟩ (fun i σ H' ⟨_, _, _, _, e, _⟩ => ⟨SqL.of (e _ _ ha), SqL.of (e _ _ hb.1)⟩) ?_ ?_
    · rintro i x y T σ H2 hx hy ⟨t, y3, y4, rfl, e2, ht⟩ nT
      rw [List.getElem?_map] at hx hy
      obtain ⟨n, hn, rfl⟩ := Option.map_eq_some_iff.mp hx
      obtain ⟨c, hc, rfl⟩ := Option.map_eq_some_iff.mp hy
      obtain ⟨q, hq, hcq⟩ := paired_get hb.2 hc
      have xT : Ex H2 (upd H2 T (.tup [.int n, .ref c])) := Ex.new nT
      have hi : i < 8 := by
        have := (List.getElem?_eq_some_iff.mp hq).1
        omega
      have b1 := bn n (List.mem_of_getElem? hn)
      have b2 := bq q (List.mem_of_getElem? hq)
      refine ⟨T, _, rfl, SqT.of upd_same, rfl, _, _, rfl, _, _, rfl, rfl, ?_⟩
      -- fraction(entry)
      refine ⟨_, rfl, _, rfl, _, _, rfl, by decide, by unfold Bd; decide +kernel, fun f H3 nf e3 hf => ?_⟩
      rw [fr_com (by decide)] at hf
      refine ⟨_, rfl, f, c, mkRat n 1, q, rfl, hf, (e2.trans (xT.trans e3)) _ _ hcq, ?_, ?_, b2.1.mono (by decide), b2.2.mono (by decide), ?_, fun r H4 nr e4 hr => ?_⟩
      · rw [num_one]
        exact b1.mono (by decide)
      · rw [den_one]
        unfold Bd; decide +kernel
      · rw [den_one]
        exact (show Bd 810 ((1 : Int) * (q.den : Int)) by rw [Int.one_mul]; exact b2.2).mono (by decide)
      have ht4 : H4 t = some (.tup (frV (psum (terms ns qs) i))) := (xT.trans (e3.trans e4)) _ _ ht
      have tb := terms_bd (n := 210) (m := 3300) (d := 810) bn bq
      have pb := psum_bd tb i
      have bt : BdQ (210 + 3300) 810 (mkRat n 1 * q) := times_bd b1 b2
      refine ⟨t, r, _, _, rfl, ht4, hr, pb.1.mono (by omega), pb.2.mono (by omega), bt.1.mono (by decide), bt.2.mono (by decide), (pb.2.mul bt.2).mono (by omega), fun u H5 nu e5 hu => ⟨u, _, _, rfl, e2.trans (xT.trans (e3.trans (e4.trans e5))), ?_⟩⟩
      rw [hu, psum_succ (terms_at hn hq)]
    · rintro σ H2 ⟨t, y3, y4, rfl, e2, ht⟩
      rw [List.length_map, psum_all (by unfold terms; rw [List.length_zipWith]; omega)] at ht
      exact ⟨_, rfl, k t H2 e2 ht⟩
-- DEF led

def sp_led (K : PySem.W.Frag) (C : Addr) : Sp := fun vs H Q E => ∃ (s p : Addr) (v : V) (as : List Addr) (rows : List (List Int)) (m w : Nat) (pr : Option (List Bool)), vs = [.ref p, v] ∧ TabOk H p as rows m w ∧ XsAt K s H v pr ∧
  ((isFr pr (w : Int) = false ∧ RaiseNF C H E) ∨ (isFr pr (w : Int) = true ∧ ∃ b bs qs, v = .ref b ∧ FrL H b bs qs ∧ qs.length = w ∧ (∀ r ∈ rows, ∀ y ∈ r, Bd 210 y) ∧ (∀ q ∈ qs, BdQ 3300 810 q) ∧ ∀ c cs H', H c = none → Ex H H' → FrL H' c cs (rows.map fun r => fsum r qs) → Q (.ref c) H'))

theorem ok_led (T : Txt K mg) : FnOk P w K mg base (L2.CX P w) 5 T.f_led T.fd_led ["table", "xs"] (sp_led K T.f_NoFit) := by
  refine Fun.okX T.F_led sc_led (fun vs H Q E h => ?_) (fun cdv A outer s H vs Q E hr h => ?_)
  · obtain ⟨_, _, _, _, _, _, _, _, rfl, _⟩ := h; rfl
  · refine ⟨_, (pss_cons (ps_expr (pe_call (ok_check_table T) hr (by rfl) T.g_check_table T.k_check_table T.b_check_table .nil pass0 (pa_cons (pv 0) pa_nil)))
      (pss_cons (ps_if (pt_not (pt_val (pe_call (ok_is_fractions T) (hr.mono (by decide)) (by rfl) T.g_is_fractions T.k_is_fractions T.b_is_fractions .nil pass0 (pa_cons (pv 1) (pa_cons (pe_callB (id := "len") (r := rLenS K) call_len_seq (by rfl) T.n_len PySem.boot_len (pa_cons (pe_ix (r := rIxL K) ix_list (pv 0) pe_int (fun _ _ => rfl)) pa_nil)) pa_nil)))))
        (pss_one (ps_raise rfl (takes_of rfl rfl rfl rfl) (pmk_own PySem.F.excBase_ArithmeticError T.x_NoFit T.g_NoFit T.k_NoFit (raises_own T.ex_NoFit T.tx_NoFit) (by rfl))))
        pss_nil)
      (pss_one (ps_ret (pe_lc (own := [("row", 2)]) (wi := iList K _) (g := gName 2) (tt := tYes) rfl sc_led.nd (pi_list (pv 0)) (blkOk_by (N := ["table", "xs", "row"]) (sc := (defScope s_led)) (by decide +kernel)) (fun _ _ _ _ _ => pg_name (i := 2) sc_led.nd rfl (Or.inl rfl)) (fun _ _ _ _ _ => pts_nil) (fun _ _ _ _ _ => (pe_call (ok_row_sum T) hr (by rfl) T.g_row_sum T.k_row_sum T.b_row_sum .nil pass0 (pa_cons (pv 2) (pa_cons (pv 1) pa_nil))))))))), ?_⟩
    obtain ⟨s, p, v, as, rows, m, w, pr, rfl, hT, hx, k⟩ := h
    refine ⟨_, rfl, p, as, rows, m, w, rfl, hT, fun H1 e1 => ?_⟩
    have hT1 := hT.ex e1
    have hb := hT.b
    obtain ⟨a0, r0, _, _, hh0, hl0, at0⟩ := hT1.row0
    have cond : ∀ b, isFr pr (w : Int) = b → EvT (tNot (tB (tCall (sp_is_fractions K) [] E0 (tCons (tVar 1) (tCons (tCB (rLenS K) (tCons (tOp (rIxL K) (tVar 0) (tC (.int 0))) tNil)) tNil))))) [some (.ref p), some v, none] H1 (!b) := fun b hb => et_not (et_B (ev_fn (ea_cons (ev_var rfl) (ea_cons (ev_is (ev_len (ev_op (ev_var rfl) ev_c (rv_ixL (SqL.of hT1.tab.1) at0)) (SqL.of hh0)) (by rw [List.length_map, hl0])) ea_nil)) fun H3 e3 Q3 q3 => ⟨s, v, w, pr, rfl, hx.kp (.of (e1.trans e3)), fun H4 e4 => by rw [hb]; exact q3 H4 e4⟩))
    dsimp only
    rcases k with ⟨hf, k⟩ | ⟨hf, b, bs, qs, rfl, hF, hq, bn, bq, k⟩
    · exact q_when (σ := [some (.ref p), some v, none]) (H := H1) (b := true) (cond false hf) (fun _ H2 e2 => k H2 (e1.trans e2)) (fun z => nomatch z)
    · refine q_when (σ := [some (.ref p), some (.ref b), none]) (H := H1) (b := false) (cond true hf) (fun z => nomatch z) (fun _ H2 e2 => ?_)
      refine lf_rows (K := K) (F := fun r => fsum r qs) rfl (hT1.ex e2).tab (by rw [hT.m_]; omega) (fun u => rfl) (fun c r H3 hr hc e3 H4 e4 Q4 q4 => ?_) (fun c cs H3 nc e3 hF3 => k c cs H3 (fresh_back (e1.trans e2) nc) ((e1.trans e2).trans e3) hF3)
      have e5 := e3.trans e4
      exact ⟨_, rfl, _, rfl, c, b, bs, r, qs, rfl, e5 _ _ hc, hF.ex ((e1.trans e2).trans e5), by rw [hT.w_ r hr, hq], by omega, bn r hr, bq, q4⟩
-- DEF product

def sp_product (K : PySem.W.Frag) (C : Addr) : Sp := fun vs H Q E => ∃ (p q : Addr) (as bs : List Addr) (r1 r2 : List (List Int)) (m w m2 w2 : Nat), vs = [.ref p, .ref q] ∧ TabOk H p as r1 m w ∧ TabOk H q bs r2 m2 w2 ∧ (∀ r ∈ r1, ∀ y ∈ r, Bd 1000 y) ∧ (∀ r ∈ r2, ∀ y ∈ r, Bd 1000 y) ∧
  ((w ≠ m2 ∧ RaiseNF C H E) ∨ (w = m2 ∧ ∀ c cs H', H c = none → (∀ a ∈ cs, H a = none) → cs.Nodup → c ∉ cs → Ex H H' → Tab H' c cs (prod r1 r2 w2) → Q (.ref c) H'))

theorem ok_product (T : Txt K mg) : FnOk P w K mg base (L2.CX P w) 6 T.f_product T.fd_product ["one", "other"] (sp_product K T.f_NoFit) := by
  refine Fun.okX T.F_product sc_product (fun vs H Q E h => ?_) (fun cdv A outer s H vs Q E hr h => ?_)
  · obtain ⟨_, _, _, _, _, _, _, _, _, _, rfl, _⟩ := h; rfl
  · refine ⟨_, (pss_cons (ps_expr (pe_call (ok_check_table T) (hr.mono (by decide)) (by rfl) T.g_check_table T.k_check_table T.b_check_table .nil pass0 (pa_cons (pv 0) pa_nil)))
      (pss_cons (ps_set (i := 2) sc_product.nd rfl (by first | exact Or.inl rfl | exact Or.inr rfl) (pe_call (ok_turned T) hr (by rfl) T.g_turned T.k_turned T.b_turned .nil pass0 (pa_cons (pv 1) pa_nil)))
      (pss_cons (ps_if (pt_cmpR op_ne (pe_callB (id := "len") (r := rLenS K) call_len_seq (by rfl) T.n_len PySem.boot_len (pa_cons (pe_ix (r := rIxL K) ix_list (pv 0) pe_int (fun _ _ => rfl)) pa_nil)) (pe_callB (id := "len") (r := rLenS K) call_len_seq (by rfl) T.n_len PySem.boot_len (pa_cons (pv 1) pa_nil)) (nomark _))
        (pss_one (ps_raise rfl (takes_of rfl rfl rfl rfl) (pmk_own PySem.F.excBase_ArithmeticError T.x_NoFit T.g_NoFit T.k_NoFit (raises_own T.ex_NoFit T.tx_NoFit) (by rfl))))
        pss_nil)
      (pss_one (ps_ret (pe_lc (own := [("row", 3)]) (wi := iList K _) (g := gName 3) (tt := tYes) rfl sc_product.nd (pi_list (pv 0)) (blkOk_by (N := ["one", "other", "columns", "row", "column", "x", "y"]) (sc := (defScope s_product)) (by decide +kernel)) (fun _ _ _ _ _ => pg_name (i := 3) sc_product.nd rfl (Or.inr rfl)) (fun _ _ _ _ _ => pts_nil) (fun _ _ _ _ _ => (pe_lc (own := [("column", 4)]) (wi := iList K _) (g := gName 4) (tt := tYes) rfl sc_product.nd (pi_list (pv 2)) (blkOk_by (N := ["one", "other", "columns", "row", "column", "x", "y"]) (sc := (relS ({ kind := .function, names := [(".0", .local), ("row", .cell), ("columns", .free)], isGenerator := false, isCoroutine := false } : Scope) (defScope s_product))) (by decide +kernel)) (fun _ _ _ _ _ => pg_name (i := 4) sc_product.nd rfl (Or.inl rfl)) (fun _ _ _ _ _ => pts_nil) (fun _ _ _ _ _ => (pe_callB (id := "sum") (r := rSum K) (cr_sum rfl) (by rfl) T.n_sum (by decide +kernel) (pa_cons (pe_lc (own := [("x", 5), ("y", 6)]) (wi := iZip K _) (g := gTup K 2 (gCons (gName 5) (gCons (gName 6) gNil))) (tt := tYes) rfl sc_product.nd (pi_zip (by rfl) T.n_zip (pa_cons (pv 3) (pa_cons (pv 4) pa_nil))) (blkOk_by (N := ["one", "other", "columns", "row", "column", "x", "y"]) (sc := (relS ({ kind := .function, names := [(".0", .local), ("column", .local), ("sum", .globalImplicit), ("zip", .globalImplicit), ("row", .free)], isGenerator := false, isCoroutine := false } : Scope) (relS ({ kind := .function, names := [(".0", .local), ("row", .cell), ("columns", .free)], isGenerator := false, isCoroutine := false } : Scope) (defScope s_product)))) (by decide +kernel)) (fun _ _ _ _ _ => (pg_tup rfl (pgs_cons (pg_name (i := 5) sc_product.nd rfl (Or.inl rfl)) (pgs_cons (pg_name (i := 6) sc_product.nd rfl (Or.inl rfl)) pgs_nil)))) (fun _ _ _ _ _ => pts_nil) (fun _ _ _ _ _ => (pe_op op_mulW (pv 5) (pv 6)))) pa_nil))))))))))), ?_⟩
    obtain ⟨p, q, as, bs, r1, r2, m, w, m2, w2, rfl, hT, hU, b1, b2, k⟩ := h
    have hb := hT.b
    have hb2 := hU.b
    refine ⟨_, rfl, p, as, r1, m, w, rfl, hT, fun H1 e1 => ?_⟩
    refine ⟨_, rfl, q, bs, r2, m2, w2, rfl, hU.ex e1, fun u us H2 nu nus ndu nuu e2 ht => ?_⟩
    have e12 := e1.trans e2
    have hT2 := hT.ex e12
    have hU2 := hU.ex e12
    obtain ⟨a0, r0, _, _, hh0, hl0, at0⟩ := hT2.row0
    dsimp only
    refine q_when (σ := [some (.ref p), some (.ref q), some (.ref u), none, none, none, none]) (H := H2) (b := !decide (w = m2)) (et_is (et_test (ev_op (ev_is (ev_len (ev_op (ev_var (i := 0) rfl) ev_c (rv_ixL (SqL.of hT2.tab.1) at0)) (SqL.of hh0)) (by rw [List.length_map, hl0])) (ev_is (ev_len (ev_var (i := 1) rfl) (SqL.of hU2.tab.1)) (by rw [List.length_map, hU.al])) (rv_ne rfl))) ?_) (fun z H3 e3 => ?_) (fun z H3 e3 => ?_)
    · congr 1
      exact decide_eq_decide.mpr ⟨fun z => by have := V.int.inj z; omega, fun z => by rw [z]⟩
    · rcases k with ⟨_, k⟩ | ⟨c, _⟩
      · exact k H3 (e12.trans e3)
      · rw [decide_eq_true c] at z
        cases z
    · rcases k with ⟨c, _⟩ | ⟨c, k⟩
      · rw [decide_eq_false c] at z
        cases z
      have hw : (transp r2 w2).length = w2 := by unfold transp; rw [List.length_map, List.length_range]
      refine lc_rowsT (K := K) (rows := r1) (F := fun r => (transp r2 w2).map fun c => dot r c) rfl (hT2.ex e3).tab (by rw [hT.m_]; omega) (fun x => rfl) (fun a r H4 hr ha e4 => ?_) (fun c cs H4 nc ncs nd nccs e4 h4 => k c cs H4 (fresh_back (e12.trans e3) nc) (fun a ha => fresh_back (e12.trans e3) (ncs a ha)) nd nccs ((e12.trans e3).trans e4) h4)
      refine el_col (K := K) (f := fun c => dot r c) rfl ((e3.trans e4) _ _ ht.1) (ht.2.ex (e3.trans e4)) (by omega) (fun x => rfl) fun b col H5 hc hb' e5 => ?_
      have lr := hT.w_ r hr
      obtain ⟨kk, hk, rfl⟩ : ∃ kk : Nat, kk < w2 ∧ (r2.map fun r => r[kk]?.getD 0) = col := by
        unfold transp at hc
        obtain ⟨kk, hk, e⟩ := List.mem_map.mp hc
        exact ⟨kk, List.mem_range.mp hk, e⟩
      refine ev_sum (el_zip (K := K) (f := (· * ·)) (ea_cons (ev_var rfl) (ea_cons (ev_var rfl) ea_nil)) (SqL.of ((e4.trans e5) _ _ ha)) (SqL.of (e5 _ _ hb')) (by rw [List.length_map, hU.m_, lr, c]) (by omega) (fun x y => rfl) fun x y H6 hx hy e6 => ?_)
      obtain ⟨r', hr', rfl⟩ := List.mem_map.mp hy
      have hk2 : kk < r'.length := by rw [hU.w_ r' hr']; exact hk
      rw [List.getElem?_eq_getElem hk2]
      exact ev_op (ev_var rfl) (ev_var rfl) (rv_I ((b1 r hr x hx).mulOk (b2 r' hr' _ (List.getElem_mem hk2))))
-- DEF law
theorem TN.exN {s : Addr} {H H' : Hp} {p : Addr} {as : List Addr} {rows : List (List Int)} (h : TN s H p as rows) (e : LamX.ExtN H H') : TN s H' p as rows := ⟨⟨e _ _ h.tab.1 (fun _ z => by cases z), paired_imp (fun _ _ r => e _ _ r (fun _ z => by cases z)) h.tab.2⟩, h.ps, h.ass⟩
theorem SrcAt.exN {H H' : Hp} {s : Addr} {n : Int} (h : SrcAt H s n) (e : LamX.ExtN H H') : SrcAt H' s n := by
  obtain ⟨p, q, r, h1, h2⟩ := h
  exact ⟨p, q, r, e _ _ h1 (fun _ z => by cases z), h2⟩
theorem tabs_B {T : List (Addr × Str)} {H H' : Hp} {s : Addr} {n : Int} (t : LamX.Tabs T H) (hs : SrcAt H s n) (e : ExB s H H') : LamX.Tabs T H' := fun p hp => by
  obtain ⟨ps, h1, h2, h3⟩ := t p hp
  obtain ⟨_, _, _, h4, _⟩ := hs
  have np : p.1 ≠ s := fun z => by
    rw [z, h4] at h1
    cases h1
  refine ⟨ps, e _ _ np h1, h2, fun pos cv hc => ?_⟩
  obtain ⟨c, e1, e2⟩ := h3 pos cv hc
  have nc : c ≠ s := fun z => by
    rw [z, h4] at e2
    cases e2
  exact ⟨c, e1, e _ _ nc e2⟩
theorem shaped_tuple {ds : List PyData} (h : PyData.canLayAll0 ds = true) (h2 : PyData.depthAll ds ≤ 60) : SeqAt.shaped (.tuple ds) = true := by
  unfold SeqAt.shaped
  have e1 : (PyData.tuple ds).canLay0 = true := h
  have e2 : (PyData.tuple ds).depth ≤ 64 := by
    show PyData.depthAll ds + 1 ≤ 64
    omega
  rw [e1, decide_eq_true e2]
  rfl
def EvTab (te : TE) (σ : L2.St) (H : Hp) (rows : List (List Int)) : Prop := ∀ H1, Ex H H1 → ∀ Q : VK, (∀ p as H2, H1 p = none → (∀ a ∈ as, H1 a = none) → as.Nodup → p ∉ as → Ex H1 H2 → Tab H2 p as rows → Q (.ref p) H2) → te σ H1 Q
theorem ev_neTab2 {K : PySem.W.Frag} {ta tb : TE} {σ : L2.St} {H : Hp} {rows : List (List Int)} (ha : EvTab ta σ H rows) (hb : EvTab tb σ H rows) : Ev (tOp (rNeD K) ta tb) σ H (.bl false) := fun H1 e Q k =>
  ha H1 e _ fun p as H2 _ _ _ _ e2 hp => hb H2 (e.trans e2) _ fun q bs H3 _ _ _ _ e3 hq => rv_neT (hp.ex e3) hq H3 (Ex.refl _) Q fun H4 e4 => k H4 ((e2.trans e3).trans e4)
/-! ### sums and products -/
theorem dot_cons {a b : Int} {r c : List Int} : dot (a :: r) (b :: c) = a * b + dot r c := by
  unfold dot
  rw [List.zipWith_cons_cons, List.sum_cons]
theorem dot_nil {c : List Int} : dot [] c = 0 := by
  unfold dot
  rw [List.zipWith_nil_left]
  rfl
theorem dot_nil2 {r : List Int} : dot r [] = 0 := by
  unfold dot
  rw [List.zipWith_nil_right]
  rfl
theorem dot_lin {a : Int} {p q : Nat → Int} : ∀ (L : List Nat) (c : List Int), dot (L.map fun j => a * p j + q j) c = a * dot (L.map p) c + dot (L.map q) c
  | [], c => by simp [dot_nil]
  | j :: L, [] => by simp [dot_nil2]
  | j :: L, b :: c => by
    rw [List.map_cons, List.map_cons, List.map_cons, dot_cons, dot_cons, dot_cons, dot_lin L c]
    grind
theorem dot_zero : ∀ (L : List Nat) (c : List Int), dot (L.map fun _ => (0 : Int)) c = 0
  | [], c => by simp [dot_nil]
  | j :: L, [] => dot_nil2
  | j :: L, b :: c => by
    rw [List.map_cons, dot_cons, dot_zero L c]
    grind
theorem foldl_shift (x : Rat) : ∀ (L : List Rat) (y : Rat), L.foldl (· + ·) (x + y) = x + L.foldl (· + ·) y
  | [], y => rfl
  | z :: L, y => by
    rw [List.foldl_cons, List.foldl_cons, Rat.add_assoc, foldl_shift x L]
theorem fsum_cons {a : Int} {x : Rat} {ns : List Int} {qs : List Rat} : fsum (a :: ns) (x :: qs) = mkRat a 1 * x + fsum ns qs := by
  unfold fsum terms
  rw [List.zipWith_cons_cons, List.foldl_cons, Rat.zero_add]
  have h := foldl_shift (mkRat a 1 * x) (List.zipWith (fun a x => mkRat a 1 * x) ns qs) 0
  rw [Rat.add_zero] at h
  exact h
theorem fsum_nil {qs : List Rat} : fsum [] qs = 0 := by
  unfold fsum terms
  rw [List.zipWith_nil_left]
  rfl
theorem fsum_nil2 {ns : List Int} : fsum ns [] = 0 := by
  unfold fsum terms
  rw [List.zipWith_nil_right]
  rfl
theorem mk_lin {a b c : Int} : mkRat (a * b + c) 1 = mkRat a 1 * mkRat b 1 + mkRat c 1 := by
  rw [Rat.mkRat_mul_mkRat, Rat.mkRat_add_mkRat _ _ (by decide) (by decide)]
  simp
theorem fsum_lin {a : Int} {p q : Nat → Int} : ∀ (L : List Nat) (qs : List Rat), fsum (L.map fun j => a * p j + q j) qs = mkRat a 1 * fsum (L.map p) qs + fsum (L.map q) qs
  | [], qs => by simp [fsum_nil, Rat.add_zero]
  | j :: L, [] => by simp [fsum_nil2, Rat.add_zero]
  | j :: L, x :: qs => by
    rw [List.map_cons, List.map_cons, List.map_cons, fsum_cons, fsum_cons, fsum_cons, fsum_lin L qs, mk_lin]
    grind
theorem fsum_zero : ∀ (L : List Nat) (qs : List Rat), fsum (L.map fun _ => (0 : Int)) qs = 0
  | [], qs => by simp [fsum_nil]
  | j :: L, [] => fsum_nil2
  | j :: L, x :: qs => by
    rw [List.map_cons, fsum_cons, fsum_zero L qs]
    have : mkRat 0 1 = 0 := by decide +kernel
    rw [this]
    grind
theorem row_range {v : List Int} {w : Nat} (h : v.length = w) : ((List.range w).map fun j => v[j]?.getD 0) = v := by
  refine List.ext_getElem (by rw [List.length_map, List.length_range, h]) fun k g1 g2 => ?_
  rw [List.getElem_map, List.getElem_range, List.getElem?_eq_getElem g2]
  rfl
theorem transp_dot {r : List Int} {r2 : List (List Int)} {w : Nat} : (transp r2 w).map (fun c => dot r c) = (List.range w).map fun j => dot r (r2.map fun v => v[j]?.getD 0) := by
  unfold transp
  rw [List.map_map]
  rfl
theorem dot_prod {w : Nat} {c : List Int} : ∀ {r : List Int} {r2 : List (List Int)}, (∀ v ∈ r2, v.length = w) → dot ((transp r2 w).map fun c => dot r c) c = dot r (r2.map fun v => dot v c)
  | [], r2, _ => by
    rw [transp_dot]
    simp only [dot_nil]
    exact dot_zero _ _
  | a :: r, [], _ => by
    rw [transp_dot]
    simp only [List.map_nil, dot_nil2]
    exact dot_zero _ _
  | a :: r, v :: r2, h => by
    have ih := dot_prod (c := c) (r := r) (r2 := r2) fun u hu => h u (List.mem_cons_of_mem _ hu)
    rw [transp_dot] at ih ⊢
    simp only [List.map_cons, dot_cons]
    rw [dot_lin (p := fun j => v[j]?.getD 0) (q := fun j => dot r (r2.map fun v => v[j]?.getD 0)), ih, row_range (h v (List.mem_cons_self ..))]
theorem fsum_prod {w : Nat} {qs : List Rat} : ∀ {r : List Int} {r2 : List (List Int)}, (∀ v ∈ r2, v.length = w) → fsum ((transp r2 w).map fun c => dot r c) qs = fsum r (r2.map fun v => fsum v qs)
  | [], r2, _ => by
    rw [transp_dot]
    simp only [dot_nil, fsum_nil]
    exact fsum_zero _ _
  | a :: r, [], _ => by
    rw [transp_dot]
    simp only [List.map_nil, dot_nil2, fsum_nil2]
    exact fsum_zero _ _
  | a :: r, v :: r2, h => by
    have ih := fsum_prod (qs := qs) (r := r) (r2 := r2) fun u hu => h u (List.mem_cons_of_mem _ hu)
    rw [transp_dot] at ih ⊢
    simp only [List.map_cons, dot_cons, fsum_cons]
    rw [fsum_lin (p := fun j => v[j]?.getD 0) (q := fun j => dot r (r2.map fun v => v[j]?.getD 0)), ih, row_range (h v (List.mem_cons_self ..))]
theorem prod_len {r1 r2 : List (List Int)} {w2 : Nat} : (prod r1 r2 w2).length = r1.length := List.length_map ..
theorem prod_w {r1 r2 : List (List Int)} {w2 : Nat} : ∀ r ∈ prod r1 r2 w2, r.length = w2 := by
  intro r hr
  obtain ⟨_, _, rfl⟩ := List.mem_map.mp hr
  unfold transp
  rw [List.length_map, List.length_map, List.length_range]
theorem led_prod {r1 r2 : List (List Int)} {w2 : Nat} {qs : List Rat} (h : ∀ v ∈ r2, v.length = w2) : (prod r1 r2 w2).map (fun r => fsum r qs) = r1.map fun r => fsum r (r2.map fun v => fsum v qs) := by
  unfold prod
  rw [List.map_map]
  exact List.map_congr_left fun r _ => fsum_prod h
theorem prod_assoc {r1 r2 r3 : List (List Int)} {w2 w3 : Nat} (h : ∀ v ∈ r2, v.length = w2) : prod (prod r1 r2 w2) r3 w3 = prod r1 (prod r2 r3 w3) w3 := by
  unfold prod
  rw [List.map_map]
  refine List.map_congr_left fun r _ => ?_
  show (transp r3 w3).map (fun c => dot ((transp r2 w2).map fun c => dot r c) c) = _
  rw [transp_dot (r2 := r2.map _)]
  unfold transp
  rw [List.map_map]
  refine List.map_congr_left fun l hl => ?_
  have := List.mem_range.mp hl
  show dot ((transp r2 w2).map fun c => dot r c) _ = _
  rw [dot_prod h, List.map_map]
  congr 1
  refine List.map_congr_left fun v _ => ?_
  show _ = (((List.range w3).map fun kk => r3.map fun r => r[kk]?.getD 0).map fun c => dot v c)[l]?.getD 0
  rw [List.getElem?_map, List.getElem?_map, List.getElem?_range this]
  rfl
theorem dot_bd {a b : Nat} : ∀ {r c : List Int}, (∀ y ∈ r, Bd a y) → (∀ y ∈ c, Bd b y) → Bd (a + b + r.length) (dot r c)
  | [], c, _, _ => by
    rw [dot_nil]
    exact Nat.two_pow_pos _
  | x :: r, [], _, _ => by
    rw [dot_nil2]
    exact Nat.two_pow_pos _
  | x :: r, y :: c, h1, h2 => by
    rw [dot_cons]
    show Bd ((a + b + r.length) + 1) _
    exact (((h1 x (List.mem_cons_self ..)).mul (h2 y (List.mem_cons_self ..))).mono (by omega)).add ((dot_bd (fun z hz => h1 z (List.mem_cons_of_mem _ hz)) fun z hz => h2 z (List.mem_cons_of_mem _ hz)))
theorem prod_bd {a b w w2 : Nat} {r1 r2 : List (List Int)} (h0 : ∀ r ∈ r1, r.length = w) (h1 : ∀ r ∈ r1, ∀ y ∈ r, Bd a y) (h2 : ∀ r ∈ r2, ∀ y ∈ r, Bd b y) : ∀ r ∈ prod r1 r2 w2, ∀ y ∈ r, Bd (a + b + w) y := by
  intro r hr y hy
  obtain ⟨r', hr', rfl⟩ := List.mem_map.mp hr
  obtain ⟨c, hc, rfl⟩ := List.mem_map.mp hy
  have h := dot_bd (r := r') (c := c) (h1 r' hr') (b := b) fun z hz => ?_
  · rw [h0 r' hr'] at h
    exact h
  · unfold transp at hc
    obtain ⟨j, _, rfl⟩ := List.mem_map.mp hc
    obtain ⟨v, hv, rfl⟩ := List.mem_map.mp hz
    cases e : v[j]? with
    | none => exact Nat.two_pow_pos _
    | some z => exact h2 v hv z (List.mem_of_getElem? e)
/-! ### what the law keeps -/
structure LK (P : Addr) (H0 H : Hp) (s : Addr) (n : Int) (g1 g2 : Addr) (as1 as2 : List Addr) (r1 r2 : List (List Int)) : Prop where
  kp : LamX.ExtN H0 H
  s0 : H0 s = none
  src : SrcAt H s n
  t1 : TN s H g1 as1 r1
  t2 : TN s H g2 as2 r2
  tabs : LamX.Tabs [(P, lamQ)] H
section
variable {P : Addr} {H0 H H' : Hp} {s g1 g2 : Addr} {n n' : Int} {as1 as2 : List Addr} {r1 r2 : List (List Int)}
theorem LK.lam (h : LK P H0 H s n g1 g2 as1 as2 r1 r2) (e : LamX.ExtN H H') (t : LamX.Tabs [(P, lamQ)] H') : LK P H0 H' s n g1 g2 as1 as2 r1 r2 := ⟨h.kp.trans e, h.s0, h.src.exN e, h.t1.exN e, h.t2.exN e, t⟩
theorem LK.step (h : LK P H0 H s n g1 g2 as1 as2 r1 r2) (e : Ex H H') : LK P H0 H' s n g1 g2 as1 as2 r1 r2 := h.lam (LamX.ExtN.of e) (h.tabs.ext e)
theorem LK.draw (h : LK P H0 H s n g1 g2 as1 as2 r1 r2) (e : ExB s H H') (hs : SrcAt H' s n') : LK P H0 H' s n' g1 g2 as1 as2 r1 r2 := ⟨fun b o hb no => e _ _ (fun z => by rw [z, h.s0] at hb; cases hb) (h.kp b o hb no), h.s0, hs, h.t1.exB e, h.t2.exB e, tabs_B h.tabs h.src e⟩
end
/-- a list of fractions that lies apart from the source -/
structure FN (s : Addr) (H : Hp) (v : Addr) (vs : List Addr) (qs : List Rat) : Prop where
  fl : FrL H v vs qs
  v_ : v ≠ s
  vs_ : ∀ a ∈ vs, a ≠ s
theorem FN.exN {s : Addr} {H H' : Hp} {v : Addr} {vs : List Addr} {qs : List Rat} (h : FN s H v vs qs) (e : LamX.ExtN H H') : FN s H' v vs qs := ⟨⟨e _ _ h.fl.1 (fun _ z => by cases z), paired_imp (fun _ _ r => e _ _ r (fun _ z => by cases z)) h.fl.2⟩, h.v_, h.vs_⟩
theorem FN.ex {s : Addr} {H H' : Hp} {v : Addr} {vs : List Addr} {qs : List Rat} (h : FN s H v vs qs) (e : Ex H H') : FN s H' v vs qs := h.exN (LamX.ExtN.of e)
theorem frs_but {s : Addr} {H H' : Hp} (e : ExB s H H') : ∀ {vs : List Addr} {qs : List Rat}, FrsAt H vs qs → (∀ a ∈ vs, a ≠ s) → FrsAt H' vs qs
  | _, _, .nil, _ => .nil
  | _, _, .cons h t, n => .cons (e _ _ (n _ (List.mem_cons_self ..)) h) (frs_but e t fun a ha => n a (List.mem_cons_of_mem _ ha))
theorem FN.exB {s : Addr} {H H' : Hp} {v : Addr} {vs : List Addr} {qs : List Rat} (h : FN s H v vs qs) (e : ExB s H H') : FN s H' v vs qs := ⟨⟨e _ _ h.v_ h.fl.1, frs_but e h.fl.2 h.vs_⟩, h.v_, h.vs_⟩
theorem frs_ne {s : Addr} {H : Hp} {n : Int} (hs : SrcAt H s n) : ∀ {vs : List Addr} {qs : List Rat}, FrsAt H vs qs → ∀ a ∈ vs, a ≠ s
  | _, _, .nil => fun a ha => by simp at ha
  | _, _, .cons h t => fun a ha => by
    rcases List.mem_cons.mp ha with rfl | ha
    · exact hs.neT h
    · exact frs_ne hs t a ha
theorem rv_neP {K : PySem.W.Frag} {H : Hp} {p q : Addr} {xs ys : List V} {ds : List PyData} (hp : H p = some (.tup xs)) (hq : H q = some (.tup ys)) (hd : DpAll K H xs ds) (he : DpAll K H ys ds) (sh : SeqAt.shaped (.tuple ds) = true) : RV (rNeD K) (.ref p) (.ref q) H (.bl false) := fun H1 e Q k => by
  refine ⟨_, _, .tup (SqT.of (e _ _ hp)) (dpAll_ex e hd), .tup (SqT.of (e _ _ hq)) (dpAll_ex e he), sh, sh, ?_⟩
  rw [SeqAt.eqv_refl _ (SeqAt.canLay_of_shaped sh)]
  exact k H1 (Ex.refl _)
def SaidIs (H : Hp) (t : Addr) (r : Option (List (List Int))) : Prop := match r with
  | none => H t = some (.tup [.str "refused", .int 0])
  | some rows => ∃ c cs, H t = some (.tup [.str "told", .ref c]) ∧ Tab H c cs rows
theorem SaidIs.exN {H H' : Hp} {t : Addr} {r : Option (List (List Int))} (h : SaidIs H t r) (e : LamX.ExtN H H') : SaidIs H' t r := by
  cases r with
  | none => exact e _ _ h (fun _ z => by cases z)
  | some rows =>
    obtain ⟨c, cs, h1, h2⟩ := h
    exact ⟨c, cs, e _ _ h1 (fun _ z => by cases z), e _ _ h2.1 (fun _ z => by cases z), paired_imp (fun _ _ r => e _ _ r (fun _ z => by cases z)) h2.2⟩
theorem lay_ref : PyData.canLayAll0 [.str "refused", .int 0] = true := by decide +kernel
theorem lay_told {rows : List (List Int)} : PyData.canLayAll0 [.str "told", .list (rows.map fun r => PyData.list (r.map PyData.int))] = true := by
  show ((PyData.str "told").canLay0 && (PyData.canLayAll0 (rows.map fun r => PyData.list (r.map PyData.int)) && true)) = true
  rw [canLay_rows, show (PyData.str "told").canLay0 = true by decide +kernel]
  rfl
theorem rv_neS {K : PySem.W.Frag} {H : Hp} {t u : Addr} {r : Option (List (List Int))} (h1 : SaidIs H t r) (h2 : SaidIs H u r) : RV (rNeD K) (.ref t) (.ref u) H (.bl false) := by
  cases r with
  | none => exact rv_neP h1 h2 (.cons (.str _) (.cons (.int 0) .nil)) (.cons (.str _) (.cons (.int 0) .nil)) (shaped_tuple lay_ref (by decide))
  | some rows =>
    obtain ⟨c, cs, h1, t1⟩ := h1
    obtain ⟨d, ds, h2, t2⟩ := h2
    refine rv_neP h1 h2 (.cons (.str _) (.cons (.lst (SqL.of t1.1) (dp_rows t1.2)) .nil)) (.cons (.str _) (.cons (.lst (SqL.of t2.1) (dp_rows t2.2)) .nil)) (shaped_tuple lay_told ?_)
    have := depth_rows rows
    show max 0 (max (PyData.depthAll (rows.map fun r => PyData.list (r.map PyData.int)) + 1) 0) ≤ 60
    omega
def frD (qs : List Rat) : List PyData := qs.map fun q => PyData.tuple [.int q.num, .int (q.den : Int)]
theorem dp_frs {K : PySem.W.Frag} {H : Hp} : ∀ {as : List Addr} {qs : List Rat}, FrsAt H as qs → DpAll K H (as.map V.ref) (frD qs)
  | _, _, .nil => .nil
  | _, _, .cons h t => .cons (.tup (SqT.of h) (.cons (.int _) (.cons (.int _) .nil))) (dp_frs t)
theorem canLay_frs : ∀ qs : List Rat, PyData.canLayAll0 (frD qs) = true
  | [] => rfl
  | q :: qs => by
    show (true && PyData.canLayAll0 (frD qs)) = true
    rw [canLay_frs qs]
    rfl
theorem depth_frs : ∀ qs : List Rat, PyData.depthAll (frD qs) ≤ 1
  | [] => Nat.zero_le _
  | q :: qs => by
    show max (0 + 1) (PyData.depthAll (frD qs)) ≤ 1
    have := depth_frs qs
    omega
theorem rv_neF {K : PySem.W.Frag} {H : Hp} {p q : Addr} {bs cs : List Addr} {qs : List Rat} (hp : FrL H p bs qs) (hq : FrL H q cs qs) : RV (rNeD K) (.ref p) (.ref q) H (.bl false) := fun H1 e Q k => by
  have sh : SeqAt.shaped (.list (frD qs)) = true := shaped_list (canLay_frs qs) (Nat.le_trans (depth_frs qs) (by decide))
  refine ⟨_, _, .lst (SqL.of (e _ _ hp.1)) (dp_frs (hp.2.ex e)), .lst (SqL.of (e _ _ hq.1)) (dp_frs (hq.2.ex e)), sh, sh, ?_⟩
  rw [SeqAt.eqv_refl _ (SeqAt.canLay_of_shaped sh)]
  exact k H1 (Ex.refl _)
def OutP (C : Addr) (r1 r2 : List (List Int)) (w m2 w2 : Nat) (H : Hp) (Q : VK) (E : XK) : Prop :=
  (w ≠ m2 ∧ RaiseNF C H E) ∨ (w = m2 ∧ ∀ c cs H', H c = none → (∀ a ∈ cs, H a = none) → cs.Nodup → c ∉ cs → Ex H H' → Tab H' c cs (prod r1 r2 w2) → Q (.ref c) H')
theorem tt_prod {K : PySem.W.Frag} {mg : Str → Option Value} {T : Txt K mg} {tl : XK → Hp → VK → Prop} {H1 : Hp} {Q : VK} {r1 r2 : List (List Int)} {w m2 w2 : Nat} (hb : ∀ H0 E Qd, Ex H1 H0 → OutP T.f_NoFit r1 r2 w m2 w2 H0 Qd E → tl E H0 Qd)
    (k : ∀ t H2, Ex H1 H2 → SaidIs H2 t (if w = m2 then some (prod r1 r2 w2) else none) → Q (.ref t) H2) : TT__law_said T tl H1 Q := fun H0 E Qd e0 hE hQ => by
  refine hb H0 E Qd e0 ?_
  by_cases c : w = m2
  · refine .inr ⟨c, fun q cs H' _ _ _ _ e hT => hQ (.ref q) H' fun t H2 e2 _ ht => k t H2 ((e0.trans e).trans e2) ?_⟩
    rw [if_pos c]
    exact ⟨q, cs, ht, hT.ex e2⟩
  · refine .inl ⟨c, fun H' e => hE H' fun t H2 e2 _ ht => k t H2 ((e0.trans e).trans e2) ?_⟩
    rw [if_neg c]
    exact ht
/-- te makes a new list of the fractions qs -/
def ELF (te : TE) (σ : L2.St) (H : Hp) (qs : List Rat) : Prop := ∀ H1, Ex H H1 → ∀ Q : VK, (∀ p bs H2, H1 p = none → Ex H1 H2 → FrL H2 p bs qs → Q (.ref p) H2) → te σ H1 Q
theorem lf_zip {K : PySem.W.Frag} {ta : TA} {te : TE} {vs : List Nat} {j1 j2 j3 : Nat} {σ : L2.St} {H : Hp} {a b : Addr} {ns : List Int} {bs : List Addr} {qs : List Rat} (F : Int → Rat → Rat) (h : EvA ta σ H [.ref a, .ref b]) (hx : H a = some (.lst (ns.map V.int))) (hF : FrL H b bs qs) (hl : ns.length = qs.length) (hz : ns.length ≤ 1000)
    (hw : ∀ u v x, wipe ((((wipe σ vs).set j1 (some u)).set j2 (some v)).set j3 (some x)) vs = wipe σ vs)
    (he : ∀ n q H1, n ∈ ns → q ∈ qs → Ex H H1 → EvQ te ((((wipe σ vs).set j1 (some (.int n))).set j2 (some (.int q.num))).set j3 (some (.int (q.den : Int)))) H1 (F n q)) :
    ELF (tLc (iZip K ta) (gTup K 2 (gCons (gName j1) (gCons (g2 K j2 j3) gNil))) tYes te vs) σ H (List.zipWith F ns qs) := fun H0 e Q q => h H0 e _ fun H1 e1 => by
  have hx1 := (e.trans e1) _ _ hx
  have hF1 := hF.ex (e.trans e1)
  have eb : bs.length = qs.length := Paired.length hF.2
  refine ⟨a, b, _, _, rfl, SqL.of hx1, SqL.of hF1.1, fun D hD => ?_⟩
  refine lc_zip (xs := ns.map V.int) (ys := bs.map V.ref) (by rw [List.length_map, List.length_map, eb]; exact hl) (fun i H' => ∃ cs, Ex H1 H' ∧ H' D = some (.lst (cs.map V.ref)) ∧ FrsAt H' cs ((List.zipWith F ns qs).take i)) ⟨[], Ex.new hD, upd_same, .nil⟩ (fun i H' ⟨_, p1, _⟩ => ⟨SqL.of (p1 _ _ hx1), SqL.of (p1 _ _ hF1.1)⟩) (fun i x y T H' gx gy p nT => ?_) (fun H' p => ?_)
  · obtain ⟨cs, p1, p2, p3⟩ := p
    rw [List.getElem?_map] at gx gy
    obtain ⟨x', hx', rfl⟩ := Option.map_eq_some_iff.mp gx
    obtain ⟨c, hc, rfl⟩ := Option.map_eq_some_iff.mp gy
    obtain ⟨y', hy', hcq⟩ := paired_get hF1.2 hc
    have xT : Ex H' (upd H' T (.tup [.int x', .ref c])) := Ex.new nT
    refine ⟨T, _, rfl, SqT.of upd_same, rfl, _, _, rfl, _, _, rfl, c, _, rfl, SqT.of ((p1.trans xT) _ _ hcq), rfl, _, _, rfl, _, _, rfl, rfl, rfl, hw _ _ _, ?_⟩
    show te _ _ _
    have hzz : (List.zipWith F ns qs)[i]? = some (F x' y') := by rw [List.getElem?_zipWith, hx', hy']
    refine he x' y' H (List.mem_of_getElem? hx') (List.mem_of_getElem? hy') (Ex.refl H) _ ((e.trans e1).trans (p1.trans xT)) _ fun r H4 e4 hr => ?_
    have e14 := xT.trans e4
    have p24 := e14 _ _ p2
    refine ⟨_, p24, ?_, cs ++ [r], Ex.mut (p1.trans e14) hD, ?_, ?_⟩
    · rw [List.length_map, Paired.length p3, List.length_take]
      have := (List.getElem?_eq_some_iff.mp hx').1
      exact small1000 (by omega)
    · rw [upd_same, List.map_append]
      rfl
    · rw [take_snoc hzz]
      exact paired_snoc (paired_imp (fun b q h => tups_U p24 _ _ (e14 _ _ h)) p3) (tups_U p24 _ _ hr)
  · obtain ⟨cs, p1, p2, p3⟩ := p
    rw [List.length_map, List.take_of_length_le (by rw [List.length_zipWith]; omega)] at p3
    exact q D cs H' (fresh_back e1 hD) (e1.trans p1) ⟨p2, p3⟩
/-- [[drawn numbers] for y in ys]: new rows -/
theorem lc_drawR {K : PySem.W.Frag} {tl te : TE} {vs : List Nat} {j : Nat} {σ : L2.St} {H : Hp} {Q : VK} {s a : Addr} {n : Int} {xs : List Int} {w B : Nat} (h : Ev tl σ H (.ref a)) (hx : H a = some (.lst (xs.map V.int))) (has : a ≠ s) (hm : xs.length ≤ 8) (hs : SrcAt H s n) (hw : ∀ u, wipe ((wipe σ vs).set j (some u)) vs = wipe σ vs)
    (he : ∀ (i : Nat) (y : Int) H1, ExB s H H1 → i < xs.length → SrcAt H1 s (n + 10 * i) → ∀ Q1 : VK, (∀ (r : Addr) (ns : List Int) (H2 : Hp), H1 r = none → ExB s H1 H2 → SrcAt H2 s (n + 10 * i + 10) → H2 r = some (.lst (ns.map V.int)) → ns.length = w → (∀ x ∈ ns, x.natAbs ≤ B) → Q1 (.ref r) H2) → te ((wipe σ vs).set j (some (.int y))) H1 Q1)
    (k : ∀ (D : Addr) (as : List Addr) (rows : List (List Int)) (H2 : Hp), NewTab H H2 D as rows w B → rows.length = xs.length → ExB s H H2 → SrcAt H2 s (n + 100) → Q (.ref D) H2) : tLc (iList K tl) (gName j) tYes te vs σ H Q := by
  refine h H (Ex.refl H) _ fun H1 e1 => ⟨a, rfl, ⟨_, SqL.of (e1 _ _ hx)⟩, fun D hD => ?_⟩
  have hDH : H D = none := fresh_back e1 hD
  have hDs : D ≠ s := (hs.ex e1).ne hD
  refine lc_list (K := K) (a := a) (xs := xs.map V.int) (fun i H' => ∃ as rows, NewTab H H' D as rows w B ∧ rows.length = i ∧ ExB s H H' ∧ SrcAt H' s (n + 10 * i)) ⟨[], [], NewTab.new hDH upd_same, rfl, ExB.of (e1.trans (Ex.new hD)), (hs.ex (e1.trans (Ex.new hD))).le (by omega)⟩ (fun i H' _ ⟨_, _, _, _, p1, _⟩ => SqL.of (p1 _ _ has hx)) (fun i y H4 gy p => ?_) (fun H4 p => ?_)
  · obtain ⟨as, rows, hN, hl, e4, s4⟩ := p
    have al : as.length = i := by rw [Paired.length hN.tab.2, hl]
    rw [List.getElem?_map] at gy
    obtain ⟨y', hy', rfl⟩ := Option.map_eq_some_iff.mp gy
    have hi := (List.getElem?_eq_some_iff.mp hy').1
    refine ⟨hw _, ?_⟩
    show te _ H4 _
    refine he i y' H4 e4 hi s4 _ fun r ns H5 nr e5 s5 hr hln hP => ?_
    have N5 := hN.exB e5 hs.obj
    have nr0 : H r = none := fresh_B e4 nr s4.obj
    have nrD : r ≠ D := fun z => by
      rw [z, hN.tab.1] at nr
      cases nr
    have nra : r ∉ as := fun ha => by
      obtain ⟨x, _, hx⟩ := paired_mem hN.tab.2 ha
      rw [nr] at hx
      cases hx
    refine ⟨_, N5.tab.1, small1000 (by rw [List.length_map]; omega), as ++ [r], rows ++ [ns], ?_, ?_, ?_, ?_⟩
    · refine ⟨hDH, fun a ha => ?_, ?_, ?_, ⟨?_, ?_⟩, fun x hx => ?_⟩
      · rcases List.mem_append.mp ha with q | q
        · exact hN.a0 a q
        · rw [show a = r by simpa using q]
          exact nr0
      · refine List.nodup_append.mpr ⟨hN.nd, by simp, fun a ha b hb z => ?_⟩
        have : b = r := by simpa using hb
        exact nra (by rw [← this, ← z]; exact ha)
      · intro ha
        rcases List.mem_append.mp ha with q | q
        · exact hN.np q
        · exact nrD (by simpa using q : D = r).symm
      · rw [upd_same, List.map_append]
        rfl
      · refine paired_snoc (rows_but N5.tab.2 fun a ha o g => ?_) ?_
        · rw [upd_ne (fun z => hN.np (by rw [← z]; exact ha))]
          exact g
        · rw [upd_ne nrD]
          exact hr
      · rcases List.mem_append.mp hx with q | q
        · exact hN.ok x q
        · rw [show x = ns by simpa using q]
          exact ⟨hln, hP⟩
    · rw [List.length_append, hl]
      rfl
    · refine fun b o nb h => ?_
      rw [upd_ne (ne_of_none h hDH)]
      exact e5 _ _ nb (e4 _ _ nb h)
    · obtain ⟨a1, a2, a3, a4, a5, a6, a7, a8⟩ := s5
      exact ⟨a1, a2, a3, by rw [upd_ne hDs.symm]; exact a4, a5, a6, a7, by omega⟩
  · obtain ⟨as, rows, hN, hl, e4, s4⟩ := p
    rw [List.length_map] at hl s4
    exact k D as rows H4 hN hl e4 (s4.le (by omega))
theorem due_tup {H : Hp} {u : Addr} {w m2 : Nat} {rows : List (List Int)} (h : SaidIs H u (if w = m2 then some rows else none)) : ∃ x : V, H u = some (.tup [.str (if w = m2 then "told" else "refused"), x]) := by
  by_cases c : w = m2
  · rw [if_pos c] at h ⊢
    obtain ⟨q, cs, h, _⟩ := h
    exact ⟨_, h⟩
  · rw [if_neg c] at h ⊢
    exact ⟨_, h⟩
def gPm (pm : List Nat) (n m : Nat) {α : Type} (us ws : List α) : List α := if us.length = n ∧ ws.length = m then pm.filterMap fun i => (us ++ ws)[i]? else []
theorem vals_at {vs : List V} {us : List Value} (h : Vals vs us) : ∀ pm : List Nat, Vals (pm.filterMap fun i => vs[i]?) (pm.filterMap fun i => us[i]?) := by
  intro pm
  induction pm with
  | nil => exact .nil
  | cons i pm ih =>
    cases e1 : vs[i]? with
    | none =>
      rw [List.filterMap_cons_none e1, List.filterMap_cons_none (h.none_of e1)]
      exact ih
    | some v =>
      obtain ⟨u, e2, r⟩ := h.get e1
      rw [List.filterMap_cons_some e1, List.filterMap_cons_some e2]
      exact .cons r ih
theorem kb_of {K : PySem.W.Frag} {x qual : Str} {st : Stmt} {f : Addr} {fd : FuncData} {ps ks : List Str} (pm : List Nat) (n m : Nat) (hp : ps ≠ []) (F : Fun K x qual st f fd)
    (h : ∀ (kV doc pm' : Value) (an : Option Addr) (cdv ct : Value) (us ws : List Value), us.length = n → ws.length = m → bindArgs (PySem.W.fnOf x qual (defArgs st) (defBody st) (defScope st) .none kV doc pm' an cdv ct) ⟨us, ks.zip ws⟩ = pure (ps.zip (gPm pm n m us ws))) : KBinds K fd ps ks (gPm pm n m) (gPm pm n m) := by
  obtain ⟨oc, od, kV, doc, pm', an, cdv, ct, osl, rfl, lk, hcd⟩ := F.ex
  refine ⟨fun s us ws _ hl => ?_, fun {vs us zs ws} r rz => ?_⟩
  · by_cases c : us.length = n ∧ ws.length = m
    · exact BindsTo.of_eq (h kV doc pm' an cdv ct us ws c.1 c.2)
    · unfold gPm at hl
      rw [if_neg c] at hl
      exact absurd (List.length_eq_zero_iff.mp hl.symm) hp
  · unfold gPm
    rw [r.length, rz.length]
    split
    · exact vals_at (r.append rz) pm
    · exact .nil
section
variable {X : Cx} {CX : CXT} {k : Nat} {f : Addr} {fd : FuncData} {ps ks : List Str} {sp : Sp} {E : XK} {x : Str} {p pos : Pos} {kws : List Keyword} {tk : TA} {g : List Value → List Value → List Value} {gV : List V → List V → List V}
theorem pe_callK0 (F : FnOk X.prog X.w X.K X.mg X.base CX k f fd ps sp) (hr : Room k X.A) (hg : Gl X x) (hm : X.mg x = some (.ref f)) (hk : PySem.W.keepIn X.K (.ref f) = true) (hb : KBinds X.K fd ps ks g gV) (hx : Passes CX X E)
    (hkw : PK X kws tk) (hall : (backToKw pos (keywordEach kws X.env)).all (·.1.isSome) = true := by rfl) (hks : (backToKw pos (keywordEach kws X.env)).filterMap (·.1) = ks := by rfl)
    (hdb : (x == ("__debug__" : Str)) = false := by decide)
    (hpl : ((backTo pos (starEach [] X.env)).any (·.1) || (backToKw pos (keywordEach kws X.env)).any (·.1.isNone)) = false := by rfl) :
    PE X (.Call (.Name x p) [] kws pos) (tCallK sp gV E tNil tk) := by
  refine ⟨fun pins s σ H Q I h => ?_⟩
  refine wpAny_Call_Name_kw (ld_glob I hg hm ?_ hdb)
  refine PySem.W.callWith_KW0 (h₀ := X.base) I.ok.mod.kin hk hall ?_ hpl
  refine thn (hkw.run pos pins s σ H _ I h) fun ws s2 ⟨zs, H2, I2, rz, q2⟩ => ⟨I2.kIn, ?_⟩
  rw [hks]
  exact run_fnk (us := []) (vs := []) F hr hb hx I2 .nil rz q2
end
theorem eq_sum {K : PySem.W.Frag} {E : XK} {te : TE} {σ : L2.St} {H : Hp} {qs : List Rat} (h : ELF te σ H qs) (h8 : qs.length ≤ 8) (hb : ∀ q ∈ qs, BdQ 3510 810 q) : EvQ (tCall (sp__law_sum K) [] E (tCons te tNil)) σ H (qs.foldl (· + ·) 0) := fun H1 e Q k =>
  h H1 e _ fun p bs H2 np e2 hF => ⟨p, bs, qs, rfl, hF, h8, hb, fun t H3 nt e3 ht => k t H3 (e2.trans e3) ht⟩
theorem ev_neFl {K : PySem.W.Frag} {ta tb : TE} {σ : L2.St} {H : Hp} {qs : List Rat} {q : Addr} {cs : List Addr} (ha : ELF ta σ H qs) (hb : Ev tb σ H (.ref q)) (hq : FrL H q cs qs) : Ev (tOp (rNeD K) ta tb) σ H (.bl false) := fun H1 e Q k =>
  ha H1 e _ fun p bs H2 _ e2 hp => hb H2 (e.trans e2) _ fun H3 e3 => rv_neF (hp.ex e3) (hq.ex ((e.trans e2).trans e3)) H3 (Ex.refl _) Q fun H4 e4 => k H4 ((e2.trans e3).trans e4)
theorem ev_neF2 {K : PySem.W.Frag} {ta tb : TE} {σ : L2.St} {H : Hp} {qs : List Rat} (ha : ELF ta σ H qs) (hb : ELF tb σ H qs) : Ev (tOp (rNeD K) ta tb) σ H (.bl false) := fun H1 e Q k =>
  ha H1 e _ fun p bs H2 _ e2 hp => hb H2 (e.trans e2) _ fun q cs H3 _ e3 hq => rv_neF (hp.ex e3) hq H3 (Ex.refl _) Q fun H4 e4 => k H4 ((e2.trans e3).trans e4)
section
variable {K : PySem.W.Frag} {C : Addr} {E E' : XK} {σ : L2.St} {H : Hp} {i j l : Nat} {s p v : Addr} {as vs : List Addr} {rows : List (List Int)} {m w : Nat} {qs : List Rat}
theorem el_led (h1 : σ[i]? = some (some (.ref p))) (h2 : σ[j]? = some (some (.ref v))) (hT : TabOk H p as rows m w) (hF : FN s H v vs qs) (hq : qs.length = w) (bn : ∀ r ∈ rows, ∀ y ∈ r, Bd 210 y) (bq : ∀ q ∈ qs, BdQ 3300 810 q) :
    ELF (tCall (sp_led K C) [] E (tCons (tVar i) (tCons (tVar j) tNil))) σ H (rows.map fun r => fsum r qs) := fun H1 e Q k =>
  ⟨_, h1, _, h2, s, p, .ref v, as, rows, m, w, _, rfl, hT.ex e, xs_fr (hF.ex e).fl hF.v_ hF.vs_ (by have := hT.b; omega), .inr ⟨is_fr hq, v, vs, qs, rfl, (hF.ex e).fl, hq, bn, bq, fun c cs H' nc e' h => k c cs H' nc e' h⟩⟩
theorem el_ledK (h1 : σ[i]? = some (some (.ref p))) (h2 : σ[j]? = some (some (.ref v))) (hT : TabOk H p as rows m w) (hF : FN s H v vs qs) (hq : qs.length = w) (bn : ∀ r ∈ rows, ∀ y ∈ r, Bd 210 y) (bq : ∀ q ∈ qs, BdQ 3300 810 q) :
    ELF (tCallK (sp_led K C) (gPm [1, 0] 0 2) E tNil (tCons (tVar j) (tCons (tVar i) tNil))) σ H (rows.map fun r => fsum r qs) := fun H1 e Q k =>
  ⟨_, h2, _, h1, s, p, .ref v, as, rows, m, w, _, rfl, hT.ex e, xs_fr (hF.ex e).fl hF.v_ hF.vs_ (by have := hT.b; omega), .inr ⟨is_fr hq, v, vs, qs, rfl, (hF.ex e).fl, hq, bn, bq, fun c cs H' nc e' h => k c cs H' nc e' h⟩⟩
variable {g : Addr} {bs : List Addr} {r2 : List (List Int)} {m2 w2 : Nat}
theorem prod_ok {H : Hp} {c : Addr} {cs : List Addr} (hT : Tab H c cs (prod rows r2 w2)) (hm : rows.length = m) (b1 : 1 ≤ m ∧ m ≤ 8) (b2 : 1 ≤ w2 ∧ w2 ≤ 8) : TabOk H c cs (prod rows r2 w2) m w2 := ⟨hT, by rw [prod_len, hm], prod_w, ⟨b1.1, b1.2, b2.1, b2.2⟩⟩
theorem et_prod (h1 : σ[i]? = some (some (.ref p))) (h2 : σ[j]? = some (some (.ref g))) (hT : TabOk H p as rows m w) (hU : TabOk H g bs r2 m2 w2) (c : w = m2) (b1 : ∀ r ∈ rows, ∀ y ∈ r, Bd 1000 y) (b2 : ∀ r ∈ r2, ∀ y ∈ r, Bd 1000 y) :
    EvTab (tCall (sp_product K C) [] E (tCons (tVar i) (tCons (tVar j) tNil))) σ H (prod rows r2 w2) := fun H1 e Q k =>
  ⟨_, h1, _, h2, p, g, as, bs, rows, r2, m, w, m2, w2, rfl, hT.ex e, hU.ex e, b1, b2, .inr ⟨c, fun c cs H' nc ncs nd nccs e' h => k c cs H' nc ncs nd nccs e' h⟩⟩
theorem et_prod2 {ta : TE} {r0 : List (List Int)} (ha : EvTab ta σ H r0) (h2 : σ[j]? = some (some (.ref g))) (hm : r0.length = m) (hw : ∀ r ∈ r0, r.length = w) (hb : 1 ≤ m ∧ m ≤ 8 ∧ 1 ≤ w ∧ w ≤ 8) (hU : TabOk H g bs r2 m2 w2) (c : w = m2) (b1 : ∀ r ∈ r0, ∀ y ∈ r, Bd 1000 y) (b2 : ∀ r ∈ r2, ∀ y ∈ r, Bd 1000 y) :
    EvTab (tCall (sp_product K C) [] E (tCons ta (tCons (tVar j) tNil))) σ H (prod r0 r2 w2) := fun H1 e Q k =>
  ha H1 e _ fun p as H2 np nas nd npas e2 hT => ⟨_, h2, p, g, as, bs, r0, r2, m, w, m2, w2, rfl, ⟨hT, hm, hw, hb⟩, hU.ex (e.trans e2), b1, b2, .inr ⟨c, fun c cs H' nc ncs nd nccs e' h => k c cs H' (fresh_back e2 nc) (fun a ha => fresh_back e2 (ncs a ha)) nd nccs (e2.trans e') h⟩⟩
theorem el_ledP {ta : TE} {r0 : List (List Int)} (ha : EvTab ta σ H r0) (h2 : σ[j]? = some (some (.ref v))) (hm : r0.length = m) (hw : ∀ r ∈ r0, r.length = w) (hb : 1 ≤ m ∧ m ≤ 8 ∧ 1 ≤ w ∧ w ≤ 8) (hF : FN s H v vs qs) (hq : qs.length = w) (bn : ∀ r ∈ r0, ∀ y ∈ r, Bd 210 y) (bq : ∀ q ∈ qs, BdQ 3300 810 q) :
    ELF (tCall (sp_led K C) [] E (tCons ta (tCons (tVar j) tNil))) σ H (r0.map fun r => fsum r qs) := fun H1 e Q k =>
  ha H1 e _ fun p as H2 np nas nd npas e2 hT => ⟨_, h2, s, p, .ref v, as, r0, m, w, _, rfl, ⟨hT, hm, hw, hb⟩, xs_fr (hF.ex (e.trans e2)).fl hF.v_ hF.vs_ (by omega), .inr ⟨is_fr hq, v, vs, qs, rfl, (hF.ex (e.trans e2)).fl, hq, bn, bq, fun c cs H' nc e' h => k c cs H' (fresh_back e2 nc) (e2.trans e') h⟩⟩
end
/-! lists that are none of so many fractions -/
theorem fks_some {K : PySem.W.Frag} {s : Addr} {H : Hp} : ∀ {xs : List V}, (∀ x ∈ xs, ∃ r, FK K s H x r) → ∃ rs, Paired (FK K s H) xs rs
  | [], _ => ⟨[], .nil⟩
  | x :: xs, h => by
    obtain ⟨r, hr⟩ := h x (List.mem_cons_self ..)
    obtain ⟨rs, hrs⟩ := fks_some fun y hy => h y (List.mem_cons_of_mem _ hy)
    exact ⟨r :: rs, .cons hr hrs⟩
theorem no_len {rs : List Bool} {n : Nat} (h : rs.length ≠ n) : isFr (some rs) (n : Int) = false := by
  show (decide ((rs.length : Int) = (n : Int)) && _) = false
  rw [decide_eq_false (fun z => h (by omega))]
  rfl
theorem no_last {rs : List Bool} {n : Int} : isFr (some (rs ++ [false])) n = false := by
  show (decide (((rs ++ [false]).length : Int) = n) && (rs ++ [false]).all id) = false
  rw [List.all_append]
  simp
def NoFr (K : PySem.W.Frag) (s : Addr) (H : Hp) (w : Nat) (v : V) : Prop := ∃ pr, XsAt K s H v pr ∧ isFr pr (w : Int) = false
theorem nofr_oth {K : PySem.W.Frag} {s : Addr} {H : Hp} {w : Nat} {v : V} {t : String} (h : Kd s H v t) (n : t ≠ "list") : NoFr K s H w v := ⟨none, .oth h n, rfl⟩
theorem nofr_len {K : PySem.W.Frag} {s a : Addr} {H : Hp} {w : Nat} {xs : List V} (h : H a = some (.lst xs)) (n : a ≠ s) (l : xs.length ≤ 20) (i : ∀ x ∈ xs, ∃ r, FK K s H x r) (hl : xs.length ≠ w) : NoFr K s H w (.ref a) := by
  obtain ⟨rs, hrs⟩ := fks_some i
  exact ⟨some rs, .lst h n l hrs, no_len (by rw [← Paired.length hrs]; exact hl)⟩
theorem nofr_last {K : PySem.W.Frag} {s a : Addr} {H : Hp} {w : Nat} {xs : List V} {x : V} (h : H a = some (.lst (xs ++ [x]))) (n : a ≠ s) (l : (xs ++ [x]).length ≤ 20) (i : ∀ x ∈ xs, ∃ r, FK K s H x r) (hx : FK K s H x false) : NoFr K s H w (.ref a) := by
  obtain ⟨rs, hrs⟩ := fks_some i
  exact ⟨some (rs ++ [false]), .lst h n l (paired_snoc hrs hx), no_last⟩
theorem fk_int {K : PySem.W.Frag} {s : Addr} {H : Hp} {i : Int} : FK K s H (.int i) false := fun H' _ => .no (.base (.int i)) (.inl rfl) (by decide)
theorem fk_tup {K : PySem.W.Frag} {s a : Addr} {H : Hp} {t b : Int} (h : H a = some (.tup [.int t, .int b])) (n : a ≠ s) : FK K s H (.ref a) (decide (1 ≤ b) && decide (gcdI t b = 1)) := fun H' e => .two (e _ _ n h (fun _ z => by cases z))
theorem fks_any {K : PySem.W.Frag} {s : Addr} {H : Hp} {bs : List Addr} {qs : List Rat} (h : FrsAt H bs qs) (n : ∀ a ∈ bs, a ≠ s) : ∀ x ∈ bs.map V.ref, ∃ r, FK K s H x r := fun x hx => by
  obtain ⟨r, _, hr⟩ := paired_mem (fks_fr (K := K) h n) hx
  exact ⟨r, hr⟩
theorem mem_cutV {xs : List V} {lo hi : Option Int} {v : V} (h : v ∈ cutV xs lo hi) : v ∈ xs := List.mem_of_mem_drop (List.mem_of_mem_take h)
theorem cut_tail {xs : List V} {n : Nat} (h : xs.length = n) (h1 : 1 ≤ n) (h8 : n ≤ 8) : (cutV xs (some 1) none).length ≠ n := by
  unfold cutV
  have e : HT.sIx n 0 (some 1) = 1 := by
    have : n = 1 ∨ n = 2 ∨ n = 3 ∨ n = 4 ∨ n = 5 ∨ n = 6 ∨ n = 7 ∨ n = 8 := by omega
    rcases this with rfl | rfl | rfl | rfl | rfl | rfl | rfl | rfl <;> rfl
  rw [List.length_take, List.length_drop, h, e]
  omega

def sp_law (K : PySem.W.Frag) (P : Addr) : Sp := fun vs H Q _ => ∃ (a : Addr) (ns : List Int), vs = [.ref a] ∧ SqL K H a (ns.map V.int) ∧ ns.length ≤ 63 ∧ H P = some (.tbl #[]) ∧ ∀ H', Q (.bl true) H'

theorem ok_law (T : Txt K mg) (TB : TabB base mg T.c_law T.P_law) : FnOk P w K mg base CX0 9 T.f_law T.fd_law ["_law_script"] (sp_law K T.P_law) := by
  obtain ⟨ocL, odL, kVL, docL, pmL, anL, ctL, oslL, eL, lkL, hcL⟩ := T.lkL
  obtain ⟨oc_said, od_said, kV_said, doc_said, pm_said, an_said, cdv_said, ct_said, osl_said, e_said, lk_said, hc_said⟩ := T.F__law_said.ex
  have hb_said := T.b__law_said
  rw [e_said] at lk_said hb_said
  rw [eL] at lkL ⊢
  refine fn_of lkL hcL sc_law (fun vs H Q E h => ?_) (fun A outer s H vs Q E hr h => ?_)
  · obtain ⟨_, _, rfl, _⟩ := h; rfl
  · refine ⟨_, PSs.nox (pss_cons (ps_for PassesOwn.never rfl (pi_list (pe_op op_cat (pe_lst (pa_cons (pe_call (ok__law_cell_at T) (hr.mono (by decide)) (by rfl) T.g__law_cell_at T.k__law_cell_at T.b__law_cell_at .nil pass0 (pa_cons (pv 0) (pa_cons pe_int pa_nil))) pa_nil)) (pe_slice (r := rSlL K) sl_list (pv 0) (po_some pe_int) (po_some pe_int)))) (pg_name (i := 1) sc_law.nd rfl (by first | exact Or.inl rfl | exact Or.inr rfl))
        (pss_cons (ps_set (i := 2) sc_law.nd rfl (by first | exact Or.inl rfl | exact Or.inr rfl) (pe_call (ok__law_source_of T) (hr.mono (by decide)) (by rfl) T.g__law_source_of T.k__law_source_of T.b__law_source_of .nil pass0 (pa_cons (pv 1) pa_nil)))
          (pss_cons (ps_set (i := 3) sc_law.nd rfl (by first | exact Or.inl rfl | exact Or.inr rfl) (pe_call (ok__law_table T) (hr.mono (by decide)) (by rfl) T.g__law_table T.k__law_table T.b__law_table .nil pass0 (pa_cons (pv 2) (pa_cons pe_int pa_nil))))
          (pss_cons (ps_set (i := 4) sc_law.nd rfl (by first | exact Or.inl rfl | exact Or.inr rfl) (pe_call (ok__law_table T) (hr.mono (by decide)) (by rfl) T.g__law_table T.k__law_table T.b__law_table .nil pass0 (pa_cons (pv 2) (pa_cons pe_int pa_nil))))
          (pss_cut (ps_if (pt_cmpR op_gt (pe_call (ok__law_next T) (hr.mono (by decide)) (by rfl) T.g__law_next T.k__law_next T.b__law_next .nil pass0 (pa_cons (pv 2) (pa_cons pe_int pa_nil))) pe_int (nomark _))
            (pss_one (ps_set (i := 4) sc_law.nd rfl (by first | exact Or.inl rfl | exact Or.inr rfl) (pe_lc (own := [("_law_row", 11)]) (wi := iList K _) (g := gName 11) (tt := tYes) rfl sc_law.nd (pi_list (pe_ix (r := rIxL K) ix_list (pv 3) pe_int (fun _ _ => rfl))) (blkOk_by (N := ["_law_script", "_law_cell", "_law_source", "_law_this", "_law_that", "_law_due", "_law_values_here", "_law_leads", "_law_odd", "_law_third", "_law_both", "_law_row", "_law_j", "_law_a", "_law_x", "_law_y"]) (sc := (defScope s_law)) (by decide +kernel)) (fun _ _ _ _ _ => pg_name (i := 11) sc_law.nd rfl (Or.inl rfl)) (fun _ _ _ _ _ => pts_nil) (fun _ _ _ _ _ => (pe_lc (own := [("_law_j", 12)]) (wi := iList K _) (g := gName 12) (tt := tYes) rfl sc_law.nd (pi_list (pe_ix (r := rIxL K) ix_list (pv 4) pe_int (fun _ _ => rfl))) (blkOk_by (N := ["_law_script", "_law_cell", "_law_source", "_law_this", "_law_that", "_law_due", "_law_values_here", "_law_leads", "_law_odd", "_law_third", "_law_both", "_law_row", "_law_j", "_law_a", "_law_x", "_law_y"]) (sc := (relS ({ kind := .function, names := [(".0", .local), ("_law_row", .local), ("_law_source", .free), ("_law_that", .free)], isGenerator := false, isCoroutine := false } : Scope) (defScope s_law))) (by decide +kernel)) (fun _ _ _ _ _ => pg_name (i := 12) sc_law.nd rfl (Or.inl rfl)) (fun _ _ _ _ _ => pts_nil) (fun _ _ _ _ _ => (pe_op op_sub (pe_call (ok__law_next T) (hr.mono (by decide)) (by rfl) T.g__law_next T.k__law_next T.b__law_next .nil pass0 (pa_cons (pv 2) (pa_cons pe_int pa_nil))) pe_int)))))))
            pss_nil)
          (pss_cut (ps_set (i := 5) sc_law.nd rfl (by first | exact Or.inl rfl | exact Or.inr rfl) (pe_tup (pa_cons pe_str (pa_cons pe_int pa_nil))))
          (pss_cut (ps_if (pt_cmpR op_eq (pe_callB (id := "len") (r := rLenS K) call_len_seq (by rfl) T.n_len PySem.boot_len (pa_cons (pv 4) pa_nil)) (pe_callB (id := "len") (r := rLenS K) call_len_seq (by rfl) T.n_len PySem.boot_len (pa_cons (pe_ix (r := rIxL K) ix_list (pv 3) pe_int (fun _ _ => rfl)) pa_nil)) (nomark _))
            (pss_one (ps_set (i := 5) sc_law.nd rfl (by first | exact Or.inl rfl | exact Or.inr rfl) (pe_tup (pa_cons pe_str (pa_cons (pe_call (ok__law_product T) (hr.mono (by decide)) (by rfl) T.g__law_product T.k__law_product T.b__law_product .nil pass0 (pa_cons (pv 3) (pa_cons (pv 4) pa_nil))) pa_nil)))))
            pss_nil)
          (pss_cons (ps_if (pt_cmpR (r := rNeD K) (op_neD hr.units) (pe_lamAt (k := 6) (T := [(T.P_law, lamQ)]) (TT := TT__law_said T) (by rfl) T.g__law_said T.k__law_said lk_said hc_said hb_said sc__law_said rfl (.inl rfl) (gives__law_said (X := (cxOf CX0 P w K mg base ["_law_script", "_law_cell", "_law_source", "_law_this", "_law_that", "_law_due", "_law_values_here", "_law_leads", "_law_odd", "_law_third", "_law_both", "_law_row", "_law_j", "_law_a", "_law_x", "_law_y"] "law" (defScope s_law) T.f_law (.ref T.c_law) A outer s H E).nox) T) TB rfl (List.mem_singleton.mpr rfl) (fun p hp _ => by rw [List.mem_singleton.mp hp]; rfl) (hr.mono (by decide)) (lamS_by (sc := defScope s_law) (by decide +kernel)) rfl (fun _ _ _ _ _ => rfl) (fun A outer s H E f c' hr2 => (pe_call (ok_product T) (hr2.mono (by decide)) (by rfl) T.g_product T.k_product T.b_product .nil (passes_call (takes_of rfl rfl rfl rfl) (fun _ _ _ _ h => h)) (pa_cons (pv 3) (pa_cons (pv 4) pa_nil))))) (pv 5) (nomark _))
            (pss_one (ps_ret pe_bl))
            pss_nil)
          (pss_cons (ps_if (pt_cmpR (r := rNeD K) (op_neD hr.units) (pe_lamAt (k := 6) (T := [(T.P_law, lamQ)]) (TT := TT__law_said T) (by rfl) T.g__law_said T.k__law_said lk_said hc_said hb_said sc__law_said rfl (.inl rfl) (gives__law_said (X := (cxOf CX0 P w K mg base ["_law_script", "_law_cell", "_law_source", "_law_this", "_law_that", "_law_due", "_law_values_here", "_law_leads", "_law_odd", "_law_third", "_law_both", "_law_row", "_law_j", "_law_a", "_law_x", "_law_y"] "law" (defScope s_law) T.f_law (.ref T.c_law) A outer s H E).nox) T) TB rfl (List.mem_singleton.mpr rfl) (fun p hp _ => by rw [List.mem_singleton.mp hp]; rfl) (hr.mono (by decide)) (lamS_by (sc := defScope s_law) (by decide +kernel)) rfl (fun _ _ _ _ _ => rfl) (fun A outer s H E f c' hr2 => (pe_callK0 (ok_product T) (hr2.mono (by decide)) (by rfl) T.g_product T.k_product (kb_of [1, 0] 0 2 (by simp) T.F_product fun _ _ _ _ _ _ us ws l1 l2 => match us, ws, l1, l2 with | [], [_, _], _, _ => rfl) (passes_call (takes_of rfl rfl rfl rfl) (fun _ _ _ _ h => h)) (pk_cons (pv 4) (pk_cons (pv 3) pk_nil))))) (pv 5) (nomark _))
            (pss_one (ps_ret pe_bl))
            pss_nil)
          (pss_cut (ps_set (i := 6) sc_law.nd rfl (by first | exact Or.inl rfl | exact Or.inr rfl) (pe_call (ok__law_values T) (hr.mono (by decide)) (by rfl) T.g__law_values T.k__law_values T.b__law_values .nil pass0 (pa_cons (pv 2) (pa_cons (pe_callB (id := "len") (r := rLenS K) call_len_seq (by rfl) T.n_len PySem.boot_len (pa_cons (pe_ix (r := rIxL K) ix_list (pv 4) pe_int (fun _ _ => rfl)) pa_nil)) pa_nil))))
          (pss_cut (ps_setLc (i := 7) (own := [("_law_row", 11)]) (wi := iList K _) (g := gName 11) (tt := tYes) rfl sc_law.nd rfl rfl (sw_true rfl rfl rfl (by decide +kernel)) (pi_list (pv 4)) (blkOk_by (N := ["_law_script", "_law_cell", "_law_source", "_law_this", "_law_that", "_law_due", "_law_values_here", "_law_leads", "_law_odd", "_law_third", "_law_both", "_law_row", "_law_j", "_law_a", "_law_x", "_law_y"]) (sc := (defScope s_law)) (by decide +kernel)) (fun _ _ _ _ _ => pg_name (i := 11) sc_law.nd rfl (Or.inl rfl)) (fun _ _ _ _ _ => pts_nil) (fun _ _ _ _ _ => (pe_call (ok__law_sum T) (hr.mono (by decide)) (by rfl) T.g__law_sum T.k__law_sum T.b__law_sum .nil pass0 (pa_cons (pe_lc (own := [("_law_a", 13), ("_law_x", 14), ("_law_y", 15)]) (wi := iZip K _) (g := gTup K 2 (gCons (gName 13) (gCons (gTup K 2 (gCons (gName 14) (gCons (gName 15) gNil))) gNil))) (tt := tYes) rfl sc_law.nd (pi_zip (by rfl) T.n_zip (pa_cons (pv 11) (pa_cons (pv 6) pa_nil))) (blkOk_by (N := ["_law_script", "_law_cell", "_law_source", "_law_this", "_law_that", "_law_due", "_law_values_here", "_law_leads", "_law_odd", "_law_third", "_law_both", "_law_row", "_law_j", "_law_a", "_law_x", "_law_y"]) (sc := (relS ({ kind := .function, names := [(".0", .local), ("_law_row", .local), ("_law_sum", .globalImplicit), ("zip", .globalImplicit), ("_law_values_here", .free)], isGenerator := false, isCoroutine := false } : Scope) (defScope s_law))) (by decide +kernel)) (fun _ _ _ _ _ => (pg_tup rfl (pgs_cons (pg_name (i := 13) sc_law.nd rfl (Or.inl rfl)) (pgs_cons (pg_tup rfl (pgs_cons (pg_name (i := 14) sc_law.nd rfl (Or.inl rfl)) (pgs_cons (pg_name (i := 15) sc_law.nd rfl (Or.inl rfl)) pgs_nil))) pgs_nil)))) (fun _ _ _ _ _ => pts_nil) (fun _ _ _ _ _ => (pe_call (ok__law_low T) (hr.mono (by decide)) (by rfl) T.g__law_low T.k__law_low T.b__law_low .nil pass0 (pa_cons (pe_op op_mulW (pv 13) (pv 14)) (pa_cons (pv 15) pa_nil))))) pa_nil))))
          (pss_cons (ps_if (PW.pt (pw_or (pt_cmpR (r := rNeD K) (op_neD hr.units) (pe_call (ok_led T) (hr.mono (by decide)) (by rfl) T.g_led T.k_led T.b_led .nil passL (pa_cons (pv 4) (pa_cons (pv 6) pa_nil))) (pv 7) (nomark _)) (pw_or1 (pt_cmpR (r := rNeD K) (op_neD hr.units) (pe_callK0 (ok_led T) (hr.mono (by decide)) (by rfl) T.g_led T.k_led (kb_of [1, 0] 0 2 (by simp) T.F_led fun _ _ _ _ _ _ us ws l1 l2 => match us, ws, l1, l2 with | [], [_, _], _, _ => rfl) passL (pk_cons (pv 6) (pk_cons (pv 4) pk_nil))) (pv 7) (nomark _)))))
            (pss_one (ps_ret pe_bl))
            pss_nil)
          (pss_cut (ps_if (PW.pt (pw_and (pt_cmpR op_eq (pe_ix (r := rIxT K) ix_tup (pv 5) pe_int (fun _ _ => rfl)) pe_str (nomark _)) (pw_and1 (pt_cmpR (r := rNeD K) (op_neD hr.units) (pe_call (ok_led T) (hr.mono (by decide)) (by rfl) T.g_led T.k_led T.b_led .nil passL (pa_cons (pe_call (ok_product T) (hr.mono (by decide)) (by rfl) T.g_product T.k_product T.b_product .nil passL (pa_cons (pv 3) (pa_cons (pv 4) pa_nil))) (pa_cons (pv 6) pa_nil))) (pe_call (ok_led T) (hr.mono (by decide)) (by rfl) T.g_led T.k_led T.b_led .nil passL (pa_cons (pv 3) (pa_cons (pv 7) pa_nil))) (nomark _)))))
            (pss_one (ps_ret pe_bl))
            pss_nil)
          (pss_cut (ps_set (i := 8) sc_law.nd rfl (by first | exact Or.inl rfl | exact Or.inr rfl) (pe_lst (pa_cons (pe_op op_cat (pv 6) (pe_lst (pa_cons (pe_tup (pa_cons pe_int (pa_cons pe_int pa_nil))) pa_nil))) (pa_cons (pe_slice (r := rSlL K) sl_list (pv 6) (po_some pe_int) po_none) (pa_cons (pe_callTy (T := "tuple") call_tuple_of (by rfl) T.n_tuple (by decide +kernel) (pa_cons (pv 6) pa_nil)) (pa_cons pe_non (pa_cons (pe_op op_cat (pe_slice (r := rSlL K) sl_list (pv 6) po_none (po_some (pe_un un_neg pe_int))) (pe_lst (pa_cons pe_int pa_nil))) (pa_cons (pe_op op_cat (pe_slice (r := rSlL K) sl_list (pv 6) po_none (po_some (pe_un un_neg pe_int))) (pe_lst (pa_cons (pe_tup (pa_cons pe_int (pa_cons pe_int pa_nil))) pa_nil))) (pa_cons pe_str (pa_cons pe_dnewK pa_nil))))))))))
          (pss_cons (ps_if (pt_cmpR (r := rNeD K) (op_neD hr.units) (pe_lamAt (k := 6) (T := [(T.P_law, lamQ)]) (TT := TT__law_said T) (by rfl) T.g__law_said T.k__law_said lk_said hc_said hb_said sc__law_said rfl (.inl rfl) (gives__law_said (X := (cxOf CX0 P w K mg base ["_law_script", "_law_cell", "_law_source", "_law_this", "_law_that", "_law_due", "_law_values_here", "_law_leads", "_law_odd", "_law_third", "_law_both", "_law_row", "_law_j", "_law_a", "_law_x", "_law_y"] "law" (defScope s_law) T.f_law (.ref T.c_law) A outer s H E).nox) T) TB rfl (List.mem_singleton.mpr rfl) (fun p hp _ => by rw [List.mem_singleton.mp hp]; rfl) (hr.mono (by decide)) (lamS_by (sc := defScope s_law) (by decide +kernel)) rfl (fun _ _ _ _ _ => rfl) (fun A outer s H E f c' hr2 => (pe_call (ok_led T) (hr2.mono (by decide)) (by rfl) T.g_led T.k_led T.b_led .nil (passes_call (takes_of rfl rfl rfl rfl) (fun _ _ _ _ h => h)) (pa_cons (pv 4) (pa_cons (pe_ix (r := rIxL K) ix_list (pv 8) (pe_call (ok__law_next T) (hr2.mono (by decide)) (by rfl) T.g__law_next T.k__law_next T.b__law_next .nil pass0 (pa_cons (pv 2) (pa_cons pe_int pa_nil))) (fun _ _ => rfl)) pa_nil))))) (pe_tup (pa_cons pe_str (pa_cons pe_int pa_nil))) (nomark _))
            (pss_one (ps_ret pe_bl))
            pss_nil)
          (pss_cut (ps_setLc (i := 9) (own := [("_law_row", 11)]) (wi := iList K _) (g := gName 11) (tt := tYes) rfl sc_law.nd rfl rfl (sw_true rfl rfl rfl (by decide +kernel)) (pi_list (pe_ix (r := rIxL K) ix_list (pv 4) pe_int (fun _ _ => rfl))) (blkOk_by (N := ["_law_script", "_law_cell", "_law_source", "_law_this", "_law_that", "_law_due", "_law_values_here", "_law_leads", "_law_odd", "_law_third", "_law_both", "_law_row", "_law_j", "_law_a", "_law_x", "_law_y"]) (sc := (defScope s_law)) (by decide +kernel)) (fun _ _ _ _ _ => pg_name (i := 11) sc_law.nd rfl (Or.inl rfl)) (fun _ _ _ _ _ => pts_nil) (fun _ _ _ _ _ => (pe_lc (own := [("_law_j", 12)]) (g := gName 12) (tt := tYes) rfl sc_law.nd (pi_range1 (by rfl) T.n_range (pa_cons pe_int pa_nil)) (blkOk_by (N := ["_law_script", "_law_cell", "_law_source", "_law_this", "_law_that", "_law_due", "_law_values_here", "_law_leads", "_law_odd", "_law_third", "_law_both", "_law_row", "_law_j", "_law_a", "_law_x", "_law_y"]) (sc := (relS ({ kind := .function, names := [(".0", .local), ("_law_row", .local), ("range", .globalImplicit), ("_law_source", .free)], isGenerator := false, isCoroutine := false } : Scope) (defScope s_law))) (by decide +kernel)) (fun _ _ _ _ _ => pg_name (i := 12) sc_law.nd rfl (Or.inl rfl)) (fun _ _ _ _ _ => pts_nil) (fun _ _ _ _ _ => (pe_op op_sub (pe_call (ok__law_next T) (hr.mono (by decide)) (by rfl) T.g__law_next T.k__law_next T.b__law_next .nil pass0 (pa_cons (pv 2) (pa_cons pe_int pa_nil))) pe_int)))))
          (pss_one (ps_if (pt_cmpR op_eq (pe_ix (r := rIxT K) ix_tup (pv 5) pe_int (fun _ _ => rfl)) pe_str (nomark _))
            (pss_cons (ps_set (i := 10) sc_law.nd rfl (by first | exact Or.inl rfl | exact Or.inr rfl) (pe_call (ok_product T) (hr.mono (by decide)) (by rfl) T.g_product T.k_product T.b_product .nil passL (pa_cons (pv 4) (pa_cons (pv 9) pa_nil))))
              (pss_one (ps_if (pt_cmpR (r := rNeD K) (op_neD hr.units) (pe_call (ok_product T) (hr.mono (by decide)) (by rfl) T.g_product T.k_product T.b_product .nil passL (pa_cons (pe_call (ok_product T) (hr.mono (by decide)) (by rfl) T.g_product T.k_product T.b_product .nil passL (pa_cons (pv 3) (pa_cons (pv 4) pa_nil))) (pa_cons (pv 9) pa_nil))) (pe_call (ok_product T) (hr.mono (by decide)) (by rfl) T.g_product T.k_product T.b_product .nil passL (pa_cons (pv 3) (pa_cons (pv 10) pa_nil))) (nomark _))
                (pss_one (ps_ret pe_bl))
                pss_nil)))
            pss_nil))))))))))))))))))
      (pss_one (ps_ret pe_bl))), ?_⟩
    obtain ⟨a0, ns, rfl, hS, hlen, hP, q⟩ := h
    refine ⟨_, rfl, a0, ns, 0, rfl, hS, by decide, fun c0 => ⟨(by show 1 ≤ sizeLine; decide), fun p0 np0 => ⟨_, rfl, ?_⟩⟩⟩
    have x0 := Ex.new (o := .lst [V.int c0]) np0
    refine ⟨1, rfl, 6, rfl, a0, _, rfl, ex_l x0 hS, fun p1 np1 => ?_⟩
    obtain ⟨ys, hys⟩ := cutV_ints ns (some 1) (some 6)
    have hyl : ys.length ≤ 63 := by
      have h1 := cutV_length (ns.map V.int) (some 1) (some 6)
      rw [hys, List.length_map, List.length_map] at h1
      omega
    rw [hys]
    have x1 := Ex.new (o := .lst (ys.map V.int)) np1
    refine ⟨p0, p1, _, _, rfl, rfl, x1 _ _ upd_same, upd_same, ?_, fun p2 np2 => ?_⟩
    · have : ([V.int c0].length + (ys.map V.int).length) ≤ 1000 := by
        rw [List.length_map]
        show 1 + ys.length ≤ 1000
        omega
      exact Nat.le_trans this (by decide)
    have x2 := Ex.new (o := .lst ([V.int c0] ++ ys.map V.int)) np2
    have x02 := (x0.trans x1).trans x2
    have tb : LamX.Tabs [(T.P_law, lamQ)] (upd (upd (upd H p0 (.lst [V.int c0])) p1 (.lst (ys.map V.int))) p2 (.lst ([V.int c0] ++ ys.map V.int))) := fun p hp => by
      rw [List.mem_singleton.mp hp]
      exact LamX.TabS.nil (x02 _ _ hP)
    refine ⟨p2, rfl, ⟨_, SqL.of upd_same⟩, for_list (K := K) (a := p2) (xs := [V.int c0] ++ ys.map V.int) (fun i σ H' => ∃ y1 y2 y3 y4 y5 y6 y7 y8 y9 y10 y11 y12 y13 y14 y15 : Option V, σ = [some (.ref a0), y1, y2, y3, y4, y5, y6, y7, y8, y9, y10, y11, y12, y13, y14, y15] ∧ H' p2 = some (.lst ([V.int c0] ++ ys.map V.int)) ∧ LamX.Tabs [(T.P_law, lamQ)] H')
      ⟨_, _, _, _, _, _, _, _, _, _, _, _, _, _, _, rfl, upd_same, tb⟩ (fun i σ H' _ ⟨_, _, _, _, _, _, _, _, _, _, _, _, _, _, _, _, h, _⟩ => SqL.of h) ?_ (fun σ H' _ => q H')⟩
    rintro i x σ H0 hi ⟨y1, y2, y3, y4, y5, y6, y7, y8, y9, y10, y11, y12, y13, y14, y15, rfl, hp2, tb0⟩
    obtain ⟨c, rfl⟩ : ∃ c : Int, x = .int c := by
      rcases List.mem_append.mp (List.mem_of_getElem? hi) with h | h
      · exact ⟨c0, by simpa using h⟩
      · obtain ⟨c, _, rfl⟩ := List.mem_map.mp h
        exact ⟨c, rfl⟩
    clear hi tb x02 x2 np2 x1 np1 x0 np0 hyl hys hS hlen hP
    -- source, tables
    refine ⟨_, rfl, c, rfl, fun s H1 n1 e1 s1 => ?_⟩
    refine ⟨_, rfl, s, 0, 8, rfl, s1, by decide, by decide, by decide, fun as1 r1 g1 H2 m1 w1 hm1 hm18 hw1 hw18 hN1 hl1 e2 s2 => ?_⟩
    refine ⟨_, rfl, s, _, 8, rfl, s2, by decide, by decide, by decide, fun as2 r2 g2 H3 m2 w2 hm2 hm28 hw2 hw28 hN2 hl2 e3 s3 => ?_⟩
    have K3 : LK T.P_law H0 H3 s 2000 g1 g2 as1 as2 r1 r2 := ⟨LamX.ExtN.of (e3.ex n1 (e2.ex n1 e1)), n1, s3.le (by omega), (TN.of s1 hN1.p0 hN1.a0 hN1.tab).exB e3, TN.of s2 hN2.p0 hN2.a0 hN2.tab, tb0.ext (e3.ex n1 (e2.ex n1 e1))⟩
    have d1 : ∀ r ∈ r1, r.length = w1 := fun r hr => (hN1.ok r hr).1
    have b1 : ∀ r ∈ r1, ∀ y ∈ r, Bd 100 y := fun r hr y hy => bd_ten (Nat.lt_of_le_of_lt ((hN1.ok r hr).2 y hy) (by decide +kernel))
    have d2 : ∀ r ∈ r2, r.length = w2 := fun r hr => (hN2.ok r hr).1
    have b2 : ∀ r ∈ r2, ∀ y ∈ r, Bd 100 y := fun r hr y hy => bd_ten (Nat.lt_of_le_of_lt ((hN2.ok r hr).2 y hy) (by decide +kernel))
    clear hN1 hN2 e1 e2 e3 s1 s2 s3 n1 tb0
    
    refine ⟨fun σ' H' => ∃ (g2 : Addr) (as2 : List Addr) (r2 : List (List Int)) (m2 w2 : Nat), σ' = [some (.ref a0), some (.int c), some (.ref s), some (.ref g1), some (.ref g2), y5, y6, y7, y8, y9, y10, y11, y12, y13, y14, y15] ∧ LK T.P_law H0 H' s 2200 g1 g2 as1 as2 r1 r2 ∧ r2.length = m2 ∧ (∀ r ∈ r2, r.length = w2) ∧ (∀ r ∈ r2, ∀ y ∈ r, Bd 100 y) ∧ 1 ≤ m2 ∧ m2 ≤ 8 ∧ 1 ≤ w2 ∧ w2 ≤ 8, ?_, ?_⟩
    · refine ⟨_, rfl, s, 3, _, rfl, K3.src, by omega, by decide, (by unfold Bd; decide +kernel), fun f H4 f0 f1 e4 s4 => ⟨_, _, rfl, rfl, _, rfl, ite2 (fun _ => ?_) (fun _ => ?_)⟩⟩
      · have K4 := K3.draw e4 s4
        have ok1 : TabOk H4 g1 as1 r1 m1 w1 := ⟨K4.t1.tab, hl1, d1, ⟨hm1, hm18, hw1, hw18⟩⟩
        have ok2 : TabOk H4 g2 as2 r2 m2 w2 := ⟨K4.t2.tab, hl2, d2, ⟨hm2, hm28, hw2, hw28⟩⟩
        obtain ⟨c1, q1, hc1, _, hh1, hq1, at1⟩ := ok1.row0
        obtain ⟨c2, q2, hc2, _, hh2, hq2, at2⟩ := ok2.row0
        have n1' := K4.t1.ass _ (List.mem_of_getElem? hc1)
        have n2' := K4.t2.ass _ (List.mem_of_getElem? hc2)
        refine lc_drawR (s := s) (n := 2000 + 1) (xs := q1) (w := w2) (B := 100) (ev_op (ev_var rfl) ev_c (rv_ixL (SqL.of K4.t1.tab.1) at1)) hh1 n1' (by omega) s4 (fun u => rfl) (fun i y H5 e5 hi s5 Q1 kq => ?_) (fun D as rows H5 hN hl e5 s5 => ?_)
        · refine lc_drawL (K := K) (s := s) (n := 2000 + 1 + 10 * i) (xs := q2) (fun x => x.natAbs ≤ 100) (ev_op (ev_var rfl) ev_c (rv_ixL (SqL.of (e5 _ _ K4.t2.ps K4.t2.tab.1)) at2)) (e5 _ _ n2' hh2) n2' (by omega) s5 (fun u => rfl) (fun j z H6 e6 hj s6 Q2 kq2 => ?_) (fun r ns H6 nr e6 s6 hr hln hP => kq r ns H6 nr e6 (s6.le (by omega)) hr (by omega) hP)
          exact ⟨_, rfl, s, 19, _, rfl, s6, by omega, by decide, (by unfold Bd; decide +kernel), fun g H7 g0 g1 e7 s7 => ⟨_, _, rfl, rfl, kq2 (g - 9) H7 (by omega) e7 s7⟩⟩
        · refine ⟨D, as, rows, q1.length, w2, rfl, ⟨(K4.draw e5 s5).kp, K4.s0, s5.le (by omega), (K4.draw e5 s5).t1, TN.of s4 hN.p0 hN.a0 hN.tab, (K4.draw e5 s5).tabs⟩, hl, fun r hr => (hN.ok r hr).1, fun r hr y hy => bd_ten (Nat.lt_of_le_of_lt ((hN.ok r hr).2 y hy) (by decide)), by omega, by omega, hw2, hw28⟩
      · exact ⟨g2, as2, r2, m2, w2, rfl, ⟨(K3.draw e4 s4).kp, K3.s0, s4.le (by omega), (K3.draw e4 s4).t1, (K3.draw e4 s4).t2, (K3.draw e4 s4).tabs⟩, hl2, d2, b2, hm2, hm28, hw2, hw28⟩
    clear K3 hl2 d2 b2 hm2 hm28 hw2 hw28
    rintro σ' H4 ⟨g2, as2, r2, m2, w2, rfl, K4, hl2, d2, b2, hm2, hm28, hw2, hw28⟩
    have ok1 : ∀ {H n}, LK T.P_law H0 H s n g1 g2 as1 as2 r1 r2 → TabOk H g1 as1 r1 m1 w1 := fun k => ⟨k.t1.tab, hl1, d1, ⟨hm1, hm18, hw1, hw18⟩⟩
    have ok2 : ∀ {H n}, LK T.P_law H0 H s n g1 g2 as1 as2 r1 r2 → TabOk H g2 as2 r2 m2 w2 := fun k => ⟨k.t2.tab, hl2, d2, ⟨hm2, hm28, hw2, hw28⟩⟩
    have bb1 : ∀ r ∈ r1, ∀ y ∈ r, Bd 1000 y := fun r hr y hy => (b1 r hr y hy).mono (by decide)
    have bb2 : ∀ r ∈ r2, ∀ y ∈ r, Bd 1000 y := fun r hr y hy => (b2 r hr y hy).mono (by decide)
    -- due
    refine ⟨fun σ' H' => ∃ u : Addr, σ' = [some (.ref a0), some (.int c), some (.ref s), some (.ref g1), some (.ref g2), some (.ref u), y6, y7, y8, y9, y10, y11, y12, y13, y14, y15] ∧ Ex H4 H' ∧ H' u = some (.tup [.str "refused", .int 0]), s_asgU (xs := [.str "refused", .int 0]) (eu_tup (ea_cons ev_c (ea_cons ev_c ea_nil)) (Nat.le_of_ble_eq_true rfl)) (fun u H5 nu e5 hu => ⟨u, rfl, e5, hu⟩), ?_⟩
    rintro σ' H5 ⟨u0, rfl, e5, hu0⟩
    have K5 := K4.step e5
    refine ⟨fun σ' H' => ∃ u : Addr, σ' = [some (.ref a0), some (.int c), some (.ref s), some (.ref g1), some (.ref g2), some (.ref u), y6, y7, y8, y9, y10, y11, y12, y13, y14, y15] ∧ Ex H5 H' ∧ SaidIs H' u (if w1 = m2 then some (prod r1 r2 w2) else none), ?_, ?_⟩
    · obtain ⟨c1, q1, hc1, _, hh1, hq1, at1⟩ := (ok1 K5).row0
      have cond : EvT (tTest (tOp rEq (tCB (rLenS K) (tCons (tVar 4) tNil)) (tCB (rLenS K) (tCons (tOp (rIxL K) (tVar 3) (tC (.int 0))) tNil)))) [some (.ref a0), some (.int c), some (.ref s), some (.ref g1), some (.ref g2), some (.ref u0), y6, y7, y8, y9, y10, y11, y12, y13, y14, y15] H5 (decide (V.int (m2 : Int) = V.int (w1 : Int))) := et_test (ev_op (ev_is (ev_len (ev_var rfl) (SqL.of (ok2 K5).tab.1)) (by rw [List.length_map, (ok2 K5).al])) (ev_is (ev_len (ev_op (ev_var rfl) ev_c (rv_ixL (SqL.of (ok1 K5).tab.1) at1)) (SqL.of hh1)) (by rw [List.length_map, hq1])) (rv_eq rfl))
      by_cases cc : w1 = m2
      · refine s_when (b := true) (et_is cond (decide_eq_true (by rw [cc]))) (fun _ H6 e6 => ?_) (fun z => nomatch z)
        refine ⟨_, rfl, _, rfl, g1, g2, as1, as2, r1, r2, m1, w1, m2, w2, rfl, ok1 (K5.step e6), ok2 (K5.step e6), cc, bb1, bb2, fun q cs H7 nq ncs nd nqcs e7 hT => ⟨(by show 2 ≤ sizeLine; decide), fun t nt => ⟨t, rfl, (e6.trans e7).trans (Ex.new nt), ?_⟩⟩⟩
        rw [if_pos cc]
        exact ⟨q, cs, upd_same, hT.ex (Ex.new nt)⟩
      · refine s_when (b := false) (et_is cond (decide_eq_false fun z => cc (by have := V.int.inj z; omega))) (fun z => nomatch z) (fun _ H6 e6 => ⟨u0, rfl, e6, ?_⟩)
        rw [if_neg cc]
        exact e6 _ _ hu0
    rintro σ' H6 ⟨u, rfl, e6, hu⟩
    have K6 := K5.step e6
    clear K4 K5 e5 e6 hu0
    
    -- said: 1
    refine ⟨K6.tabs, fun H9 e9 t9 => tt_prod (r1 := r1) (r2 := r2) (w := w1) (m2 := m2) (w2 := w2) (fun HH EE Qd e0 ho => ⟨_, rfl, _, rfl, g1, g2, as1, as2, r1, r2, m1, w1, m2, w2, rfl, (ok1 (K6.lam e9 t9)).ex e0, (ok2 (K6.lam e9 t9)).ex e0, bb1, bb2, ho⟩) (fun t H10 e10 ht => ?_)⟩
    have hu10 := (hu.exN e9).exN (LamX.ExtN.of e10)
    refine ⟨_, rfl, ?_⟩
    refine rv_neS ht hu10 H10 (Ex.refl _) _ fun H11 e11 => ⟨false, rfl, iteF ?_⟩
    have K11 := ((K6.lam e9 t9).step e10).step e11
    have hu11 := hu10.exN (LamX.ExtN.of e11)
    clear K6 hu e9 t9 e10 e11 ht hu10
    -- said: 2
    refine ⟨K11.tabs, fun H12 e12 t12 => tt_prod (r1 := r1) (r2 := r2) (w := w1) (m2 := m2) (w2 := w2) (fun HH EE Qd e0 ho => ⟨_, rfl, _, rfl, g1, g2, as1, as2, r1, r2, m1, w1, m2, w2, rfl, (ok1 (K11.lam e12 t12)).ex e0, (ok2 (K11.lam e12 t12)).ex e0, bb1, bb2, ho⟩) (fun t H13 e13 ht => ?_)⟩
    have hu13 := (hu11.exN e12).exN (LamX.ExtN.of e13)
    refine ⟨_, rfl, ?_⟩
    refine rv_neS ht hu13 H13 (Ex.refl _) _ fun H14 e14 => ⟨false, rfl, iteF ?_⟩
    have K14 := ((K11.lam e12 t12).step e13).step e14
    have hu14 := hu13.exN (LamX.ExtN.of e14)
    clear K11 hu11 e12 t12 e13 e14 ht hu13
    obtain ⟨ux, hux⟩ := due_tup hu14
    clear hu14
    -- values
    refine ⟨fun σ' H' => ∃ (v : Addr) (vs : List Addr) (qs : List Rat), σ' = [some (.ref a0), some (.int c), some (.ref s), some (.ref g1), some (.ref g2), some (.ref u), some (.ref v), y7, y8, y9, y10, y11, y12, y13, y14, y15] ∧ LK T.P_law H0 H' s 2300 g1 g2 as1 as2 r1 r2 ∧ FN s H' v vs qs ∧ qs.length = w2 ∧ (∀ q ∈ qs, BdQ 101 101 q) ∧ H' u = some (.tup [.str (if w1 = m2 then "told" else "refused"), ux]), ?_, ?_⟩
    · obtain ⟨c2, q2, hc2, _, hh2, hq2, at2⟩ := (ok2 K14).row0
      refine ⟨_, rfl, _, rfl, g2, _, _, _, rfl, rfl, SqL.of (ok2 K14).tab.1, at2, c2, _, rfl, .inl (SqL.of hh2), s, _, (q2.map V.int).length, rfl, K14.src, by omega, by rw [List.length_map]; omega, fun v vs qs H15 nv e15 s15 hF hlq hbq => ?_⟩
      exact ⟨v, vs, qs, rfl, K14.draw e15 (s15.le (by omega)), ⟨hF, K14.src.ne nv, frs_ne s15 hF.2⟩, by rw [hlq, List.length_map, hq2], hbq, e15 _ _ (K14.src.neT hux) hux⟩
    clear K14 hux
    rintro σ' H15 ⟨v, vs, qs, rfl, K15, hF15, hlq, hbq, hux⟩
    have hbq2 : ∀ q ∈ qs, BdQ 3300 810 q := fun q hq => (hbq q hq).mono (by decide) (by decide)
    -- leads
    refine ⟨fun σ' H' => ∃ (l : Addr) (ls : List Addr), σ' = [some (.ref a0), some (.int c), some (.ref s), some (.ref g1), some (.ref g2), some (.ref u), some (.ref v), some (.ref l), y8, y9, y10, y11, y12, y13, y14, y15] ∧ H15 l = none ∧ Ex H15 H' ∧ FrL H' l ls (r2.map fun r => fsum r qs), ?_, ?_⟩
    · refine lf_rows (K := K) (F := fun r => fsum r qs) rfl K15.t2.tab (by omega) (fun u => rfl) (fun cc r H16 hr hcr e16 => ?_) (fun l ls H16 nl e16 hF => ⟨l, ls, rfl, nl, e16, hF⟩)
      have lr := d2 r hr
      refine eq_sum (qs := terms r qs) (lf_zip (K := K) (F := fun n q => mkRat n 1 * q) (ns := r) (qs := qs) (b := v) (bs := vs) (ea_cons (ev_var rfl) (ea_cons (ev_var rfl) ea_nil)) (e16 _ _ hcr) (hF15.fl.ex e16) (by omega) (by omega) (fun u v x => rfl) (fun n q H18 hn hq e18 H19 e19 Q19 q19 => ?_)) ?_ ?_
      · have b3 := b2 r hr n hn
        have b4 := hbq q hq
        refine ⟨_, rfl, _, rfl, _, _, rfl, rfl, b3.mulOk b4.1, _, rfl, _, _, rfl, Int.natCast_pos.mpr q.den_pos, b4.2.mono (by decide), fun t H20 nt e20 ht => q19 t H20 e20 ?_⟩
        rw [ht, fr_low (Int.natCast_pos.mpr q.den_pos), Int.toNat_natCast, fr_int]
      · unfold terms
        rw [List.length_zipWith]
        omega
      · exact fun t ht => (terms_bd (n := 100) (m := 101) (d := 101) (b2 r hr) hbq t ht).mono (by decide) (by decide)
    rintro σ' H16 ⟨l, ls, rfl, nl, e16, hl16⟩
    have K16 := K15.step e16
    have hF16 := hF15.ex e16
    have hux16 := e16 _ _ hux
    have hL16 : FN s H16 l ls (r2.map fun r => fsum r qs) := ⟨hl16, K15.src.ne nl, frs_ne K16.src hl16.2⟩
    clear K15 hF15 hux hl16 nl e16
    have c1 : ∀ r ∈ r1, ∀ y ∈ r, Bd 210 y := fun r hr y hy => (b1 r hr y hy).mono (by decide)
    have c2 : ∀ r ∈ r2, ∀ y ∈ r, Bd 210 y := fun r hr y hy => (b2 r hr y hy).mono (by decide)
    refine q_when (b := false) (et_is (et_or (et_test (ev_neFl (el_led rfl rfl (ok2 K16) hF16 hlq c2 hbq2) (ev_var rfl) hL16.fl)) (fun _ => et_test (ev_neFl (el_ledK rfl rfl (ok2 K16) hF16 hlq c2 hbq2) (ev_var rfl) hL16.fl))) rfl) (fun z => nomatch z) (fun _ H17 e17 => ?_)
    have K17 := K16.step e17
    have hF17 := hF16.ex e17
    have hux17 := e17 _ _ hux16
    have hL17 := hL16.ex e17
    clear K16 hF16 hux16 hL16 e17
    -- the product leads as its tables do
    refine ⟨fun σ' H' => σ' = [some (.ref a0), some (.int c), some (.ref s), some (.ref g1), some (.ref g2), some (.ref u), some (.ref v), some (.ref l), y8, y9, y10, y11, y12, y13, y14, y15] ∧ Ex H17 H', ?_, ?_⟩
    · by_cases cc : w1 = m2
      · rw [if_pos cc] at hux17
        have bl : ∀ q ∈ (r2.map fun r => fsum r qs), BdQ 3300 810 q := fun q hq => by
          obtain ⟨r, hr, rfl⟩ := List.mem_map.mp hq
          have h := psum_bd (terms_bd (n := 100) (m := 101) (d := 101) (b2 r hr) hbq) 8
          rw [psum_all (by unfold terms; rw [List.length_zipWith]; omega)] at h
          exact h.mono (by decide) (by decide)
        have cp : ∀ r ∈ prod r1 r2 w2, ∀ y ∈ r, Bd 210 y := fun r hr y hy => (prod_bd d1 b1 b2 r hr y hy).mono (by omega)
        have A := el_ledP (K := K) (C := T.f_NoFit) (E := E0) (j := 6) (σ := [some (.ref a0), some (.int c), some (.ref s), some (.ref g1), some (.ref g2), some (.ref u), some (.ref v), some (.ref l), y8, y9, y10, y11, y12, y13, y14, y15]) (et_prod (K := K) (C := T.f_NoFit) (E := E0) (i := 3) (j := 4) rfl rfl (ok1 K17) (ok2 K17) cc bb1 bb2) rfl (m := m1) (by rw [prod_len, hl1]) prod_w ⟨hm1, hm18, hw2, hw28⟩ hF17 hlq cp hbq2
        rw [led_prod d2] at A
        refine s_when (b := false) (et_is (et_and (a := true) (b := false) (et_is (et_test (ev_op (ev_op (ev_var rfl) ev_c (rv_ixT (SqT.of hux17) rfl)) ev_c (rv_eq rfl))) (by decide +kernel)) (fun _ => et_test (ev_neF2 A (el_led rfl rfl (ok1 K17) hL17 (by rw [List.length_map, hl2, cc]) c1 bl)))) rfl) (fun z => nomatch z) (fun _ H18 e18 => ⟨rfl, e18⟩)
      · rw [if_neg cc] at hux17
        exact s_when (b := false) (et_is (et_and (a := false) (b := false) (et_is (et_test (ev_op (ev_op (ev_var rfl) ev_c (rv_ixT (SqT.of hux17) rfl)) ev_c (rv_eq rfl))) (by decide +kernel)) (fun z => nomatch z)) rfl) (fun z => nomatch z) (fun _ H18 e18 => ⟨rfl, e18⟩)
    rintro σ' H18 ⟨rfl, e18⟩
    have K18 := K17.step e18
    have hF18 := hF17.ex e18
    have hux18 := e18 _ _ hux17
    clear K17 hF17 hux17 hL17 e18
    -- odd
    refine ⟨fun σ' H' => ∃ (L : Addr) (xs : List V), σ' = [some (.ref a0), some (.int c), some (.ref s), some (.ref g1), some (.ref g2), some (.ref u), some (.ref v), some (.ref l), some (.ref L), y9, y10, y11, y12, y13, y14, y15] ∧ Ex H18 H' ∧ H' L = some (.lst xs) ∧ L ≠ s ∧ xs.length = 8 ∧ ∀ x ∈ xs, NoFr K s H' w2 x, ?_, ?_⟩
    · have hv := hF18.fl.1
      have lv : vs.length = w2 := by rw [Paired.length hF18.fl.2, hlq]
      refine ⟨_, rfl, (by show 2 ≤ sizeLine; decide), fun t1 nt1 => ⟨(by show 1 ≤ sizeLine; decide), fun l1 nl1 => ⟨v, l1, vs.map V.ref, [V.ref t1], rfl, rfl, ?_, upd_same, ?_, fun A nA => ?_⟩⟩⟩
      · exact ((Ex.new nt1).trans (Ex.new nl1)) _ _ hv
      · exact sz_of (by rw [List.length_map]; show vs.length + 1 ≤ 100000; omega)
      have x1 := Ex.new (o := .tup [V.int 0, .int 1]) nt1
      have x2 := Ex.new (o := .lst [V.ref t1]) nl1
      have x3 := Ex.new (o := .lst (vs.map V.ref ++ [V.ref t1])) nA
      have x13 := (x1.trans x2).trans x3
      refine ⟨_, rfl, 1, rfl, v, _, rfl, SqL.of (x13 _ _ hv), fun B nB => ?_⟩
      have x4 := Ex.new (o := .lst (cutV (vs.map V.ref) (some 1) none)) nB
      have x14 := x13.trans x4
      refine ⟨_, rfl, v, _, rfl, .inl ⟨SqL.of (x14 _ _ hv), fun t nt => ?_⟩⟩
      have x5 := Ex.new (o := .tup (vs.map V.ref)) nt
      have x15 := x14.trans x5
      have cl := cutV_length (vs.map V.ref) none (some (-1))
      rw [List.length_map] at cl
      refine el_cat (σ := [some (.ref a0), some (.int c), some (.ref s), some (.ref g1), some (.ref g2), some (.ref u), some (.ref v), some (.ref l), y8, y9, y10, y11, y12, y13, y14, y15]) (el_sl (K := K) (lo := none) (hi := some (-1)) (ev_var (i := 6) rfl) eo_none (eo_some (ev_un (x := .int 1) ev_c ru_neg)) (SqL.of (x15 _ _ hv))) (el_lst (vs := [.int 1]) (ea_cons ev_c ea_nil) (Nat.le_of_ble_eq_true rfl)) (by show _ + 1 ≤ 100000; omega) _ (Ex.refl _) _ fun l4 H19 n4 e4 g4 => ?_
      refine el_sl (K := K) (σ := [some (.ref a0), some (.int c), some (.ref s), some (.ref g1), some (.ref g2), some (.ref u), some (.ref v), some (.ref l), y8, y9, y10, y11, y12, y13, y14, y15]) (lo := none) (hi := some (-1)) (ev_var (i := 6) rfl) eo_none (eo_some (ev_un (x := .int 1) ev_c ru_neg)) (SqL.of (e4 _ _ (x15 _ _ hv))) _ (Ex.refl _) _ fun l5 H20 n5 e5 g5 => ?_
      refine ⟨(by show 2 ≤ sizeLine; decide), fun t2 nt2 => ⟨(by show 1 ≤ sizeLine; decide), fun l6 nl6 => ⟨l5, l6, cutV (vs.map V.ref) none (some (-1)), [V.ref t2], rfl, rfl, ((Ex.new nt2).trans (Ex.new nl6)) _ _ g5, upd_same, sz_of (by show _ + 1 ≤ 100000; omega), fun A2 nA2 => ?_⟩⟩⟩
      have x6 := Ex.new (o := .tup [V.int 2, .int 2]) nt2
      have x7 := Ex.new (o := .lst [V.ref t2]) nl6
      have x8 := Ex.new (o := .lst (cutV (vs.map V.ref) none (some (-1)) ++ [V.ref t2])) nA2
      intro d nd
      have x9 := Ex.new (o := .dK []) nd
      refine ⟨(by show 8 ≤ sizeLine; decide), fun L nL => ?_⟩
      have x10 := Ex.new (o := .lst [V.ref A, .ref B, .ref t, .non, .ref l4, .ref A2, .str "1", .ref d]) nL
      have r9 := x9.trans x10
      have r8 := x8.trans r9
      have r6 := x6.trans (x7.trans r8)
      have r5 := e5.trans r6
      have r4 := e4.trans r5
      have r35 := x5.trans r4
      have r34 := x4.trans r35
      have all_ := x13.trans r34
      have sx : ∀ {HH}, Ex H18 HH → SrcAt HH s 2300 := fun e => K18.src.ex e
      have hFf := hF18.ex all_
      have fa := fks_any (K := K) hFf.fl.2 hFf.vs_
      refine ⟨L, _, rfl, all_, upd_same, (sx (((x15.trans e4).trans e5).trans (x6.trans (x7.trans (x8.trans x9))))).ne nL, rfl, fun x hx => ?_⟩
      simp only [List.mem_cons, List.not_mem_nil, or_false] at hx
      rcases hx with rfl | rfl | rfl | rfl | rfl | rfl | rfl | rfl
      · refine nofr_len (r34 _ _ upd_same) ((sx (x1.trans x2)).ne nA) (by rw [List.length_append, List.length_map, List.length_singleton]; omega) (fun x hx => ?_) (by rw [List.length_append, List.length_map, List.length_singleton]; omega)
        rcases List.mem_append.mp hx with hx | hx
        · exact fa x hx
        · rw [List.mem_singleton.mp hx]
          exact ⟨_, fk_tup ((x2.trans (x3.trans r34)) _ _ upd_same) (K18.src.ne nt1)⟩
      · refine nofr_len (r35 _ _ upd_same) ((sx x13).ne nB) (Nat.le_trans (cutV_length _ _ _) (by rw [List.length_map]; omega)) (fun x hx => fa x (mem_cutV hx)) (cut_tail (by rw [List.length_map, lv]) hw2 hw28)
      · exact nofr_oth (.tup (r4 _ _ upd_same) ((sx x14).ne nt)) (by decide)
      · exact nofr_oth .non (by decide)
      · exact nofr_last (r5 _ _ g4) ((sx x15).ne n4) (by rw [List.length_append, List.length_singleton]; omega) (fun x hx => fa x (mem_cutV hx)) fk_int
      · refine nofr_last (r9 _ _ upd_same) ((sx (((x15.trans e4).trans e5).trans (x6.trans x7))).ne nA2) (by rw [List.length_append, List.length_singleton]; omega) (fun x hx => fa x (mem_cutV hx)) (fk_tup (t := 2) (b := 2) ((x7.trans r8) _ _ upd_same) ((sx ((x15.trans e4).trans e5)).ne nt2))
      · exact nofr_oth (.str _) (by decide)
      · exact nofr_oth (.dct (x10 _ _ upd_same) ((sx (((x15.trans e4).trans e5).trans (x6.trans (x7.trans x8)))).ne nd)) (by decide)
    rintro σ' H19 ⟨L, xs, rfl, e19, hL, Ls, hxl, hno⟩
    have K19 := K18.step e19
    have hux19 := e19 _ _ hux18
    clear K18 hF18 hux18 e19
    -- said: 3
    refine ⟨K19.tabs, fun H20 e20 t20 => ?_⟩
    intro H21 E21 Q21 e21 hE21 hQ21
    have K21 := (K19.lam e20 t20).step e21
    have e1921 := e20.trans (LamX.ExtN.of e21)
    have hL21 := e1921 _ _ hL (fun _ z => by cases z)
    have hux21 := e1921 _ _ hux19 (fun _ z => by cases z)
    refine ⟨_, rfl, _, rfl, _, rfl, s, 8, _, rfl, K21.src, by omega, by decide, (by unfold Bd; decide +kernel), fun f H22 f0 f1 e22 s22 => ?_⟩
    have hf : f.toNat < xs.length := by omega
    obtain ⟨pr, hxs, hpr⟩ := hno _ (List.getElem_mem hf)
    have K22 := K21.draw e22 s22
    have hux22 := e22 _ _ (K21.src.neT hux21) hux21
    refine ⟨L, _, f, _, rfl, rfl, SqL.of (e22 _ _ Ls hL21), at_of (j := f.toNat) (by omega) (List.getElem?_eq_getElem hf), s, g2, _, as2, r2, m2, w2, pr, rfl, ok2 K22, hxs.kp ((Kp.ofN e1921).trans (.ofB e22)), .inl ⟨hpr, fun H23 e23 => hE21 H23 fun t H24 e24 nt ht => ?_⟩⟩
    refine ⟨(by show 2 ≤ sizeLine; decide), fun u2 nu2 => ?_⟩
    refine rv_neP ((Ex.new nu2) _ _ ht) upd_same (.cons (.str _) (.cons (.int 0) .nil)) (.cons (.str _) (.cons (.int 0) .nil)) (shaped_tuple lay_ref (by decide)) _ (Ex.refl _) _ fun H25 e25 => ⟨false, rfl, iteF ?_⟩
    have e2225 := (e23.trans e24).trans ((Ex.new nu2).trans e25)
    have K25 := K22.step e2225
    have hux25 := e2225 _ _ hux22
    clear K19 K21 K22 hux19 hux21 hux22 e20 t20 e21 hE21 hQ21 e22 s22 hxs hpr hL hL21 hno hf e1921 e23 e24 e25 e2225 ht nt
    -- third
    
    refine ⟨fun σ' H' => ∃ (g3 : Addr) (as3 : List Addr) (r3 : List (List Int)), σ' = [some (.ref a0), some (.int c), some (.ref s), some (.ref g1), some (.ref g2), some (.ref u), some (.ref v), some (.ref l), some (.ref L), some (.ref g3), y10, y11, y12, y13, y14, y15] ∧ LK T.P_law H0 H' s 2500 g1 g2 as1 as2 r1 r2 ∧ TN s H' g3 as3 r3 ∧ r3.length = w2 ∧ (∀ r ∈ r3, r.length = 2) ∧ (∀ r ∈ r3, ∀ y ∈ r, Bd 100 y) ∧ H' u = some (.tup [.str (if w1 = m2 then "told" else "refused"), ux]), ?_, ?_⟩
    · obtain ⟨c2, q2, hc2, _, hh2, hq2, at2⟩ := (ok2 K25).row0
      have n2' := K25.t2.ass _ (List.mem_of_getElem? hc2)
      refine lc_drawR (s := s) (n := 2300 + 1) (xs := q2) (w := 2) (B := 100) (ev_op (ev_var rfl) ev_c (rv_ixL (SqL.of K25.t2.tab.1) at2)) hh2 n2' (by omega) K25.src (fun u => rfl) (fun i y H26 e26 hi s26 Q1 kq => ?_) (fun D as rows H26 hN hl e26 s26 => ?_)
      · refine lc_draw (s := s) (n := 2300 + 1 + 10 * i) (m := 2) (fun x => x.natAbs ≤ 100) (ea_cons ev_c ea_nil) (by decide) s26 (fun u => rfl) (fun j H27 e27 hj s27 Q2 kq2 => ?_) (fun r ns H27 nr e27 s27 hr hln hP => kq r ns H27 nr e27 (s27.le (by omega)) hr hln hP)
        exact ⟨_, rfl, s, 5, _, rfl, s27, by omega, by decide, (by unfold Bd; decide +kernel), fun g H28 g0 g1 e28 s28 => ⟨_, _, rfl, rfl, kq2 (g - 2) H28 (by omega) e28 s28⟩⟩
      · exact ⟨D, as, rows, rfl, K25.draw e26 (s26.le (by omega)), TN.of K25.src hN.p0 hN.a0 hN.tab, by rw [hl, hq2], fun r hr => (hN.ok r hr).1, fun r hr y hy => bd_ten (Nat.lt_of_le_of_lt ((hN.ok r hr).2 y hy) (by decide)), e26 _ _ (K25.src.neT hux25) hux25⟩
    clear K25 hux25
    rintro σ' H26 ⟨g3, as3, r3, rfl, K26, hT3, hl3, d3, b3, hux26⟩
    have ok3 : ∀ {H}, TN s H g3 as3 r3 → TabOk H g3 as3 r3 w2 2 := fun k => ⟨k.tab, hl3, d3, ⟨hw2, hw28, by decide, by decide⟩⟩
    have bb3 : ∀ r ∈ r3, ∀ y ∈ r, Bd 1000 y := fun r hr y hy => (b3 r hr y hy).mono (by decide)
    by_cases cc : w1 = m2
    · rw [if_pos cc] at hux26
      refine s_when (b := true) (et_is (et_test (ev_op (ev_op (ev_var (i := 5) rfl) ev_c (rv_ixT (SqT.of hux26) rfl)) ev_c (rv_eq rfl))) (by decide +kernel)) (fun _ H27 e27 => ?_) (fun z => nomatch z)
      refine ⟨_, rfl, _, rfl, g2, g3, as2, as3, r2, r3, m2, w2, w2, 2, rfl, ok2 (K26.step e27), ok3 (hT3.ex e27), bb2, bb3, .inr ⟨rfl, fun c3 cs H28 nc ncs nd nccs e28 hB => ?_⟩⟩
      have cp : ∀ r ∈ prod r1 r2 w2, ∀ y ∈ r, Bd 1000 y := fun r hr y hy => (prod_bd d1 b1 b2 r hr y hy).mono (by omega)
      have cB : ∀ r ∈ prod r2 r3 2, ∀ y ∈ r, Bd 1000 y := fun r hr y hy => (prod_bd d2 b2 b3 r hr y hy).mono (by omega)
      have okB : TabOk H28 c3 cs (prod r2 r3 2) m2 2 := prod_ok hB hl2 ⟨hm2, hm28⟩ ⟨by decide, by decide⟩
      have K28 := K26.step (e27.trans e28)
      have A := et_prod2 (K := K) (C := T.f_NoFit) (E := E0) (j := 9) (σ := [some (.ref a0), some (.int c), some (.ref s), some (.ref g1), some (.ref g2), some (.ref u), some (.ref v), some (.ref l), some (.ref L), some (.ref g3), some (.ref c3), y11, y12, y13, y14, y15]) (et_prod (K := K) (C := T.f_NoFit) (E := E0) (i := 3) (j := 4) rfl rfl (ok1 K28) (ok2 K28) cc bb1 bb2) rfl (m := m1) (by rw [prod_len, hl1]) prod_w ⟨hm1, hm18, hw2, hw28⟩ (ok3 ((hT3.ex e27).ex e28)) rfl cp bb3
      rw [prod_assoc d2] at A
      refine s_when (b := false) (et_test (ev_neTab2 A (et_prod (i := 3) (j := 10) rfl rfl (ok1 K28) okB cc bb1 cB))) (fun z => nomatch z) (fun _ H29 e29 => ?_)
      exact ⟨_, _, _, _, _, _, _, _, _, _, _, _, _, _, _, rfl, (K28.step e29).kp _ _ hp2 (fun _ z => by cases z), (K28.step e29).tabs⟩
    · rw [if_neg cc] at hux26
      refine s_when (b := false) (et_is (et_test (ev_op (ev_op (ev_var (i := 5) rfl) ev_c (rv_ixT (SqT.of hux26) rfl)) ev_c (rv_eq rfl))) (by decide +kernel)) (fun z => nomatch z) (fun _ H27 e27 => ?_)
      exact ⟨_, _, _, _, _, _, _, _, _, _, _, _, _, _, _, rfl, (K26.step e27).kp _ _ hp2 (fun _ z => by cases z), (K26.step e27).tabs⟩
end
/-! ### the head: facts by names, the run -/
def d_init_NoPick : He.DefD := ⟨("NoPick", some "__init__"), "__init__", "NoPick.__init__", defArgs s_init_NoPick, defBody s_init_NoPick, defScope s_init_NoPick, [], []⟩
def d_is_whole : He.DefD := ⟨("is_whole", none), "is_whole", "is_whole", defArgs s_is_whole, defBody s_is_whole, defScope s_is_whole, [], []⟩
def d_is_fraction : He.DefD := ⟨("is_fraction", none), "is_fraction", "is_fraction", defArgs s_is_fraction, defBody s_is_fraction, defScope s_is_fraction, [], []⟩
def d_fraction : He.DefD := ⟨("fraction", none), "fraction", "fraction", defArgs s_fraction, defBody s_fraction, defScope s_fraction, [.int 1], []⟩
def d_plus : He.DefD := ⟨("plus", none), "plus", "plus", defArgs s_plus, defBody s_plus, defScope s_plus, [], []⟩
def d_times : He.DefD := ⟨("times", none), "times", "times", defArgs s_times, defBody s_times, defScope s_times, [], []⟩
def d_is_long : He.DefD := ⟨("is_long", none), "is_long", "is_long", defArgs s_is_long, defBody s_is_long, defScope s_is_long, [], []⟩
def d_is_fractions : He.DefD := ⟨("is_fractions", none), "is_fractions", "is_fractions", defArgs s_is_fractions, defBody s_is_fractions, defScope s_is_fractions, [], []⟩
def d_is_table : He.DefD := ⟨("is_table", none), "is_table", "is_table", defArgs s_is_table, defBody s_is_table, defScope s_is_table, [], []⟩
def d_is_row : He.DefD := ⟨("is_row", none), "is_row", "is_row", defArgs s_is_row, defBody s_is_row, defScope s_is_row, [], []⟩
def d_check_table : He.DefD := ⟨("check_table", none), "check_table", "check_table", defArgs s_check_table, defBody s_check_table, defScope s_check_table, [], []⟩
def d_turned : He.DefD := ⟨("turned", none), "turned", "turned", defArgs s_turned, defBody s_turned, defScope s_turned, [], []⟩
def d_product : He.DefD := ⟨("product", none), "product", "product", defArgs s_product, defBody s_product, defScope s_product, [], []⟩
def d_led : He.DefD := ⟨("led", none), "led", "led", defArgs s_led, defBody s_led, defScope s_led, [], []⟩
def d_row_sum : He.DefD := ⟨("row_sum", none), "row_sum", "row_sum", defArgs s_row_sum, defBody s_row_sum, defScope s_row_sum, [], []⟩
def d__law_source_of : He.DefD := ⟨("_law_source_of", none), "_law_source_of", "_law_source_of", defArgs s__law_source_of, defBody s__law_source_of, defScope s__law_source_of, [], []⟩
def d__law_next : He.DefD := ⟨("_law_next", none), "_law_next", "_law_next", defArgs s__law_next, defBody s__law_next, defScope s__law_next, [], []⟩
def d__law_one : He.DefD := ⟨("_law_one", none), "_law_one", "_law_one", defArgs s__law_one, defBody s__law_one, defScope s__law_one, [], []⟩
def d__law_cell_at : He.DefD := ⟨("_law_cell_at", none), "_law_cell_at", "_law_cell_at", defArgs s__law_cell_at, defBody s__law_cell_at, defScope s__law_cell_at, [], []⟩
def d__law_mixed : He.DefD := ⟨("_law_mixed", none), "_law_mixed", "_law_mixed", defArgs s__law_mixed, defBody s__law_mixed, defScope s__law_mixed, [], []⟩
def d__law_ends : He.DefD := ⟨("_law_ends", none), "_law_ends", "_law_ends", defArgs s__law_ends, defBody s__law_ends, defScope s__law_ends, [], []⟩
def d__law_net : He.DefD := ⟨("_law_net", none), "_law_net", "_law_net", defArgs s__law_net, defBody s__law_net, defScope s__law_net, [], []⟩
def d__law_net_drawn : He.DefD := ⟨("_law_net_drawn", none), "_law_net_drawn", "_law_net_drawn", defArgs s__law_net_drawn, defBody s__law_net_drawn, defScope s__law_net_drawn, [], []⟩
def d__law_stretches : He.DefD := ⟨("_law_stretches", none), "_law_stretches", "_law_stretches", defArgs s__law_stretches, defBody s__law_stretches, defScope s__law_stretches, [], []⟩
def d__law_swung : He.DefD := ⟨("_law_swung", none), "_law_swung", "_law_swung", defArgs s__law_swung, defBody s__law_swung, defScope s__law_swung, [], []⟩
def d__law_table : He.DefD := ⟨("_law_table", none), "_law_table", "_law_table", defArgs s__law_table, defBody s__law_table, defScope s__law_table, [], []⟩
def d__law_low : He.DefD := ⟨("_law_low", none), "_law_low", "_law_low", defArgs s__law_low, defBody s__law_low, defScope s__law_low, [], []⟩
def d__law_sum : He.DefD := ⟨("_law_sum", none), "_law_sum", "_law_sum", defArgs s__law_sum, defBody s__law_sum, defScope s__law_sum, [], []⟩
def d__law_said : He.DefD := ⟨("_law_said", none), "_law_said", "_law_said", defArgs s__law_said, defBody s__law_said, defScope s__law_said, [], []⟩
def d__law_product : He.DefD := ⟨("_law_product", none), "_law_product", "_law_product", defArgs s__law_product, defBody s__law_product, defScope s__law_product, [], []⟩
def d__law_values : He.DefD := ⟨("_law_values", none), "_law_values", "_law_values", defArgs s__law_values, defBody s__law_values, defScope s__law_values, [], []⟩
def d_law : He.DefD := ⟨("law", none), "law", "law", defArgs s_law, defBody s_law, defScope s_law, [], []⟩
def fnL : List He.DefD := [d_init_NoPick, d_is_whole, d_is_fraction, d_fraction, d_plus, d_times, d_is_long, d_is_fractions, d_is_table, d_is_row, d_check_table, d_turned, d_product, d_led, d_row_sum, d__law_source_of, d__law_next, d__law_one, d__law_cell_at, d__law_mixed, d__law_ends, d__law_net, d__law_net_drawn, d__law_stretches, d__law_swung, d__law_table, d__law_low, d__law_sum, d__law_said, d__law_product, d__law_values, d_law]
def faL : List He.Fa := [.glo "is_whole", .glo "is_fraction", .glo "fraction", .glo "plus", .glo "times", .glo "is_long", .glo "is_fractions", .glo "is_table", .glo "is_row", .glo "check_table", .glo "turned", .glo "product", .glo "led", .glo "row_sum", .glo "_law_source_of", .glo "_law_next", .glo "_law_one", .glo "_law_cell_at", .glo "_law_mixed", .glo "_law_ends", .glo "_law_net", .glo "_law_net_drawn", .glo "_law_stretches", .glo "_law_swung", .glo "_law_table", .glo "_law_low", .glo "_law_sum", .glo "_law_said", .glo "_law_product", .glo "_law_values", .glo "law", .glo "SignError", .glo "NoFraction", .glo "BadTable", .glo "NoFit", .glo "NoPivot", .glo "NoPick", .free "abs", .free "all", .free "bool", .free "enumerate", .free "int", .free "isinstance", .free "len", .free "list", .free "range", .free "sum", .free "tuple", .free "zip", .int "MOST" 8]
def exs (K : PySem.W.Frag) : List Bool := [
  decide (PySem.W.nsIn K mainGlobals "gcd" = some (some (.builtin "math.gcd"))),
  decide (PySem.W.keepIn K (.ref (He.ga K "SignError")) = true),
  decide (PySem.W.subIn K (.ref (He.ga K "SignError")) (.type "BaseException") = some true),
  decide (PySem.W.typeIn K (.ref (He.ga K "SignError")) = some (.type "type")),
  decide (PySem.W.keepIn K (.ref (He.ga K "NoFraction")) = true),
  decide (PySem.W.subIn K (.ref (He.ga K "NoFraction")) (.type "BaseException") = some true),
  decide (PySem.W.typeIn K (.ref (He.ga K "NoFraction")) = some (.type "type")),
  decide (PySem.W.excIn K (He.ga K "NoFraction") aeT "ArithmeticError.__new__" = true),
  decide (PySem.W.keepIn K (.ref (He.ga K "BadTable")) = true),
  decide (PySem.W.subIn K (.ref (He.ga K "BadTable")) (.type "BaseException") = some true),
  decide (PySem.W.typeIn K (.ref (He.ga K "BadTable")) = some (.type "type")),
  decide (PySem.W.excIn K (He.ga K "BadTable") aeT "ArithmeticError.__new__" = true),
  decide (PySem.W.keepIn K (.ref (He.ga K "NoFit")) = true),
  decide (PySem.W.subIn K (.ref (He.ga K "NoFit")) (.type "BaseException") = some true),
  decide (PySem.W.typeIn K (.ref (He.ga K "NoFit")) = some (.type "type")),
  decide (PySem.W.excIn K (He.ga K "NoFit") aeT "ArithmeticError.__new__" = true),
  decide (PySem.W.keepIn K (.ref (He.ga K "NoPivot")) = true),
  decide (PySem.W.subIn K (.ref (He.ga K "NoPivot")) (.type "BaseException") = some true),
  decide (PySem.W.typeIn K (.ref (He.ga K "NoPivot")) = some (.type "type")),
  decide (PySem.W.excIn K (He.ga K "NoPivot") aeT "ArithmeticError.__new__" = true),
  decide (PySem.W.keepIn K (.ref (He.ga K "NoPick")) = true),
  decide (PySem.W.subIn K (.ref (He.ga K "NoPick")) (.type "BaseException") = some true),
  decide (PySem.W.typeIn K (.ref (He.ga K "NoPick")) = some (.type "type")),
  decide (PySem.W.readsIn K (He.ga K "SignError") (.type "type") = true),
  decide (PySem.W.specialIn K (.ref (He.ga K "SignError")) "__getattribute__" = some (some (.builtin "type.__getattribute__"))),
  fiB K (He.ga K "SignError"),
  ownB K (He.ga K "NoPick") (He.ga K "SignError"),
  decide (PySem.W.findIn K (.ref (He.ga K "NoPick")) "__init__" = some (some (.ref (He.fAd K ("NoPick", some "__init__"))))),
  decide (PySem.W.typeIn K (.ref (He.fAd K ("NoPick", some "__init__"))) = some (.type "function")),
  decide (PySem.W.findIn K (.ref (He.ga K "NoPick")) "at" = some none),
  xfB K (He.ga K "NoFit"),
  ecB K (He.ga K "NoFit"),
  decide (PySem.W.exmOne K (.ref (He.ga K "NoFit")) (.ref (He.ga K "SignError")) = some true),
  decide (PySem.W.kitOne K (.ref (He.ga K "NoFit")) (.ref (He.ga K "BadTable")) = some false),
  decide (PySem.W.kitOne K (.ref (He.ga K "NoFit")) (.ref (He.ga K "NoFit")) = some true),
  decide (PySem.W.kitOne K (.ref (He.ga K "NoFit")) (.ref (He.ga K "NoPivot")) = some false),
  decide (PySem.W.kitOne K (.ref (He.ga K "NoFit")) (.ref (He.ga K "NoPick")) = some false)]
def exL (K : PySem.W.Frag) : Bool := (exs K).all id
theorem ex_at {K : PySem.W.Frag} (h : exL K = true) (i : Nat) {b : Bool} (e : (exs K)[i]? = some b) : b = true := List.all_eq_true.mp h b (List.mem_of_getElem? e)
def tfL : List He.Defn := [("law", none)]
abbrev RL : PySem.W.OpenRow := PySem.W.OpenLaw.row PySem.Challenge.rw_signbook_k06_products_and_led
abbrev hkL : PySem.W.Hook := L2.hookY 4 faL fnL [] tfL exL
def obL (s : PySem.W.SharedT) : He.AlX := L2.obsY 4 faL fnL [] tfL exL (HandSHeadRun.getT s)
theorem ob_eqL (s : PySem.W.SharedT) : obL s = hkL.obs s.abs := L2.obsY_eq (HandSHeadRun.getT_eq s)
def looseL : List Str := (["gcd", "SignError", "NoFraction", "BadTable", "NoFit", "NoPivot", "NoPick", "is_whole", "is_fraction", "fraction", "plus", "times", "is_long", "is_fractions", "MOST", "is_table", "is_row", "check_table", "turned", "product", "led", "row_sum", "_law_source_of", "_law_next", "_law_one", "_law_cell_at", "_law_mixed", "_law_ends", "_law_net", "_law_net_drawn"] : List Str) ++ (["_law_stretches", "_law_swung", "_law_table", "_law_low", "_law_sum", "_law_said", "_law_product", "_law_values"] : List Str)
theorem runL (w : World) : HandSHeadRun.RunEqI RL (PySem.W.view RL.prog [0, 43]) hkL obL 60000 looseL w := by
  unfold HandSHeadRun.RunEqI
  kernel_rfl
theorem factsL {w : World} {K : PySem.W.Frag} {h : Heap} {mg : Str → Option Value} {fa : Addr} (X : K.In h) (G : h.Ns mainGlobals mg) (hfa : mg ("law" : Str) = some (.ref fa)) (c : He.SaysX faL fnL [] tfL exL w h K) : LamX.LawAtS PySem.Challenge.rw_signbook_k06_products_and_led w K CX0 9 63 "_law_script" mg fa h := by
  have cd : He.SaysD faL fnL K := congrArg (fun z : He.AlT => z.1) c.t
  have ce : exL K = true := c.more
  obtain ⟨fd0, D0⟩ := cd.def_ 0 (d := d_init_NoPick) rfl
  obtain ⟨fd1, D1⟩ := cd.def_ 1 (d := d_is_whole) rfl
  obtain ⟨fd2, D2⟩ := cd.def_ 2 (d := d_is_fraction) rfl
  obtain ⟨fd3, D3⟩ := cd.def_ 3 (d := d_fraction) rfl
  obtain ⟨fd4, D4⟩ := cd.def_ 4 (d := d_plus) rfl
  obtain ⟨fd5, D5⟩ := cd.def_ 5 (d := d_times) rfl
  obtain ⟨fd6, D6⟩ := cd.def_ 6 (d := d_is_long) rfl
  obtain ⟨fd7, D7⟩ := cd.def_ 7 (d := d_is_fractions) rfl
  obtain ⟨fd8, D8⟩ := cd.def_ 8 (d := d_is_table) rfl
  obtain ⟨fd9, D9⟩ := cd.def_ 9 (d := d_is_row) rfl
  obtain ⟨fd10, D10⟩ := cd.def_ 10 (d := d_check_table) rfl
  obtain ⟨fd11, D11⟩ := cd.def_ 11 (d := d_turned) rfl
  obtain ⟨fd12, D12⟩ := cd.def_ 12 (d := d_product) rfl
  obtain ⟨fd13, D13⟩ := cd.def_ 13 (d := d_led) rfl
  obtain ⟨fd14, D14⟩ := cd.def_ 14 (d := d_row_sum) rfl
  obtain ⟨fd15, D15⟩ := cd.def_ 15 (d := d__law_source_of) rfl
  obtain ⟨fd16, D16⟩ := cd.def_ 16 (d := d__law_next) rfl
  obtain ⟨fd17, D17⟩ := cd.def_ 17 (d := d__law_one) rfl
  obtain ⟨fd18, D18⟩ := cd.def_ 18 (d := d__law_cell_at) rfl
  obtain ⟨fd19, D19⟩ := cd.def_ 19 (d := d__law_mixed) rfl
  obtain ⟨fd20, D20⟩ := cd.def_ 20 (d := d__law_ends) rfl
  obtain ⟨fd21, D21⟩ := cd.def_ 21 (d := d__law_net) rfl
  obtain ⟨fd22, D22⟩ := cd.def_ 22 (d := d__law_net_drawn) rfl
  obtain ⟨fd23, D23⟩ := cd.def_ 23 (d := d__law_stretches) rfl
  obtain ⟨fd24, D24⟩ := cd.def_ 24 (d := d__law_swung) rfl
  obtain ⟨fd25, D25⟩ := cd.def_ 25 (d := d__law_table) rfl
  obtain ⟨fd26, D26⟩ := cd.def_ 26 (d := d__law_low) rfl
  obtain ⟨fd27, D27⟩ := cd.def_ 27 (d := d__law_sum) rfl
  obtain ⟨fd28, D28⟩ := cd.def_ 28 (d := d__law_said) rfl
  obtain ⟨fd29, D29⟩ := cd.def_ 29 (d := d__law_product) rfl
  obtain ⟨fd30, D30⟩ := cd.def_ 30 (d := d__law_values) rfl
  obtain ⟨fd31, D31⟩ := cd.def_ 31 (d := d_law) rfl
  have F0 : Fun K "__init__" "NoPick.__init__" s_init_NoPick (He.fAd K ("NoPick", some "__init__")) fd0 := funD_fun D0
  have b0 := F0.binds (ps := ["self", "at"]) fun _ _ _ _ _ _ us hl => match us, hl with | [_, _], _ => rfl
  have F1 : Fun K "is_whole" "is_whole" s_is_whole (He.ga K "is_whole") fd1 := funD_fun D1
  have b1 := F1.binds (ps := ["thing"]) fun _ _ _ _ _ _ us hl => match us, hl with | [_], _ => rfl
  have F2 : Fun K "is_fraction" "is_fraction" s_is_fraction (He.ga K "is_fraction") fd2 := funD_fun D2
  have b2 := F2.binds (ps := ["thing"]) fun _ _ _ _ _ _ us hl => match us, hl with | [_], _ => rfl
  have F3 : FunD K "fraction" "fraction" (defArgs s_fraction) (defBody s_fraction) (defScope s_fraction) [.int 1] [] (He.ga K "fraction") fd3 := D3
  obtain ⟨ds3_1, bd3_1⟩ := F3.binds1 (ps := ["top", "bottom"]) 1 0 (by simp) rfl (fun _ _ _ _ _ _ _ us its hl hi => match us, hl, its, hi with | [_], _, [_], _ => ⟨_, rfl, by with_unfolding_all rfl⟩)
  obtain ⟨ds3_2, bd3_2⟩ := F3.binds1 (ps := ["top", "bottom"]) 2 1 (by simp) rfl (fun _ _ _ _ _ _ _ us its hl hi => match us, hl, its, hi with | [_, _], _, [_], _ => ⟨_, rfl, by with_unfolding_all rfl⟩)
  have e3 : ds3_2 = [] := by cases bd3_2.1; rfl
  have b3 := bd3_2.2
  rw [e3] at b3
  have F4 : Fun K "plus" "plus" s_plus (He.ga K "plus") fd4 := funD_fun D4
  have b4 := F4.binds (ps := ["one", "other"]) fun _ _ _ _ _ _ us hl => match us, hl with | [_, _], _ => rfl
  have F5 : Fun K "times" "times" s_times (He.ga K "times") fd5 := funD_fun D5
  have b5 := F5.binds (ps := ["one", "other"]) fun _ _ _ _ _ _ us hl => match us, hl with | [_, _], _ => rfl
  have F6 : Fun K "is_long" "is_long" s_is_long (He.ga K "is_long") fd6 := funD_fun D6
  have b6 := F6.binds (ps := ["thing", "many"]) fun _ _ _ _ _ _ us hl => match us, hl with | [_, _], _ => rfl
  have F7 : Fun K "is_fractions" "is_fractions" s_is_fractions (He.ga K "is_fractions") fd7 := funD_fun D7
  have b7 := F7.binds (ps := ["thing", "many"]) fun _ _ _ _ _ _ us hl => match us, hl with | [_, _], _ => rfl
  have F8 : Fun K "is_table" "is_table" s_is_table (He.ga K "is_table") fd8 := funD_fun D8
  have b8 := F8.binds (ps := ["thing"]) fun _ _ _ _ _ _ us hl => match us, hl with | [_], _ => rfl
  have F9 : Fun K "is_row" "is_row" s_is_row (He.ga K "is_row") fd9 := funD_fun D9
  have b9 := F9.binds (ps := ["thing"]) fun _ _ _ _ _ _ us hl => match us, hl with | [_], _ => rfl
  have F10 : Fun K "check_table" "check_table" s_check_table (He.ga K "check_table") fd10 := funD_fun D10
  have b10 := F10.binds (ps := ["thing"]) fun _ _ _ _ _ _ us hl => match us, hl with | [_], _ => rfl
  have F11 : Fun K "turned" "turned" s_turned (He.ga K "turned") fd11 := funD_fun D11
  have b11 := F11.binds (ps := ["table"]) fun _ _ _ _ _ _ us hl => match us, hl with | [_], _ => rfl
  have F12 : Fun K "product" "product" s_product (He.ga K "product") fd12 := funD_fun D12
  have b12 := F12.binds (ps := ["one", "other"]) fun _ _ _ _ _ _ us hl => match us, hl with | [_, _], _ => rfl
  have F13 : Fun K "led" "led" s_led (He.ga K "led") fd13 := funD_fun D13
  have b13 := F13.binds (ps := ["table", "xs"]) fun _ _ _ _ _ _ us hl => match us, hl with | [_, _], _ => rfl
  have F14 : Fun K "row_sum" "row_sum" s_row_sum (He.ga K "row_sum") fd14 := funD_fun D14
  have b14 := F14.binds (ps := ["row", "xs"]) fun _ _ _ _ _ _ us hl => match us, hl with | [_, _], _ => rfl
  have F15 : Fun K "_law_source_of" "_law_source_of" s__law_source_of (He.ga K "_law_source_of") fd15 := funD_fun D15
  have b15 := F15.binds (ps := ["_law_cell"]) fun _ _ _ _ _ _ us hl => match us, hl with | [_], _ => rfl
  have F16 : Fun K "_law_next" "_law_next" s__law_next (He.ga K "_law_next") fd16 := funD_fun D16
  have b16 := F16.binds (ps := ["_law_source", "_law_many"]) fun _ _ _ _ _ _ us hl => match us, hl with | [_, _], _ => rfl
  have F17 : Fun K "_law_one" "_law_one" s__law_one (He.ga K "_law_one") fd17 := funD_fun D17
  have b17 := F17.binds (ps := ["_law_source", "_law_some"]) fun _ _ _ _ _ _ us hl => match us, hl with | [_, _], _ => rfl
  have F18 : Fun K "_law_cell_at" "_law_cell_at" s__law_cell_at (He.ga K "_law_cell_at") fd18 := funD_fun D18
  have b18 := F18.binds (ps := ["_law_script", "_law_k"]) fun _ _ _ _ _ _ us hl => match us, hl with | [_, _], _ => rfl
  have F19 : Fun K "_law_mixed" "_law_mixed" s__law_mixed (He.ga K "_law_mixed") fd19 := funD_fun D19
  have b19 := F19.binds (ps := ["_law_source", "_law_some"]) fun _ _ _ _ _ _ us hl => match us, hl with | [_, _], _ => rfl
  have F20 : Fun K "_law_ends" "_law_ends" s__law_ends (He.ga K "_law_ends") fd20 := funD_fun D20
  have b20 := F20.binds (ps := ["_law_source", "_law_many"]) fun _ _ _ _ _ _ us hl => match us, hl with | [_, _], _ => rfl
  have F21 : Fun K "_law_net" "_law_net" s__law_net (He.ga K "_law_net") fd21 := funD_fun D21
  have b21 := F21.binds (ps := ["_law_ends_here", "_law_arcs"]) fun _ _ _ _ _ _ us hl => match us, hl with | [_, _], _ => rfl
  have F22 : Fun K "_law_net_drawn" "_law_net_drawn" s__law_net_drawn (He.ga K "_law_net_drawn") fd22 := funD_fun D22
  have b22 := F22.binds (ps := ["_law_source", "_law_many", "_law_wide"]) fun _ _ _ _ _ _ us hl => match us, hl with | [_, _, _], _ => rfl
  have F23 : Fun K "_law_stretches" "_law_stretches" s__law_stretches (He.ga K "_law_stretches") fd23 := funD_fun D23
  have b23 := F23.binds (ps := ["_law_source", "_law_many", "_law_wide"]) fun _ _ _ _ _ _ us hl => match us, hl with | [_, _, _], _ => rfl
  have F24 : Fun K "_law_swung" "_law_swung" s__law_swung (He.ga K "_law_swung") fd24 := funD_fun D24
  have b24 := F24.binds (ps := ["_law_source", "_law_grid"]) fun _ _ _ _ _ _ us hl => match us, hl with | [_, _], _ => rfl
  have F25 : Fun K "_law_table" "_law_table" s__law_table (He.ga K "_law_table") fd25 := funD_fun D25
  have b25 := F25.binds (ps := ["_law_source", "_law_most"]) fun _ _ _ _ _ _ us hl => match us, hl with | [_, _], _ => rfl
  have F26 : Fun K "_law_low" "_law_low" s__law_low (He.ga K "_law_low") fd26 := funD_fun D26
  have b26 := F26.binds (ps := ["_law_top", "_law_bottom"]) fun _ _ _ _ _ _ us hl => match us, hl with | [_, _], _ => rfl
  have F27 : Fun K "_law_sum" "_law_sum" s__law_sum (He.ga K "_law_sum") fd27 := funD_fun D27
  have b27 := F27.binds (ps := ["_law_values_here"]) fun _ _ _ _ _ _ us hl => match us, hl with | [_], _ => rfl
  have F28 : Fun K "_law_said" "_law_said" s__law_said (He.ga K "_law_said") fd28 := funD_fun D28
  have b28 := F28.binds (ps := ["_law_deed"]) fun _ _ _ _ _ _ us hl => match us, hl with | [_], _ => rfl
  have F29 : Fun K "_law_product" "_law_product" s__law_product (He.ga K "_law_product") fd29 := funD_fun D29
  have b29 := F29.binds (ps := ["_law_this", "_law_that"]) fun _ _ _ _ _ _ us hl => match us, hl with | [_, _], _ => rfl
  have F30 : Fun K "_law_values" "_law_values" s__law_values (He.ga K "_law_values") fd30 := funD_fun D30
  have b30 := F30.binds (ps := ["_law_source", "_law_many"]) fun _ _ _ _ _ _ us hl => match us, hl with | [_, _], _ => rfl
  have F31 : Fun K "law" "law" s_law (He.ga K "law") fd31 := funD_fun D31
  have b31 := F31.binds (ps := ["_law_script"]) fun _ _ _ _ _ _ us hl => match us, hl with | [_], _ => rfl
  obtain ⟨tk_MOST, gk_MOST⟩ := He.int_ok X G (cd.fact 49 (f := .int "MOST" 8) rfl)
  have e := hfa.symm.trans (He.glo_ok X G (cd.fact 30 (f := .glo "law") rfl))
  cases e
  obtain ⟨ocL, odL, kVL, docL, pmL, anL, cdvL, ctL, oslL, eL, lkL, hcL⟩ := F31.ex
  obtain ⟨cL, ecL⟩ := He.codeIn_ref hcL
  subst ecL
  have eC : He.codeOf K ("law", none) = cL := by
    have lk2 := lkL
    rw [eL] at lk2
    exact He.codeOf_eq (p := ("law", none)) lk2 rfl
  let T : Txt K mg := {
    f_init_NoPick := (He.fAd K ("NoPick", some "__init__")), fd_init_NoPick := fd0, F_init_NoPick := F0, b_init_NoPick := b0,
    f_is_whole := (He.ga K "is_whole"), fd_is_whole := fd1, F_is_whole := F1, g_is_whole := He.glo_ok X G (cd.fact 0 (f := .glo "is_whole") rfl), k_is_whole := F1.kp, b_is_whole := b1,
    f_is_fraction := (He.ga K "is_fraction"), fd_is_fraction := fd2, F_is_fraction := F2, g_is_fraction := He.glo_ok X G (cd.fact 1 (f := .glo "is_fraction") rfl), k_is_fraction := F2.kp, b_is_fraction := b2,
    f_fraction := (He.ga K "fraction"), fd_fraction := fd3, F_fraction := F3, g_fraction := He.glo_ok X G (cd.fact 2 (f := .glo "fraction") rfl), k_fraction := F3.kp, b_fraction := b3, d_fraction_1 := ds3_1, b_fraction_1 := bd3_1,
    f_plus := (He.ga K "plus"), fd_plus := fd4, F_plus := F4, g_plus := He.glo_ok X G (cd.fact 3 (f := .glo "plus") rfl), k_plus := F4.kp, b_plus := b4,
    f_times := (He.ga K "times"), fd_times := fd5, F_times := F5, g_times := He.glo_ok X G (cd.fact 4 (f := .glo "times") rfl), k_times := F5.kp, b_times := b5,
    f_is_long := (He.ga K "is_long"), fd_is_long := fd6, F_is_long := F6, g_is_long := He.glo_ok X G (cd.fact 5 (f := .glo "is_long") rfl), k_is_long := F6.kp, b_is_long := b6,
    f_is_fractions := (He.ga K "is_fractions"), fd_is_fractions := fd7, F_is_fractions := F7, g_is_fractions := He.glo_ok X G (cd.fact 6 (f := .glo "is_fractions") rfl), k_is_fractions := F7.kp, b_is_fractions := b7,
    f_is_table := (He.ga K "is_table"), fd_is_table := fd8, F_is_table := F8, g_is_table := He.glo_ok X G (cd.fact 7 (f := .glo "is_table") rfl), k_is_table := F8.kp, b_is_table := b8,
    f_is_row := (He.ga K "is_row"), fd_is_row := fd9, F_is_row := F9, g_is_row := He.glo_ok X G (cd.fact 8 (f := .glo "is_row") rfl), k_is_row := F9.kp, b_is_row := b9,
    f_check_table := (He.ga K "check_table"), fd_check_table := fd10, F_check_table := F10, g_check_table := He.glo_ok X G (cd.fact 9 (f := .glo "check_table") rfl), k_check_table := F10.kp, b_check_table := b10,
    f_turned := (He.ga K "turned"), fd_turned := fd11, F_turned := F11, g_turned := He.glo_ok X G (cd.fact 10 (f := .glo "turned") rfl), k_turned := F11.kp, b_turned := b11,
    f_product := (He.ga K "product"), fd_product := fd12, F_product := F12, g_product := He.glo_ok X G (cd.fact 11 (f := .glo "product") rfl), k_product := F12.kp, b_product := b12,
    f_led := (He.ga K "led"), fd_led := fd13, F_led := F13, g_led := He.glo_ok X G (cd.fact 12 (f := .glo "led") rfl), k_led := F13.kp, b_led := b13,
    f_row_sum := (He.ga K "row_sum"), fd_row_sum := fd14, F_row_sum := F14, g_row_sum := He.glo_ok X G (cd.fact 13 (f := .glo "row_sum") rfl), k_row_sum := F14.kp, b_row_sum := b14,
    f__law_source_of := (He.ga K "_law_source_of"), fd__law_source_of := fd15, F__law_source_of := F15, g__law_source_of := He.glo_ok X G (cd.fact 14 (f := .glo "_law_source_of") rfl), k__law_source_of := F15.kp, b__law_source_of := b15,
    f__law_next := (He.ga K "_law_next"), fd__law_next := fd16, F__law_next := F16, g__law_next := He.glo_ok X G (cd.fact 15 (f := .glo "_law_next") rfl), k__law_next := F16.kp, b__law_next := b16,
    f__law_one := (He.ga K "_law_one"), fd__law_one := fd17, F__law_one := F17, g__law_one := He.glo_ok X G (cd.fact 16 (f := .glo "_law_one") rfl), k__law_one := F17.kp, b__law_one := b17,
    f__law_cell_at := (He.ga K "_law_cell_at"), fd__law_cell_at := fd18, F__law_cell_at := F18, g__law_cell_at := He.glo_ok X G (cd.fact 17 (f := .glo "_law_cell_at") rfl), k__law_cell_at := F18.kp, b__law_cell_at := b18,
    f__law_mixed := (He.ga K "_law_mixed"), fd__law_mixed := fd19, F__law_mixed := F19, g__law_mixed := He.glo_ok X G (cd.fact 18 (f := .glo "_law_mixed") rfl), k__law_mixed := F19.kp, b__law_mixed := b19,
    f__law_ends := (He.ga K "_law_ends"), fd__law_ends := fd20, F__law_ends := F20, g__law_ends := He.glo_ok X G (cd.fact 19 (f := .glo "_law_ends") rfl), k__law_ends := F20.kp, b__law_ends := b20,
    f__law_net := (He.ga K "_law_net"), fd__law_net := fd21, F__law_net := F21, g__law_net := He.glo_ok X G (cd.fact 20 (f := .glo "_law_net") rfl), k__law_net := F21.kp, b__law_net := b21,
    f__law_net_drawn := (He.ga K "_law_net_drawn"), fd__law_net_drawn := fd22, F__law_net_drawn := F22, g__law_net_drawn := He.glo_ok X G (cd.fact 21 (f := .glo "_law_net_drawn") rfl), k__law_net_drawn := F22.kp, b__law_net_drawn := b22,
    f__law_stretches := (He.ga K "_law_stretches"), fd__law_stretches := fd23, F__law_stretches := F23, g__law_stretches := He.glo_ok X G (cd.fact 22 (f := .glo "_law_stretches") rfl), k__law_stretches := F23.kp, b__law_stretches := b23,
    f__law_swung := (He.ga K "_law_swung"), fd__law_swung := fd24, F__law_swung := F24, g__law_swung := He.glo_ok X G (cd.fact 23 (f := .glo "_law_swung") rfl), k__law_swung := F24.kp, b__law_swung := b24,
    f__law_table := (He.ga K "_law_table"), fd__law_table := fd25, F__law_table := F25, g__law_table := He.glo_ok X G (cd.fact 24 (f := .glo "_law_table") rfl), k__law_table := F25.kp, b__law_table := b25,
    f__law_low := (He.ga K "_law_low"), fd__law_low := fd26, F__law_low := F26, g__law_low := He.glo_ok X G (cd.fact 25 (f := .glo "_law_low") rfl), k__law_low := F26.kp, b__law_low := b26,
    f__law_sum := (He.ga K "_law_sum"), fd__law_sum := fd27, F__law_sum := F27, g__law_sum := He.glo_ok X G (cd.fact 26 (f := .glo "_law_sum") rfl), k__law_sum := F27.kp, b__law_sum := b27,
    f__law_said := (He.ga K "_law_said"), fd__law_said := fd28, F__law_said := F28, g__law_said := He.glo_ok X G (cd.fact 27 (f := .glo "_law_said") rfl), k__law_said := F28.kp, b__law_said := b28,
    f__law_product := (He.ga K "_law_product"), fd__law_product := fd29, F__law_product := F29, g__law_product := He.glo_ok X G (cd.fact 28 (f := .glo "_law_product") rfl), k__law_product := F29.kp, b__law_product := b29,
    f__law_values := (He.ga K "_law_values"), fd__law_values := fd30, F__law_values := F30, g__law_values := He.glo_ok X G (cd.fact 29 (f := .glo "_law_values") rfl), k__law_values := F30.kp, b__law_values := b30,
    f_law := (He.ga K "law"), fd_law := fd31, F_law := F31, g_law := He.glo_ok X G (cd.fact 30 (f := .glo "law") rfl), k_law := F31.kp, b_law := b31,
    f_SignError := He.ga K "SignError", g_SignError := He.glo_ok X G (cd.fact 31 (f := .glo "SignError") rfl),
    f_NoFraction := He.ga K "NoFraction", g_NoFraction := He.glo_ok X G (cd.fact 32 (f := .glo "NoFraction") rfl),
    f_BadTable := He.ga K "BadTable", g_BadTable := He.glo_ok X G (cd.fact 33 (f := .glo "BadTable") rfl),
    f_NoFit := He.ga K "NoFit", g_NoFit := He.glo_ok X G (cd.fact 34 (f := .glo "NoFit") rfl),
    f_NoPivot := He.ga K "NoPivot", g_NoPivot := He.glo_ok X G (cd.fact 35 (f := .glo "NoPivot") rfl),
    f_NoPick := He.ga K "NoPick", g_NoPick := He.glo_ok X G (cd.fact 36 (f := .glo "NoPick") rfl),
    n_abs := He.free_ok X G (cd.fact 37 (f := .free "abs") rfl),
    n_all := He.free_ok X G (cd.fact 38 (f := .free "all") rfl),
    n_bool := He.free_ok X G (cd.fact 39 (f := .free "bool") rfl),
    n_enumerate := He.free_ok X G (cd.fact 40 (f := .free "enumerate") rfl),
    n_int := He.free_ok X G (cd.fact 41 (f := .free "int") rfl),
    n_isinstance := He.free_ok X G (cd.fact 42 (f := .free "isinstance") rfl),
    n_len := He.free_ok X G (cd.fact 43 (f := .free "len") rfl),
    n_list := He.free_ok X G (cd.fact 44 (f := .free "list") rfl),
    n_range := He.free_ok X G (cd.fact 45 (f := .free "range") rfl),
    n_sum := He.free_ok X G (cd.fact 46 (f := .free "sum") rfl),
    n_tuple := He.free_ok X G (cd.fact 47 (f := .free "tuple") rfl),
    n_zip := He.free_ok X G (cd.fact 48 (f := .free "zip") rfl),
    t_MOST := tk_MOST, g_MOST := gk_MOST,
    g_gcd := PySem.W.mg_of X G (of_decide_eq_true (ex_at ce 0 rfl)),
    k_SignError := of_decide_eq_true (ex_at ce 1 rfl),
    ex_SignError := of_decide_eq_true (ex_at ce 2 rfl),
    tx_SignError := of_decide_eq_true (ex_at ce 3 rfl),
    k_NoFraction := of_decide_eq_true (ex_at ce 4 rfl),
    ex_NoFraction := of_decide_eq_true (ex_at ce 5 rfl),
    tx_NoFraction := of_decide_eq_true (ex_at ce 6 rfl),
    x_NoFraction := of_decide_eq_true (ex_at ce 7 rfl),
    k_BadTable := of_decide_eq_true (ex_at ce 8 rfl),
    ex_BadTable := of_decide_eq_true (ex_at ce 9 rfl),
    tx_BadTable := of_decide_eq_true (ex_at ce 10 rfl),
    x_BadTable := of_decide_eq_true (ex_at ce 11 rfl),
    k_NoFit := of_decide_eq_true (ex_at ce 12 rfl),
    ex_NoFit := of_decide_eq_true (ex_at ce 13 rfl),
    tx_NoFit := of_decide_eq_true (ex_at ce 14 rfl),
    x_NoFit := of_decide_eq_true (ex_at ce 15 rfl),
    k_NoPivot := of_decide_eq_true (ex_at ce 16 rfl),
    ex_NoPivot := of_decide_eq_true (ex_at ce 17 rfl),
    tx_NoPivot := of_decide_eq_true (ex_at ce 18 rfl),
    x_NoPivot := of_decide_eq_true (ex_at ce 19 rfl),
    k_NoPick := of_decide_eq_true (ex_at ce 20 rfl),
    ex_NoPick := of_decide_eq_true (ex_at ce 21 rfl),
    tx_NoPick := of_decide_eq_true (ex_at ce 22 rfl),
    rd_SignError := of_decide_eq_true (ex_at ce 23 rfl),
    ga_SignError := of_decide_eq_true (ex_at ce 24 rfl),
    fi_SignError := fiB_ok (ex_at ce 25 rfl),
    own_NoPick := ownB_ok (ex_at ce 26 rfl),
    i_NoPick := of_decide_eq_true (ex_at ce 27 rfl),
    ty_NoPick := of_decide_eq_true (ex_at ce 28 rfl),
    no_NoPick := of_decide_eq_true (ex_at ce 29 rfl),
    xf_NoFit := xfB_ok (ex_at ce 30 rfl),
    ec_NoFit := ecB_ok (ex_at ce 31 rfl),
    exm_NoFit := of_decide_eq_true (ex_at ce 32 rfl),
    kit_NoFit_BadTable := of_decide_eq_true (ex_at ce 33 rfl),
    kit_NoFit_NoFit := of_decide_eq_true (ex_at ce 34 rfl),
    kit_NoFit_NoPivot := of_decide_eq_true (ex_at ce 35 rfl),
    kit_NoFit_NoPick := of_decide_eq_true (ex_at ce 36 rfl),
    c_law := cL, P_law := He.tabOf K cL, lkL := ⟨ocL, odL, kVL, docL, pmL, anL, ctL, oslL, eL, lkL, hcL⟩ }
  have m0 : (("law", none) : He.Defn) ∈ tfL := List.mem_singleton.mpr rfl
  have q1 := c.empty _ m0
  have q2 := c.out _ m0
  have q3 := c.hd _ m0
  have eT : He.cT K ("law", none) = (cL, He.tabOf K cL) := by unfold He.cT; rw [eC]
  rw [eT] at q1 q2 q3
  refine ⟨fd31, [(cL, He.tabOf K cL)], sp_law K (He.tabOf K cL), fun p hp => ?_, fun p hp => ?_, fun p hp => ?_, ?_, ?_, ?_⟩
  · rw [List.mem_singleton.mp hp]; exact q1
  · rw [List.mem_singleton.mp hp]; exact q2
  · rw [List.mem_singleton.mp hp]; exact PySem.W.codeHd_of_K X q3
  · intro s u; exact FunD.bindsA (ps := ["_law_script"]) D31 (fun _ _ _ _ _ _ us hl => match us, hl with | [_], _ => rfl) s [u] rfl
  · intro H a ns hl hbits hP hS; exact ⟨a, ns, rfl, hS, hl, hP _ (List.mem_singleton.mpr rfl), fun _ => rfl⟩
  · intro base _ _ hB; exact ok_law (base := base) T (hB _ (List.mem_singleton.mpr rfl))
end SbD
open PySem PySem.W PySem.Calls PyProof.Rows
set_option maxRecDepth 100000 in
set_option maxHeartbeats 0 in
theorem PySem.Challenge.cw_signbook_k06_products_and_led_holds : PySem.Challenge.rw_signbook_k06_products_and_led.Holds := by
  w_on; o_law
  refine HandSHeadRun.head_imp (r := OpenLaw.row PySem.Challenge.rw_signbook_k06_products_and_led) (q := view (OpenLaw.row PySem.Challenge.rw_signbook_k06_products_and_led).prog [0, 43]) (H := SbD.hkL) (ob := SbD.obL) (M := 60000) (loose := SbD.looseL) (d := HandSHeadRun.topDef (OpenLaw.row PySem.Challenge.rw_signbook_k06_products_and_led).prog 43) (kwd := []) SbD.ob_eqL
    SbD.runL (by kernel_rfl) (by kernel_rfl) (by kernel_rfl) (by rfl) (by first | assumption | decide +kernel) (by decide +kernel) ⟨rfl, rfl, rfl, rfl, rfl, by decide +kernel⟩ ?hw ?hc
  case hw => w_witness2
  case hc =>
    refine LamX.walk_ofTsE (l := PySem.Challenge.rw_signbook_k06_products_and_led) (n := 63) (k := 9) (x := "_law_script") (CX := fun _ => L2.CX0) rfl (by decide) (by kernel_rfl) ⟨rfl, by decide, by decide⟩ ?F (fun _ _ _ _ _ z => z)
    intro w mg fa h Y G hmg0
    obtain ⟨K, KX, c⟩ := Y
    have hmg : mg ("law" : PySem.Str) = some (.ref fa) := by
      have e : (HandSHeadRun.topDef (OpenLaw.row PySem.Challenge.rw_signbook_k06_products_and_led).prog 43).name = ("law" : PySem.Str) := by kernel_rfl
      rw [← e]
      exact hmg0
    exact ⟨K, KX, SbD.factsL KX G hmg c⟩
